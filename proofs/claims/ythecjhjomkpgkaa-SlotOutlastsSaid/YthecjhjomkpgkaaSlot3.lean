/- bytes.Equal; slot.Read. -/
import Derived.Test.YthecjhjomkpgkaaSlot2
namespace Go.Proofs.Ythecjhjomkpgkaa.K
open Go.ChangeShapes Go.WideShapes Go.ChangeAt Go.RowKit
set_option linter.unusedVariables false

theorem str_beq {a b : List Int} (ha : ∀ x ∈ a, 0 ≤ x ∧ x ≤ 255) (hb : ∀ x ∈ b, 0 ≤ x ∧ x ≤ 255) : ((strOfNums a).toList == (strOfNums b).toList) = decide (a = b) := by
  rw [Bool.eq_iff_iff]
  simp only [beq_iff_eq, decide_eq_true_eq]
  constructor
  · intro h
    refine str_inj ha hb (bytes_inj ?_)
    rw [← ByteArray.toList_eq, ← ByteArray.toList_eq]
    exact h
  · rintro rfl; rfl

set_option maxRecDepth 100000 in
theorem equal_any (w : World) (u v : Value) (xs ys : List Int) (hu : IsNums .u8 w u xs) (hv : IsNums .u8 w v ys) (hx : ∀ x ∈ xs, 0 ≤ x ∧ x ≤ 255) (hy : ∀ x ∈ ys, 0 ≤ x ∧ x ≤ 255) :
    Calls Try.prog 50 #[u, v] w fun e w' => e = .returned (.bool (decide (xs = ys))) ∧ w' = w := by
  obtain ⟨p1, c1, rfl, -⟩ := id hu
  obtain ⟨p2, c2, rfl, -⟩ := id hv
  have h1 := conv_str (P := Try.prog) hu 25 5 Try.underlying25 Try.underlying5 9 Try.underlying9
  have h2 := conv_str (P := Try.prog) hv 25 5 Try.underlying25 Try.underlying5 9 Try.underlying9
  have HD := Lib.hid (str_beq hx hy)
  clear hu hv hx hy
  go_enter Try.func50, Try.ntmps50
  go_wp2
  go_ret
  exact ⟨ret_bool HD.out, rfl⟩

theorem infoSl : (Try.prog.info? 24).map (·.size) = some 3 := by kernel_rfl
/-- The slot that bytes are. -/
def readS (bs : List Int) : Option (Nat × Nat × Nat) :=
  if bs.length = 64 ∧ num8 bs 8 ≠ 0 ∧ num8 (bs.drop 16) 8 ≤ 1 ∧ slotB (num8 bs 8) (num8 (bs.drop 8) 8) (num8 (bs.drop 16) 8) = bs then some (num8 bs 8, num8 (bs.drop 8) 8, num8 (bs.drop 16) 8) else none
def slotO : Option (Nat × Nat × Nat) → Value
  | some (c, g, a) => slotV c g a
  | none => slotV 0 0 0
theorem readS_no {bs : List Int} (h : ¬ (bs.length = 64 ∧ num8 bs 8 ≠ 0 ∧ num8 (bs.drop 16) 8 ≤ 1 ∧ slotB (num8 bs 8) (num8 (bs.drop 8) 8) (num8 (bs.drop 16) 8) = bs)) : readS bs = none := if_neg h
def ReadPost (w : World) (r : Option (Nat × Nat × Nat)) (e : Ending) (w' : World) : Prop := e = .returned (.tuple #[slotO r, .bool r.isSome]) ∧ Below w.heap.size w w'

theorem IsNums.dropAt {k : IntKind} {w : World} {b o n c : Nat} {bs : List Int} (h : IsNums k w (.slice (some ⟨b, o, none⟩) n c) bs) (j : Nat) (hj : j < bs.length) (hn : n = bs.length) : IsNums k w (.slice (some ⟨b, o + j, none⟩) (n - j) (c - j)) (bs.drop j) := by
  obtain ⟨a', c', e1, h0 | ⟨b', o', e2, h1, h2⟩⟩ := h
  · omega
  · injection e1 with e1 e3 e4
    subst e1
    injection e2 with e2
    injection e2 with e2 e5
    subst e2 e5 hn
    refine ⟨_, c - j, by rw [List.length_drop], .inr ⟨b, o + j, rfl, h1, fun i hi => ?_⟩⟩
    rw [List.length_drop] at hi
    have := h2 (j + i) (by omega)
    rw [← Nat.add_assoc] at this
    rw [this]
    simp [List.getD, List.getElem?_drop]

set_option maxRecDepth 100000 in
set_option maxHeartbeats 1000000 in
theorem sread_long (w : World) (p : Option Addr) (n c : Nat) (bs : List Int) (hb : bs.length = n) (hn : n ≠ 64) :
    Calls Try.prog 13 #[.slice p n c] w (ReadPost w (readS bs)) := by
  have hnI : ¬ (n : Int) = 64 := by omega
  rw [readS_no (fun h => hn (hb.symm.trans h.1))]
  clear hb
  go_enter Try.func13, Try.ntmps13
  go_wp2
  go_returns
  exact ⟨rfl, (Below.refl _ _).alloc (Nat.le_refl _) _⟩

set_option maxRecDepth 100000 in
set_option maxHeartbeats 1000000 in
theorem sread_64 (w : World) (b o c : Nat) (bs : List Int) (hv : IsNums .u8 w (.slice (some ⟨b, o, none⟩) 64 c) bs) (hl : bs.length = 64) (hc : 64 ≤ c) (hb : ∀ x ∈ bs, 0 ≤ x ∧ x ≤ 255) :
    Calls Try.prog 13 #[.slice (some ⟨b, o, none⟩) 64 c] w (ReadPost w (readS bs)) := by
  have hget : ∀ k, k ≤ 16 → ∀ j, j < (bs.drop k).length → 0 ≤ (bs.drop k).getD j 0 ∧ (bs.drop k).getD j 0 ≤ 255 := fun k _ j hj => by
    have : (bs.drop k).getD j 0 = (bs.drop k)[j] := by rw [List.getD_eq_getElem?_getD, List.getElem?_eq_getElem hj]; rfl
    rw [this]; exact hb _ (List.mem_of_mem_drop (List.getElem_mem hj))
  have HB0 := Lib.hid (hget 0 (by omega))
  rw [List.drop_zero] at HB0
  have HB8 := Lib.hid (hget 8 (by omega))
  have HB16 := Lib.hid (hget 16 (by omega))
  have HL0 := Lib.hid hl
  have HL8 : Hid ((bs.drop 8).length = 56) := Lib.hid (by rw [List.length_drop]; omega)
  have HL16 : Hid ((bs.drop 16).length = 48) := Lib.hid (by rw [List.length_drop]; omega)
  have hv1 : ∀ W, Below w.heap.size w W → IsNums .u8 W (.slice (some ⟨b, o, none⟩) 64 c) bs := fun W hW => hv.below hW (Nat.le_refl _)
  have hbl : Below w.heap.size w (w.alloc (.cells #[.int .u64 0, .int .u64 0, .int .i64 0] 24)).drew := ((Below.refl _ _).alloc (Nat.le_refl _) _).drew
  have N0 := Lib.hid (hv1 _ hbl)
  have N8 := Lib.hid ((hv1 _ hbl).dropAt 8 (by omega) hl.symm)
  have N16 := Lib.hid ((hv1 _ hbl).dropAt 16 (by omega) hl.symm)
  have HV := Lib.hid hv1
  have HBB := Lib.hid hb
  have BL := Lib.hid hbl
  have hl0 := num8_lt bs (fun j hj => HB0.out j (by omega)) 8 (Nat.le_refl _)
  have hl8 := num8_lt (bs.drop 8) (fun j hj => HB8.out j (by rw [HL8.out]; omega)) 8 (Nat.le_refl _)
  have hl16 := num8_lt (bs.drop 16) (fun j hj => HB16.out j (by rw [HL16.out]; omega)) 8 (Nat.le_refl _)
  have hRS : readS bs = if bs.length = 64 ∧ num8 bs 8 ≠ 0 ∧ num8 (bs.drop 16) 8 ≤ 1 ∧ slotB (num8 bs 8) (num8 (bs.drop 8) 8) (num8 (bs.drop 16) 8) = bs then some (num8 bs 8, num8 (bs.drop 8) 8, num8 (bs.drop 16) 8) else none := rfl
  obtain ⟨c0, e0⟩ : ∃ x, num8 bs 8 = x := ⟨_, rfl⟩
  obtain ⟨g0, e8⟩ : ∃ x, num8 (bs.drop 8) 8 = x := ⟨_, rfl⟩
  obtain ⟨a0, e16⟩ : ∃ x, num8 (bs.drop 16) 8 = x := ⟨_, rfl⟩
  rw [e0] at hl0
  rw [e8] at hl8
  rw [e16] at hl16
  rw [e0, e8, e16] at hRS
  have E0 := Lib.hid e0
  have E8 := Lib.hid e8
  have E16 := Lib.hid e16
  obtain ⟨R, hR⟩ : ∃ R, readS bs = R := ⟨_, rfl⟩
  rw [hR] at hRS ⊢
  have HRS := Lib.hid hRS
  clear hget hv hv1 hbl hb hRS hR e0 e8 e16
  have hcI : (64 : Int) ≤ c := by omega
  have hc8 : ¬ c = 8 := by omega
  have hc16 : ¬ c = 16 := by omega
  go_enter Try.func13, Try.ntmps13
  go_wp2_with fail
  refine regionE_begin 7 (fun _ => True) (by kernel_rfl) ?_
  refine stepE_any 0 (some 12) (v := ?va0) (fun _ => trivial) rfl (by rfl) (by kernel_rfl) (by kernel_rfl) (by kernel_rfl) (by decide) (fun _ _ _ h => h) (by rfl) ?ya0 ?na0
  case ya0 => intro W; go_simp; try with_reducible rfl
  try simp only [Act.put, List.setIfInBounds_toArray, List.set_cons_zero, List.set_cons_succ]
  refine stepE_any 2 (some 14) (v := ?va2) (fun _ => trivial) rfl (by rfl) (by kernel_rfl) (by kernel_rfl) (by kernel_rfl) (by decide) (fun _ _ _ h => h) (by rfl) ?ya2 ?na2
  case ya2 => intro W; go_simp; try with_reducible rfl
  try simp only [Act.put, List.setIfInBounds_toArray, List.set_cons_zero, List.set_cons_succ]
  refine stepE_any 3 (some 15) (v := ?va3) (fun _ => trivial) rfl (by rfl) (by kernel_rfl) (by kernel_rfl) (by kernel_rfl) (by decide) (fun _ _ _ h => h) (by rfl) ?ya3 ?na3
  case ya3 => intro W; go_simp; try with_reducible rfl
  try simp only [Act.put, List.setIfInBounds_toArray, List.set_cons_zero, List.set_cons_succ]
  refine stepE_any 5 (some 17) (v := ?va5) (fun _ => trivial) rfl (by rfl) (by kernel_rfl) (by kernel_rfl) (by kernel_rfl) (by decide) (fun _ _ _ h => h) (by rfl) ?ya5 ?na5
  case ya5 => intro W; go_simp; try with_reducible rfl
  try simp only [Act.put, List.setIfInBounds_toArray, List.set_cons_zero, List.set_cons_succ]
  refine stepE_any 6 (some 18) (v := ?va6) (fun _ => trivial) rfl (by rfl) (by kernel_rfl) (by kernel_rfl) (by kernel_rfl) (by decide) (fun _ _ _ h => h) (by rfl) ?ya6 ?na6
  case ya6 => intro W; go_simp; try with_reducible rfl
  try simp only [Act.put, List.setIfInBounds_toArray, List.set_cons_zero, List.set_cons_succ]
  -- 1: call:49 -> 13
  refine stepE_only 1 rfl (by kernel_rfl) (by rfl) (fun K' hK => ?_)
  go_simp
  refine (get8_any _ _ bs N0.out (by rw [HL0.out]; omega) HB0.out).mono ?_
  rintro e w9 ⟨rfl, rfl⟩
  rw [E0.out]
  refine hK _ _ trivial ?_
  clear hK K'
  try simp only [Act.put, List.setIfInBounds_toArray, List.set_cons_zero, List.set_cons_succ]
  -- 4: call:49 -> 16
  refine stepE_only 4 rfl (by kernel_rfl) (by rfl) (fun K' hK => ?_)
  go_simp
  refine (get8_any _ _ (bs.drop 8) N8.out (by rw [HL8.out]; omega) HB8.out).mono ?_
  rintro e w9 ⟨rfl, rfl⟩
  rw [E8.out]
  refine hK _ _ trivial ?_
  clear hK K'
  try simp only [Act.put, List.setIfInBounds_toArray, List.set_cons_zero, List.set_cons_succ]
  -- 7: call:49 -> 19
  refine stepE_end 7 rfl (by kernel_rfl) (by rfl) (by rfl) (fun K' hK => ?_)
  go_simp
  refine (get8_any _ _ (bs.drop 16) N16.out (by rw [HL16.out]; omega) HB16.out).mono ?_
  rintro e w9 ⟨rfl, rfl⟩
  rw [E16.out]
  refine hK _ _ ?_
  clear hK K'
  try simp only [Act.put, List.setIfInBounds_toArray, List.set_cons_zero, List.set_cons_succ]
  refine stepE_any 8 (some 4) (v := ?va8) (fun h => (Bool.false_ne_true (h.symm.trans (by rfl))).elim) rfl (by rfl) (by kernel_rfl) (by kernel_rfl) (by kernel_rfl) (by decide) (fun _ _ _ h => h) (by rfl) ?ya8 ?na8
  case ya8 => intro W; go_simp; try with_reducible rfl
  try simp only [Act.put, List.setIfInBounds_toArray, List.set_cons_zero, List.set_cons_succ]
  refine stepE_any 9 (some 5) (v := ?va9) (fun h => (Bool.false_ne_true (h.symm.trans (by rfl))).elim) rfl (by rfl) (by kernel_rfl) (by kernel_rfl) (by kernel_rfl) (by decide) (fun _ _ _ h => h) (by rfl) ?ya9 ?na9
  case ya9 => intro W; go_simp; try with_reducible rfl
  try simp only [Act.put, List.setIfInBounds_toArray, List.set_cons_zero, List.set_cons_succ]
  refine stepE_any 10 (some 6) (v := ?va10) (fun h => (Bool.false_ne_true (h.symm.trans (by rfl))).elim) rfl (by rfl) (by kernel_rfl) (by kernel_rfl) (by kernel_rfl) (by decide) (fun _ _ _ h => h) (by rfl) ?ya10 ?na10
  case ya10 => intro W; go_simp; try with_reducible rfl
  try simp only [Act.put, List.setIfInBounds_toArray, List.set_cons_zero, List.set_cons_succ]
  refine wpAnyE_done (by kernel_rfl) ?_ _
  clear N8 N16 HB8 HB16 HB0 HL8 HL16
  by_cases hc0 : c0 = 0
  · subst hc0
    obtain rfl : R = none := by rw [HRS.out, if_neg]; exact fun h => h.2.1 rfl
    rw [show ((0 : Nat) : Int) = 0 from rfl]
    go_wp2
    go_returns
    exact ⟨rfl, BL.out⟩
  · have hc0I : ¬ (c0 : Int) = 0 := by omega
    by_cases ha1 : 1 < a0
    · obtain rfl : R = none := by rw [HRS.out, if_neg]; exact fun h => by have := h.2.2.1; omega
      have ha1I : (1 : Int) < a0 := by omega
      go_wp2
      go_returns
      exact ⟨rfl, BL.out⟩
    · have ha1I : ¬ (1 : Int) < a0 := by omega
      have hwa : IntKind.i64.wrap (a0 : Int) = (a0 : Int) := IntWalk.i64_in _ (by omega)
      have hs2 : ((w.alloc (.cells #[.int .u64 0, .int .u64 0, .int .i64 0] 24)).alloc (.cells #[.int .u64 c0, .int .u64 g0, .int .i64 a0] 24)).drew.heap.size = w.heap.size + 2 := by
        show ((w.alloc (.cells #[.int .u64 0, .int .u64 0, .int .i64 0] 24)).alloc (.cells #[.int .u64 c0, .int .u64 g0, .int .i64 a0] 24)).heap.size = _
        simp
      have hb2 : Below w.heap.size w ((w.alloc (.cells #[.int .u64 0, .int .u64 0, .int .i64 0] 24)).alloc (.cells #[.int .u64 c0, .int .u64 g0, .int .i64 a0] 24)).drew := (((Below.refl _ _).alloc (Nat.le_refl _) _).alloc (by simp) _).drew
      have hx2 : Blk ((w.alloc (.cells #[.int .u64 0, .int .u64 0, .int .i64 0] 24)).alloc (.cells #[.int .u64 c0, .int .u64 g0, .int .i64 a0] 24)).drew w.heap.size 24 [.int .u64 0, .int .u64 0, .int .i64 0] := (((Blk.alloc w 24 #[.int .u64 0, .int .u64 0, .int .i64 0]).keep (Keep.alloc (fun _ => False) _ _) (fun h => h))).keep (Keep.drew (fun _ => False) _) (fun h => h)
      have hy2 : Blk ((w.alloc (.cells #[.int .u64 0, .int .u64 0, .int .i64 0] 24)).alloc (.cells #[.int .u64 c0, .int .u64 g0, .int .i64 a0] 24)).drew (w.heap.size + 1) 24 [.int .u64 c0, .int .u64 g0, .int .i64 a0] := by
        have h := (Blk.alloc (w.alloc (.cells #[.int .u64 0, .int .u64 0, .int .i64 0] 24)) 24 #[.int .u64 c0, .int .u64 g0, .int .i64 a0]).keep (Keep.drew (fun _ => False) _) (fun h => h)
        rw [show (w.alloc (.cells #[.int .u64 0, .int .u64 0, .int .i64 0] 24)).heap.size = w.heap.size + 1 by simp] at h
        exact h
      have HS2 := Lib.hid hs2
      have HB2 := Lib.hid hb2
      have HX2 := Lib.hid hx2
      have HY2 := Lib.hid hy2
      clear hs2 hb2 hx2 hy2 N0
      go_wp2_with fail
      obtain ⟨W2, hW2⟩ : ∃ x, ((w.alloc (.cells #[.int .u64 0, .int .u64 0, .int .i64 0] 24)).alloc (.cells #[.int .u64 c0, .int .u64 g0, .int .i64 a0] 24)).drew = x := ⟨_, rfl⟩
      rw [hW2] at HS2 HB2 HX2 HY2 ⊢
      clear hW2
      refine (sput_at W2 c0 g0 a0 (a0 : Int) (.inl rfl) (by omega)).mono ?_
      rintro e w3 ⟨rfl, hg3, hb3⟩
      obtain ⟨G, hG⟩ : ∃ G, W2.heap.size + 1 = G := ⟨_, rfl⟩
      rw [hG] at hg3 ⊢
      have hn3 : IsNums .u8 w3 (.slice (some ⟨G, 0, none⟩) 64 64) (slotB c0 g0 a0) := hg3.nums 0 64 _ 64 rfl (fun j hj => by rw [Nat.zero_add])
      have hx3 := HX2.out.below hb3 (by rw [HS2.out]; omega)
      have hy3 := HY2.out.below hb3 (by rw [HS2.out]; omega)
      have B3 := Lib.hid (HB2.out.trans (hb3.mono HB2.out.size))
      have N3 := Lib.hid hn3
      have M3 := Lib.hid (HV.out _ B3.out)
      have X3 := Lib.hid hx3
      have Y3 := Lib.hid hy3
      have HI : Hid ((Try.prog.info? 24).map (·.size) = some ([.int .u64 c0, .int .u64 g0, .int .i64 a0] : List Value).length) := Lib.hid infoSl
      clear hg3 hb3 hn3 hx3 hy3 hG HX2 HY2 HB2 HS2
      go_wp2_with fail
      refine (equal_any w3 _ _ (slotB c0 g0 a0) bs N3.out M3.out (slotB_sec c0 g0 a0).2 HBB.out).mono ?_
      rintro e w4 ⟨rfl, rfl⟩
      by_cases he : slotB c0 g0 a0 = bs
      · obtain rfl : R = some (c0, g0, a0) := by rw [HRS.out, if_pos]; exact ⟨hl, hc0, by omega, he⟩
        rw [decide_eq_true he]
        clear he
        have z0 := X3.out.cell 0
        have z1 := X3.out.cell 1
        have z2 := X3.out.cell 2
        have f0 := X3.out.free 0
        have f1 := X3.out.free 1
        have f2 := X3.out.free 2
        have y0 := Y3.out.cell 0
        have y1 := Y3.out.cell 1
        have y2 := Y3.out.cell 2
        have e0 : (w4.setCell ⟨w.heap.size, 0, none⟩ (.int .u64 c0)).cell? ⟨w.heap.size, 0, none⟩ = some (.int .u64 c0) := by rw [(X3.out.setCell 0 _).cell]; rfl
        have e1 : ((w4.setCell ⟨w.heap.size, 0, none⟩ (.int .u64 c0)).setCell ⟨w.heap.size, 1, none⟩ (.int .u64 g0)).cell? ⟨w.heap.size, 1, none⟩ = some (.int .u64 g0) := by rw [((X3.out.setCell 0 _).setCell 1 _).cell]; rfl
        have e2 : (((w4.setCell ⟨w.heap.size, 0, none⟩ (.int .u64 c0)).setCell ⟨w.heap.size, 1, none⟩ (.int .u64 g0)).setCell ⟨w.heap.size, 2, none⟩ (.int .i64 a0)).cell? ⟨w.heap.size, 2, none⟩ = some (.int .i64 a0) := by rw [(((X3.out.setCell 0 _).setCell 1 _).setCell 2 _).cell]; rfl
        go_wp2
        try simp only [Exit.inBlock, Exit.then]
        refine bodyPost_ret (v := .tuple #[.agg #[.int .u64 c0, .int .u64 g0, .int .i64 a0], .bool true]) (by simp [results, Try.results13, go_sem, e0, e1, e2]; try rfl) rfl ?_
        exact ⟨rfl, ((B3.out.setCell (Nat.le_refl _) _).setCell (Nat.le_refl _) _).setCell (Nat.le_refl _) _⟩
      · obtain rfl : R = none := by rw [HRS.out, if_neg]; exact fun h => he h.2.2.2
        rw [decide_eq_false he]
        clear he
        have z0 := X3.out.cell 0
        have z1 := X3.out.cell 1
        have z2 := X3.out.cell 2
        have f0 := X3.out.free 0
        have f1 := X3.out.free 1
        have f2 := X3.out.free 2
        have y0 := Y3.out.cell 0
        have y1 := Y3.out.cell 1
        have y2 := Y3.out.cell 2
        have e0 : (w4.setCell ⟨w.heap.size, 0, none⟩ (.int .u64 0)).cell? ⟨w.heap.size, 0, none⟩ = some (.int .u64 0) := by rw [(X3.out.setCell 0 _).cell]; rfl
        have e1 : ((w4.setCell ⟨w.heap.size, 0, none⟩ (.int .u64 0)).setCell ⟨w.heap.size, 1, none⟩ (.int .u64 0)).cell? ⟨w.heap.size, 1, none⟩ = some (.int .u64 0) := by rw [((X3.out.setCell 0 _).setCell 1 _).cell]; rfl
        have e2 : (((w4.setCell ⟨w.heap.size, 0, none⟩ (.int .u64 0)).setCell ⟨w.heap.size, 1, none⟩ (.int .u64 0)).setCell ⟨w.heap.size, 2, none⟩ (.int .i64 0)).cell? ⟨w.heap.size, 2, none⟩ = some (.int .i64 0) := by rw [(((X3.out.setCell 0 _).setCell 1 _).setCell 2 _).cell]; rfl
        go_wp2
        try simp only [Exit.inBlock, Exit.then]
        refine bodyPost_ret (v := .tuple #[.agg #[.int .u64 0, .int .u64 0, .int .i64 0], .bool false]) (by simp [results, Try.results13, go_sem, e0, e1, e2]; try rfl) rfl ?_
        exact ⟨rfl, ((B3.out.setCell (Nat.le_refl _) _).setCell (Nat.le_refl _) _).setCell (Nat.le_refl _) _⟩
end Go.Proofs.Ythecjhjomkpgkaa.K
