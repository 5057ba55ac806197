/- What crc.Open returns. -/
import Derived.Test.YtkbehdjaegomgaaDoorCrc4
import Derived.Test.YtkbehdjaegomgaaDoorRegion
namespace Go.Proofs.YtkbehdjaegomgaaDoor.K
open Go.ChangeShapes Go.WideShapes Go.ChangeAt Go.RowKit
set_option linter.unusedVariables false

/-- Is what was sealed whole. -/
def openB (bs : List Int) : Bool := decide (4 ≤ bs.length ∧ bs.drop (bs.length - 4) = fourC (sumC [bs.take (bs.length - 4)]))
def openC (bs : List Int) : List Int := if openB bs then bs.take (bs.length - 4) else []

theorem IsNums.drew {k : IntKind} {w : World} {v : Value} {zs : List Int} (h : IsNums k w v zs) : IsNums k w.drew v zs := h.below (Below.refl w.heap.size w).drew (Nat.le_refl _)

theorem conv_at {w W : World} {v : Value} {bs : List Int} (h : IsNums .u8 w v bs) (hW : Below w.heap.size w W) : (convert 22 9 v).run Tryd.prog W = .ok (.string (strOfNums bs)) W :=
  conv_str (h.below hW (Nat.le_refl _)) 22 5 Tryd.underlying22 Tryd.underlying5 9 Tryd.underlying9

/-- A part of a slice of numbers. -/
theorem IsNums.part {k : IntKind} {w : World} {b off n : Nat} {cc : Nat} {zs : List Int} (h : IsNums k w (.slice (some ⟨b, off, none⟩) n cc) zs) (i j : Nat) (hij : i ≤ j) (hj : j ≤ n) (c : Nat) (m : Nat) (hm : m = j - i) :
    IsNums k w (.slice (some ⟨b, off + i, none⟩) m c) ((zs.take j).drop i) := by
  subst hm
  obtain ⟨a, c', hv, h⟩ := h
  simp only [Value.slice.injEq] at hv
  obtain ⟨rfl, hl, rfl⟩ := hv
  have hlen : ((zs.take j).drop i).length = j - i := by simp; omega
  refine ⟨_, c, by rw [hlen], ?_⟩
  rw [hlen]
  rcases h with h | ⟨b', off', hh, hb, hc⟩
  · left; omega
  · simp only [Option.some.injEq, Addr.mk.injEq, and_true] at hh
    obtain ⟨rfl, rfl⟩ := hh
    refine .inr ⟨_, _, rfl, hb, fun q hq => ?_⟩
    have := hc (i + q) (by omega)
    rw [show off + i + q = off + (i + q) by omega, this]
    simp only [List.getD, List.getElem?_drop, List.getElem?_take]
    rw [if_pos (by omega)]

def OpenPost (bs : List Int) (w : World) (e : Ending) (w' : World) : Prop :=
  ∃ u, e = .returned (.tuple #[u, .bool (openB bs)]) ∧ IsNums .u8 w' u (openC bs) ∧ Below w.heap.size w w'

set_option maxRecDepth 100000 in
set_option maxHeartbeats 2000000 in
theorem open_short (p : Option Addr) (L cc : Nat) (bs : List Int) (w : World) (hl : bs.length = L) (hs : L < 4) : Calls Tryd.prog 8 #[.slice p L cc] w (OpenPost bs w) := by
  have hB : openB bs = false := by simp [openB]; omega
  have HB := Lib.hid hB
  clear hB
  have e1 : decide ((L : Int) - 4 < 0) = true := by simp; omega
  go_enter Tryd.func8, Tryd.ntmps8
  go_wp2_with fail
  refine region_begin (by kernel_rfl) ?_
  refine step_read 0 (some 8) (v := ?v0) rfl (by rfl) (by kernel_rfl) (by kernel_rfl) (by kernel_rfl) (fun _ _ _ h => h) (by rfl) ?y0 ?n0
  case y0 => intro W hW; go_simp; try with_reducible rfl
  try simp only [Act.put, List.setIfInBounds_toArray, List.set_cons_zero, List.set_cons_succ]
  refine step_read 1 (some 9) (v := ?v1) rfl (by rfl) (by kernel_rfl) (by kernel_rfl) (by kernel_rfl) (fun _ _ _ h => h) (by rfl) ?y1 ?n1
  case y1 => intro W hW; go_simp; try with_reducible rfl
  try simp only [Act.put, List.setIfInBounds_toArray, List.set_cons_zero, List.set_cons_succ]
  refine step_read 2 (some 10) (v := ?v2) rfl (by rfl) (by kernel_rfl) (by kernel_rfl) (by kernel_rfl) (fun _ _ _ h => h) (by rfl) ?y2 ?n2
  case y2 => intro W hW; go_simp; try with_reducible rfl
  try simp only [Act.put, List.setIfInBounds_toArray, List.set_cons_zero, List.set_cons_succ]
  refine step_skip 3 (some 11) rfl (by rfl) (by kernel_rfl) (by kernel_rfl) (by kernel_rfl) (fun _ _ _ h => h) (by rfl) ?_
  try simp only [Act.put, List.setIfInBounds_toArray, List.set_cons_zero, List.set_cons_succ]
  refine step_skip 4 (some 12) rfl (by rfl) (by kernel_rfl) (by kernel_rfl) (by kernel_rfl) (fun _ _ _ h => h) (by rfl) ?_
  try simp only [Act.put, List.setIfInBounds_toArray, List.set_cons_zero, List.set_cons_succ]
  refine step_skip 5 (some 13) rfl (by rfl) (by kernel_rfl) (by kernel_rfl) (by kernel_rfl) (fun _ _ _ h => h) (by rfl) ?_
  try simp only [Act.put, List.setIfInBounds_toArray, List.set_cons_zero, List.set_cons_succ]
  refine step_skip 6 (some 14) rfl (by rfl) (by kernel_rfl) (by kernel_rfl) (by kernel_rfl) (fun _ _ _ h => h) (by rfl) ?_
  try simp only [Act.put, List.setIfInBounds_toArray, List.set_cons_zero, List.set_cons_succ]
  refine step_skip 7 (some 15) rfl (by rfl) (by kernel_rfl) (by kernel_rfl) (by kernel_rfl) (fun _ _ _ h => h) (by rfl) ?_
  try simp only [Act.put, List.setIfInBounds_toArray, List.set_cons_zero, List.set_cons_succ]
  refine step_skip 8 (some 16) rfl (by rfl) (by kernel_rfl) (by kernel_rfl) (by kernel_rfl) (fun _ _ _ h => h) (by rfl) ?_
  try simp only [Act.put, List.setIfInBounds_toArray, List.set_cons_zero, List.set_cons_succ]
  refine step_skip 9 (some 17) rfl (by rfl) (by kernel_rfl) (by kernel_rfl) (by kernel_rfl) (fun _ _ _ h => h) (by rfl) ?_
  try simp only [Act.put, List.setIfInBounds_toArray, List.set_cons_zero, List.set_cons_succ]
  refine step_skip 10 (some 18) rfl (by rfl) (by kernel_rfl) (by kernel_rfl) (by kernel_rfl) (fun _ _ _ h => h) (by rfl) ?_
  try simp only [Act.put, List.setIfInBounds_toArray, List.set_cons_zero, List.set_cons_succ]
  refine step_skip 11 (some 19) rfl (by rfl) (by kernel_rfl) (by kernel_rfl) (by kernel_rfl) (fun _ _ _ h => h) (by rfl) ?_
  try simp only [Act.put, List.setIfInBounds_toArray, List.set_cons_zero, List.set_cons_succ]
  refine step_skip 12 (some 20) rfl (by rfl) (by kernel_rfl) (by kernel_rfl) (by kernel_rfl) (fun _ _ _ h => h) (by rfl) ?_
  try simp only [Act.put, List.setIfInBounds_toArray, List.set_cons_zero, List.set_cons_succ]
  refine step_skip 13 (some 21) rfl (by rfl) (by kernel_rfl) (by kernel_rfl) (by kernel_rfl) (fun _ _ _ h => h) (by rfl) ?_
  try simp only [Act.put, List.setIfInBounds_toArray, List.set_cons_zero, List.set_cons_succ]
  refine step_skip 14 (some 22) rfl (by rfl) (by kernel_rfl) (by kernel_rfl) (by kernel_rfl) (fun _ _ _ h => h) (by rfl) ?_
  try simp only [Act.put, List.setIfInBounds_toArray, List.set_cons_zero, List.set_cons_succ]
  refine step_read 15 (some 23) (v := ?v15) rfl (by rfl) (by kernel_rfl) (by kernel_rfl) (by kernel_rfl) (fun _ _ _ h => h) (by rfl) ?y15 ?n15
  case y15 => intro W hW; go_simp; try with_reducible rfl
  try simp only [Act.put, List.setIfInBounds_toArray, List.set_cons_zero, List.set_cons_succ]
  refine wpAnyH_done (by kernel_rfl) ?_ _
  go_wp2
  go_ret2
  refine ⟨.slice none 0 0, ?_, ?_, (Below.refl _ w).drew⟩
  · rw [HB.out]; rfl
  · unfold openC; rw [if_neg (by rw [HB.out]; decide)]; exact IsNums.nil _ _ _ _

theorem Bytes.mem {bs : List Int} (h : Bytes bs) : ∀ x ∈ bs, 0 ≤ x ∧ x ≤ 255 := by
  intro x hx
  obtain ⟨i, hi, rfl⟩ := List.getElem_of_mem hx
  have := h i hi
  simpa [List.getD, hi] using this

theorem str_beq {a b : List Int} (ha : ∀ x ∈ a, 0 ≤ x ∧ x ≤ 255) (hb : ∀ x ∈ b, 0 ≤ x ∧ x ≤ 255) : ((strOfNums a).toList == (strOfNums b).toList) = decide (a = b) := by
  rw [Bool.eq_iff_iff]
  simp only [beq_iff_eq, decide_eq_true_eq]
  constructor
  · intro h
    refine str_inj ha hb (bytes_inj ?_)
    rw [← ByteArray.toList_eq, ← ByteArray.toList_eq]
    exact h
  · rintro rfl; rfl



set_option maxRecDepth 100000 in
set_option maxHeartbeats 2000000 in
theorem open_long (p : Option Addr) (n cc : Nat) (bs : List Int) (w : World) (hT : TabOk w) (h1 : 1 ≤ w.heap.size) (hv : IsNums .u8 w (.slice p (n + 4) cc) bs) (hl : bs.length = n + 4) (hcc : n + 4 ≤ cc) (hb : Bytes bs) (hn : n ≤ 10000) : Calls Tryd.prog 8 #[.slice p (n + 4 : Nat) cc] w (OpenPost bs w) := by
  obtain ⟨b, off, rfl⟩ : ∃ b off, p = some ⟨b, off, none⟩ := by
    obtain ⟨a, c', hv1, h⟩ := hv
    simp only [Value.slice.injEq] at hv1
    obtain ⟨rfl, hl1, rfl⟩ := hv1
    rcases h with h | ⟨b', off', hh, -, -⟩
    · omega
    · exact ⟨b', off', hh⟩
  have HV := Lib.hid hv
  have HT := Lib.hid (show TabOk w.drew from hT)
  have HP := Lib.hid (show IsNums .u8 w.drew (.slice (some ⟨b, off, none⟩) n cc) (bs.take n) from by have := (hv.part 0 n (by omega) (by omega) cc n (by omega)).drew; simpa using this)
  have HQ := Lib.hid (show IsNums .u8 w.drew (.slice (some ⟨b, off + n, none⟩) 4 (cc - n)) (bs.drop n) from by have := (hv.part n (n + 4) (by omega) (by omega) (cc - n) 4 (by omega)).drew; rw [← hl, List.take_length] at this; exact this)
  have HF1 := Lib.hid (show ∀ j, j < [bs.take n].length → Bytes ([bs.take n].getD j []) ∧ ([bs.take n].getD j []).length ≤ 1000000 from by
    intro j hj
    obtain rfl : j = 0 := by simpa using hj
    refine ⟨fun i hi => ?_, ?_⟩
    · have hi' : i < (bs.take n).length := hi
      simp only [List.length_take] at hi'
      have := hb i (by omega)
      have e : (bs.take n).getD i 0 = bs.getD i 0 := by simp only [List.getD, List.getElem?_take]; rw [if_pos (by omega)]
      show 0 ≤ (bs.take n).getD i 0 ∧ (bs.take n).getD i 0 ≤ 255
      rw [e]; exact this
    · show (bs.take n).length ≤ _
      simp; omega)
  have HBB := Lib.hid hb
  have HL := Lib.hid hl
  clear hv hT hb hl
  have e0 : ((n + 4 : Nat) : Int) - 4 = (n : Int) := by omega
  go_enter Tryd.func8, Tryd.ntmps8
  go_wp2_with fail
  refine region_begin (by kernel_rfl) ?_
  refine step_read 0 (some 8) (v := ?v0) rfl (by rfl) (by kernel_rfl) (by kernel_rfl) (by kernel_rfl) (fun _ _ _ h => h) (by rfl) ?y0 ?n0
  case y0 => intro W hW; go_simp; try with_reducible rfl
  try simp only [Act.put, List.setIfInBounds_toArray, List.set_cons_zero, List.set_cons_succ]
  refine step_read 1 (some 9) (v := ?v1) rfl (by rfl) (by kernel_rfl) (by kernel_rfl) (by kernel_rfl) (fun _ _ _ h => h) (by rfl) ?y1 ?n1
  case y1 => intro W hW; go_simp; try with_reducible rfl
  try simp only [Act.put, List.setIfInBounds_toArray, List.set_cons_zero, List.set_cons_succ]
  refine step_read 2 (some 10) (v := ?v2) rfl (by rfl) (by kernel_rfl) (by kernel_rfl) (by kernel_rfl) (fun _ _ _ h => h) (by rfl) ?y2 ?n2
  case y2 => intro W hW; go_simp; try with_reducible rfl
  try simp only [Act.put, List.setIfInBounds_toArray, List.set_cons_zero, List.set_cons_succ]
  refine step_read 3 (some 11) (v := ?v3) rfl (by rfl) (by kernel_rfl) (by kernel_rfl) (by kernel_rfl) (fun _ _ _ h => h) (by rfl) ?y3 ?n3
  case y3 => intro W hW; go_simp; try with_reducible rfl
  try simp only [Act.put, List.setIfInBounds_toArray, List.set_cons_zero, List.set_cons_succ]
  refine step_read 4 (some 12) (v := ?v4) rfl (by rfl) (by kernel_rfl) (by kernel_rfl) (by kernel_rfl) (fun _ _ _ h => h) (by rfl) ?y4 ?n4
  case y4 => intro W hW; go_simp; try with_reducible rfl
  try simp only [Act.put, List.setIfInBounds_toArray, List.set_cons_zero, List.set_cons_succ]
  refine step_read 5 (some 13) (v := ?v5) rfl (by rfl) (by kernel_rfl) (by kernel_rfl) (by kernel_rfl) (fun _ _ _ h => h) (by rfl) ?y5 ?n5
  case y5 => intro W hW; go_simp; rw [if_pos (by omega), if_neg (by omega)]; try with_reducible rfl
  try simp only [Act.put, List.setIfInBounds_toArray, List.set_cons_zero, List.set_cons_succ]
  refine step_read 6 (some 14) (v := ?v6) rfl (by rfl) (by kernel_rfl) (by kernel_rfl) (by kernel_rfl) (fun _ _ _ h => h) (by rfl) ?y6 ?n6
  case y6 => intro W hW; have ec := conv_at HQ.out hW; go_simp; try with_reducible rfl
  try simp only [Act.put, List.setIfInBounds_toArray, List.set_cons_zero, List.set_cons_succ]
  refine step_read 7 (some 15) (v := ?v7) rfl (by rfl) (by kernel_rfl) (by kernel_rfl) (by kernel_rfl) (fun _ _ _ h => h) (by rfl) ?y7 ?n7
  case y7 => intro W hW; go_simp; try with_reducible rfl
  try simp only [Act.put, List.setIfInBounds_toArray, List.set_cons_zero, List.set_cons_succ]
  refine step_read 8 (some 16) (v := ?v8) rfl (by rfl) (by kernel_rfl) (by kernel_rfl) (by kernel_rfl) (fun _ _ _ h => h) (by rfl) ?y8 ?n8
  case y8 => intro W hW; go_simp; try with_reducible rfl
  try simp only [Act.put, List.setIfInBounds_toArray, List.set_cons_zero, List.set_cons_succ]
  refine step_read 9 (some 17) (v := ?v9) rfl (by rfl) (by kernel_rfl) (by kernel_rfl) (by kernel_rfl) (fun _ _ _ h => h) (by rfl) ?y9 ?n9
  case y9 => intro W hW; go_simp; rw [if_pos (by omega)]; try with_reducible rfl
  try simp only [Act.put, List.setIfInBounds_toArray, List.set_cons_zero, List.set_cons_succ]
  -- 10: buildSlice -> 18
  refine step_only 10 rfl (by kernel_rfl) (by rfl) (fun K' hK => ?_)
  go_simp
  refine hK _ _ ((Below.refl _ _).alloc (Nat.le_refl _) _) ?_
  have HT1 := Lib.hid (HT.out.alloc (by show 1 ≤ w.heap.size; exact h1) (Obj.cells #[Value.slice (some ⟨b, off, none⟩) n cc] 22))
  have HL1 := Lib.hid (IsLists.one (HP.out) w.drew.heap.size rfl 22)
  clear hK K'
  try simp only [Act.put, List.setIfInBounds_toArray, List.set_cons_zero, List.set_cons_succ]
  -- 11: call:10 -> 19
  refine step_only 11 rfl (by kernel_rfl) (by rfl) (fun K' hK => ?_)
  go_simp
  go_at_call 10
  refine (sum_any _ [bs.take n] _ HT1.out HL1.out HF1.out (by simp)).mono ?_
  rintro e x ⟨rfl, rfl⟩
  refine hK _ _ (Below.refl _ _) ?_
  clear hK K'
  try simp only [Act.put, List.setIfInBounds_toArray, List.set_cons_zero, List.set_cons_succ]
  -- 12: call:15 -> 20
  refine step_only 12 rfl (by kernel_rfl) (by rfl) (fun K' hK => ?_)
  go_simp
  go_at_call 15
  refine (four_any (sumC [bs.take n]) _ (sumC_range _)).mono ?_
  rintro e x ⟨u20, rfl, hown20, bx⟩
  have K20 := Lib.hid (IsNums.ofOwn hown20)
  refine hK _ _ bx ?_
  clear hK K'
  try simp only [Act.put, List.setIfInBounds_toArray, List.set_cons_zero, List.set_cons_succ]
  refine step_read 13 (some 21) (v := ?v13) rfl (by rfl) (by kernel_rfl) (by kernel_rfl) (by kernel_rfl) (fun _ _ _ h => h) (by rfl) ?y13 ?n13
  case y13 => intro W hW; have ec := conv_at K20.out hW; go_simp; try with_reducible rfl
  try simp only [Act.put, List.setIfInBounds_toArray, List.set_cons_zero, List.set_cons_succ]
  refine step_read 14 (some 22) (v := ?v14) rfl (by rfl) (by kernel_rfl) (by kernel_rfl) (by kernel_rfl) (fun _ _ _ h => h) (by rfl) ?y14 ?n14
  case y14 => intro W hW; go_simp; try with_reducible rfl
  try simp only [Act.put, List.setIfInBounds_toArray, List.set_cons_zero, List.set_cons_succ]
  refine step_read 15 (some 23) (v := ?v15) rfl (by rfl) (by kernel_rfl) (by kernel_rfl) (by kernel_rfl) (fun _ _ _ h => h) (by rfl) ?y15 ?n15
  case y15 => intro W hW; go_simp; try with_reducible rfl
  try simp only [Act.put, List.setIfInBounds_toArray, List.set_cons_zero, List.set_cons_succ]
  refine wpAnyH_done (by kernel_rfl) ?_ _
  have heq : ((strOfNums (List.drop n bs)).toList == (strOfNums (fourC (sumC [List.take n bs]))).toList) = openB bs := by
    rw [str_beq (fun x hx => HBB.out.mem x (List.mem_of_mem_drop hx)) (fourC_bytes _).mem]
    unfold openB
    rw [show bs.length - 4 = n by rw [HL.out]; omega]
    simp only [decide_eq_decide]
    exact ⟨fun h => ⟨by rw [HL.out]; omega, h⟩, fun h => h.2⟩
  rw [heq]
  have hbd : Below w.drew.heap.size w.drew x := ((Below.refl _ w.drew).alloc (Nat.le_refl _) _).trans (show Below _ (w.drew.alloc _) x from bx.mono (by show w.heap.size ≤ _; simp))
  have hbx : Below w.heap.size w x := (Below.refl _ w).drew.trans hbd
  have hn0 : decide ((n : Int) < 0) = false := by simp
  rw [hn0]
  have HPx := Lib.hid (HP.out.below hbd (Nat.le_refl _))
  have HO := Lib.hid (rfl : openB bs = openB bs)
  have HBX := Lib.hid hbx
  clear heq hn0 hown20 bx hbx hbd K20 HT1 HL1 HF1 HQ HP
  obtain ⟨o, ho⟩ : ∃ o, openB bs = o := ⟨_, rfl⟩
  rw [ho]
  replace HO := Lib.hid ho
  clear ho
  cases o
  · go_wp2
    go_ret2
    refine ⟨.slice none 0 0, ?_, ?_, HBX.out⟩
    · rw [HO.out]; rfl
    · unfold openC; rw [if_neg (by rw [HO.out]; decide)]; exact IsNums.nil _ _ _ _
  · go_wp2_with (at_builtin; refine wpList_appN rfl _ _ 22 rfl x.heap.size 5 .u8 1 Tryd.underlying22 info_u8 (by omega) _ 0 [] rfl (World.ownsRow_nil _ _ _ _) _ _ rfl HPx.out (by simp; omega) (Nat.le_refl _) ?_; intro v6 w6 hown6 hb6)
    go_ret2
    refine ⟨v6, ?_, ?_, HBX.out.trans (hb6.mono HBX.out.size)⟩
    · rw [HO.out]; rfl
    · unfold openC; rw [if_pos HO.out, HL.out]; exact IsNums.ofOwn hown6
end Go.Proofs.YtkbehdjaegomgaaDoor.K
