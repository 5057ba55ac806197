/- mementoref3.ReadSlot. -/
import Derived.Test.YthecjhjomkpgkaaSlot9
namespace Go.Proofs.Ythecjhjomkpgkaa.K
open Go.ChangeShapes Go.WideShapes Go.ChangeAt Go.RowKit
set_option linter.unusedVariables false

theorem exec_convH {P : Program} {ev : Operand → Value} {o : Oper} {W : World} (s d : TypeId) (x : Operand) (ho : o.op = .convert s d x) (v r : Value) (hx : ev x = v) (hr : (convert s d v).run P W = .ok r W) : (execOp ev o).run P W = .ok (.value r) W := by
  unfold execOp
  simp only [ho, hx, Sem.run_bind, hr, Result.andThen_ok]
  rfl
section
variable {P : Program} {ops : Array Oper} {Q : Exit → Act → World → Prop} {K : Act → World → Prop} {md : Region.Mode} {e : Nat} {a : Act} {w : World}
/-- Two operations may come up; nothing is held. -/
theorem stepE_two (i j : Nat) {oi oj : Oper} {fuel : Nat} {listed : Array Bool} (hi : ops[i]? = some oi) (hj : ops[j]? = some oj) (hr : Region.ready md ops listed = [i, j])
    (hwi : Region.wanted oi (yielded ops a.tmps) = true) (hwj : Region.wanted oj (yielded ops a.tmps) = true)
    (h1 : ∀ K' : Act → World → Prop, (∀ a' w', wpAnyE P md ops Q e (fun _ => True) fuel (listed.setIfInBounds i true) a' w' → K' a' w') → Oper.wp P oi a w K' Q)
    (h2 : ∀ K' : Act → World → Prop, (∀ a' w', wpAnyE P md ops Q e (fun _ => True) fuel (listed.setIfInBounds j true) a' w' → K' a' w') → Oper.wp P oj a w K' Q) :
    wpAnyE P md ops Q e (fun _ => True) (fuel + 1) listed a w := by
  refine ⟨fun h0 => absurd (hr ▸ h0) (by simp), fun q hq => ?_⟩
  rw [hr] at hq
  rcases List.mem_cons.1 hq with rfl | hq
  · refine wpOp_step hi (fun K' hK => ?_)
    rw [if_pos hwi]
    exact h1 K' (fun a' w' hn => hK a' w' ⟨fun _ => trivial, hn⟩)
  · obtain rfl : q = j := by simpa using hq
    refine wpOp_step hj (fun K' hK => ?_)
    rw [if_pos hwj]
    exact h2 K' (fun a' w' hn => hK a' w' ⟨fun _ => trivial, hn⟩)
end
theorem infoRs : (Try.prog.info? 31).map (·.size) = some 3 := by kernel_rfl

set_option maxRecDepth 100000 in
set_option maxHeartbeats 1000000 in
theorem pread_long (w : World) (p : Option Addr) (n c : Nat) (bs : List Int) (hb : bs.length = n) (hn : n ≠ 64) :
    Calls Try.prog 14 #[.slice p n c] w (ReadPost w (readS bs)) := by
  have hnI : ¬ (n : Int) = 64 := by omega
  rw [readS_no (fun h => hn (hb.symm.trans h.1))]
  clear hb
  go_enter Try.func14, Try.ntmps14
  go_wp2
  go_returns
  exact ⟨rfl, (Below.refl _ _).alloc (Nat.le_refl _) _⟩

set_option maxRecDepth 100000 in
set_option maxHeartbeats 8000000 in
theorem pread_64 (w : World) (b o c : Nat) (bs : List Int) (hv : IsNums .u8 w (.slice (some ⟨b, o, none⟩) 64 c) bs) (hl : bs.length = 64) (hc : 64 ≤ c) (hb : ∀ x ∈ bs, 0 ≤ x ∧ x ≤ 255) :
    Calls Try.prog 14 #[.slice (some ⟨b, o, none⟩) 64 c] w (ReadPost w (readS bs)) := by
  have hget : ∀ k, k ≤ 16 → ∀ j, j < (bs.drop k).length → 0 ≤ (bs.drop k).getD j 0 ∧ (bs.drop k).getD j 0 ≤ 255 := fun k _ j hj => by
    have : (bs.drop k).getD j 0 = (bs.drop k)[j] := by rw [List.getD_eq_getElem?_getD, List.getElem?_eq_getElem hj]; rfl
    rw [this]; exact hb _ (List.mem_of_mem_drop (List.getElem_mem hj))
  have HB0 := Lib.hid (hget 0 (by omega))
  rw [List.drop_zero] at HB0
  have HB8 := Lib.hid (hget 8 (by omega))
  have HB16 := Lib.hid (hget 16 (by omega))
  have HL0 := Lib.hid hl
  have HL8 : Hid ((bs.drop 8).length = 56) := Lib.hid (by rw [List.length_drop]; omega)
  have HL16 : Hid ((bs.drop 16).length = 48) := Lib.hid (by rw [List.length_drop]; omega)
  have hv1 : ∀ W, Below w.heap.size w W → IsNums .u8 W (.slice (some ⟨b, o, none⟩) 64 c) bs := fun W hW => hv.below hW (Nat.le_refl _)
  have hbl : Below w.heap.size w (w.alloc (.cells #[.int .u64 0, .int .u64 0, .int .i64 0] 31)).drew := ((Below.refl _ _).alloc (Nat.le_refl _) _).drew
  have N0 := Lib.hid (hv1 _ hbl)
  have N8 := Lib.hid ((hv1 _ hbl).dropAt 8 (by omega) hl.symm)
  have N16 := Lib.hid ((hv1 _ hbl).dropAt 16 (by omega) hl.symm)
  have HV := Lib.hid hv1
  have HBB := Lib.hid hb
  have BL := Lib.hid hbl
  have hl0 := num8_lt bs (fun j hj => HB0.out j (by omega)) 8 (Nat.le_refl _)
  have hl8 := num8_lt (bs.drop 8) (fun j hj => HB8.out j (by rw [HL8.out]; omega)) 8 (Nat.le_refl _)
  have hl16 := num8_lt (bs.drop 16) (fun j hj => HB16.out j (by rw [HL16.out]; omega)) 8 (Nat.le_refl _)
  have hRS : readS bs = if bs.length = 64 ∧ num8 bs 8 ≠ 0 ∧ num8 (bs.drop 16) 8 ≤ 1 ∧ slotB (num8 bs 8) (num8 (bs.drop 8) 8) (num8 (bs.drop 16) 8) = bs then some (num8 bs 8, num8 (bs.drop 8) 8, num8 (bs.drop 16) 8) else none := rfl
  obtain ⟨c0, e0⟩ : ∃ x, num8 bs 8 = x := ⟨_, rfl⟩
  obtain ⟨g0, e8⟩ : ∃ x, num8 (bs.drop 8) 8 = x := ⟨_, rfl⟩
  obtain ⟨a0, e16⟩ : ∃ x, num8 (bs.drop 16) 8 = x := ⟨_, rfl⟩
  rw [e0] at hl0
  rw [e8] at hl8
  rw [e16] at hl16
  rw [e0, e8, e16] at hRS
  have E0 := Lib.hid e0
  have E8 := Lib.hid e8
  have E16 := Lib.hid e16
  obtain ⟨R, hR⟩ : ∃ R, readS bs = R := ⟨_, rfl⟩
  rw [hR] at hRS ⊢
  have HRS := Lib.hid hRS
  clear hget hv hv1 hbl hb hRS hR e0 e8 e16
  have hcI : (64 : Int) ≤ c := by omega
  have hc8 : ¬ c = 8 := by omega
  have hc16 : ¬ c = 16 := by omega
  obtain ⟨a2, ha2⟩ : ∃ a2 : Nat, min a0 2 = a2 := ⟨_, rfl⟩
  have HA2 := Lib.hid ha2
  obtain ⟨mn, hmn⟩ : ∃ mn, (if (2 : Int) < (a0 : Int) then 2 else (a0 : Int)) = mn := ⟨_, rfl⟩
  have HMN := Lib.hid hmn
  have HM2 : Hid (IntKind.i64.wrap mn = (a2 : Int)) := Lib.hid (by
    rw [← hmn]
    by_cases h : (2 : Int) < (a0 : Int)
    · rw [if_pos h, IntWalk.i64_in _ (by omega)]; omega
    · rw [if_neg h, IntWalk.i64_in _ (by omega)]; omega)
  clear ha2 hmn
  have hSX : Blk ((w.alloc (.cells #[.int .u64 0, .int .u64 0, .int .i64 0] 31)).drew.alloc (.cells #[.int .u64 0, .int .u64 0, .int .i64 0] 31)) w.heap.size 31 [.int .u64 0, .int .u64 0, .int .i64 0] := ((Blk.alloc w 31 #[.int .u64 0, .int .u64 0, .int .i64 0]).keep (Keep.drew (fun _ => False) _) (fun h => h)).keep (Keep.alloc (fun _ => False) _ _) (fun h => h)
  have hSB := Blk.alloc (w.alloc (.cells #[.int .u64 0, .int .u64 0, .int .i64 0] 31)).drew 31 #[.int .u64 0, .int .u64 0, .int .i64 0]
  rw [show (w.alloc (.cells #[.int .u64 0, .int .u64 0, .int .i64 0] 31)).drew.heap.size = w.heap.size + 1 from (show (w.alloc (.cells #[.int .u64 0, .int .u64 0, .int .i64 0] 31)).heap.size = w.heap.size + 1 by simp)] at hSB
  have hSBL : Below w.heap.size w ((w.alloc (.cells #[.int .u64 0, .int .u64 0, .int .i64 0] 31)).drew.alloc (.cells #[.int .u64 0, .int .u64 0, .int .i64 0] 31)) := BL.out.alloc BL.out.size _
  have SX := Lib.hid hSX
  have SB := Lib.hid hSB
  have SBL := Lib.hid hSBL
  have N0a := Lib.hid (HV.out _ hSBL)
  have N8a := Lib.hid ((HV.out _ hSBL).dropAt 8 (by omega) hl.symm)
  have N16a := Lib.hid ((HV.out _ hSBL).dropAt 16 (by omega) hl.symm)
  have HI : Hid ((Try.prog.info? 31).map (·.size) = some ([.int .u64 c0, .int .u64 g0, .int .i64 a2] : List Value).length) := Lib.hid infoRs
  clear hSX hSB hSBL
  go_enter Try.func14, Try.ntmps14
  go_wp2_with fail
  refine regionE_begin 12 (fun _ => True) (by kernel_rfl) ?_
  refine stepE_any 0 (some 9) (v := ?vh0) (fun _ => trivial) rfl (by rfl) (by kernel_rfl) (by kernel_rfl) (by kernel_rfl) (by decide) (fun _ _ _ h => h) (by rfl) ?yh0 ?nh0
  case yh0 => intro W; go_simp; try with_reducible rfl
  try simp only [Act.put, List.setIfInBounds_toArray, List.set_cons_zero, List.set_cons_succ]
  refine stepE_any 2 (some 11) (v := ?vh2) (fun _ => trivial) rfl (by rfl) (by kernel_rfl) (by kernel_rfl) (by kernel_rfl) (by decide) (fun _ _ _ h => h) (by rfl) ?yh2 ?nh2
  case yh2 => intro W; go_simp; try with_reducible rfl
  try simp only [Act.put, List.setIfInBounds_toArray, List.set_cons_zero, List.set_cons_succ]
  refine stepE_any 3 (some 12) (v := ?vh3) (fun _ => trivial) rfl (by rfl) (by kernel_rfl) (by kernel_rfl) (by kernel_rfl) (by decide) (fun _ _ _ h => h) (by rfl) ?yh3 ?nh3
  case yh3 => intro W; go_simp; try with_reducible rfl
  try simp only [Act.put, List.setIfInBounds_toArray, List.set_cons_zero, List.set_cons_succ]
  refine stepE_any 5 (some 14) (v := ?vh5) (fun _ => trivial) rfl (by rfl) (by kernel_rfl) (by kernel_rfl) (by kernel_rfl) (by decide) (fun _ _ _ h => h) (by rfl) ?yh5 ?nh5
  case yh5 => intro W; go_simp; try with_reducible rfl
  try simp only [Act.put, List.setIfInBounds_toArray, List.set_cons_zero, List.set_cons_succ]
  refine stepE_any 6 (some 15) (v := ?vh6) (fun _ => trivial) rfl (by rfl) (by kernel_rfl) (by kernel_rfl) (by kernel_rfl) (by decide) (fun _ _ _ h => h) (by rfl) ?yh6 ?nh6
  case yh6 => intro W; go_simp; try with_reducible rfl
  try simp only [Act.put, List.setIfInBounds_toArray, List.set_cons_zero, List.set_cons_succ]
  refine stepE_two 1 11 rfl rfl (by kernel_rfl) (by rfl) (by rfl) (fun K' hK => ?_) (fun K' hK => ?_)
  · go_simp
    refine (number_any _ _ bs N0.out (by rw [HL0.out]; omega) HB0.out).mono ?_
    rintro e w9 ⟨rfl, rfl⟩
    rw [E0.out]
    refine hK _ _ ?_
    clear hK K'
    try simp only [Act.put, List.setIfInBounds_toArray, List.set_cons_zero, List.set_cons_succ]
    refine stepE_two 4 11 rfl rfl (by kernel_rfl) (by rfl) (by rfl) (fun K' hK => ?_) (fun K' hK => ?_)
    · go_simp
      refine (number_any _ _ (bs.drop 8) N8.out (by rw [HL8.out]; omega) HB8.out).mono ?_
      rintro e w9 ⟨rfl, rfl⟩
      rw [E8.out]
      refine hK _ _ ?_
      clear hK K'
      try simp only [Act.put, List.setIfInBounds_toArray, List.set_cons_zero, List.set_cons_succ]
      refine stepE_two 7 11 rfl rfl (by kernel_rfl) (by rfl) (by rfl) (fun K' hK => ?_) (fun K' hK => ?_)
      · go_simp
        refine (number_any _ _ (bs.drop 16) N16.out (by rw [HL16.out]; omega) HB16.out).mono ?_
        rintro e w9 ⟨rfl, rfl⟩
        rw [E16.out]
        refine hK _ _ ?_
        clear hK K'
        try simp only [Act.put, List.setIfInBounds_toArray, List.set_cons_zero, List.set_cons_succ]
        refine stepE_any 8 (some 17) (v := .int .u64 mn) (fun _ => trivial) rfl (by rfl) (by kernel_rfl) (by kernel_rfl) (by kernel_rfl) (by decide) (fun _ _ _ h => h) (by rfl) ?ypxxx8 ?npxxx8
        case ypxxx8 => intro W; go_simp; rw [HMN.out]; try with_reducible rfl
        try simp only [Act.put, List.setIfInBounds_toArray, List.set_cons_zero, List.set_cons_succ]
        refine stepE_any 9 (some 18) (v := .int .i64 a2) (fun _ => trivial) rfl (by rfl) (by kernel_rfl) (by kernel_rfl) (by kernel_rfl) (by decide) (fun _ _ _ h => h) (by rfl) ?ypxxx9 ?npxxx9
        case ypxxx9 => intro W; go_simp; rw [HM2.out]; try with_reducible rfl
        try simp only [Act.put, List.setIfInBounds_toArray, List.set_cons_zero, List.set_cons_succ]
        refine stepE_any 10 (some 19) (v := ?vpxxx10) (fun _ => trivial) rfl (by rfl) (by kernel_rfl) (by kernel_rfl) (by kernel_rfl) (by decide) (fun _ _ _ h => h) (by rfl) ?ypxxx10 ?npxxx10
        case ypxxx10 => intro W; go_simp; try with_reducible rfl
        try simp only [Act.put, List.setIfInBounds_toArray, List.set_cons_zero, List.set_cons_succ]
        refine stepE_only 11 rfl (by kernel_rfl) (by rfl) (fun K' hK => ?_)
        go_simp
        refine hK _ _ trivial ?_
        clear hK K'
        try simp only [Act.put, List.setIfInBounds_toArray, List.set_cons_zero, List.set_cons_succ]
        refine stepE_end 12 rfl (by kernel_rfl) (by rfl) (by rfl) (fun K' hK => ?_)
        refine wp_store_blk SB.out 31 (.tmp 4) (.tmp 19) rfl 0 [.int .u64 c0, .int .u64 g0, .int .i64 a2] (by rfl) (by rfl) (by simp) HI.out (by intro v hv; simp at hv; rcases hv with rfl | rfl | rfl <;> rfl) (fun w3 hb3 hk3 => hK _ _ ?_)
        clear hK K'
        try simp only [Act.put, List.setIfInBounds_toArray, List.set_cons_zero, List.set_cons_succ]
        refine wpAnyE_done (by kernel_rfl) ?_ _
        have hk3' := hk3 (fun k => k = w.heap.size + 1) rfl
        have hx3 := SX.out.keep hk3' (by omega)
        have hb3' := SBL.out.trans (hk3'.below (N := w.heap.size) (fun j e => by omega) SBL.out.size)
        rw [show ([.int .u64 0, .int .u64 0, .int .i64 0] : List Value).take 0 ++ [.int .u64 c0, .int .u64 g0, .int .i64 a2] ++ ([.int .u64 0, .int .u64 0, .int .i64 0] : List Value).drop (0 + ([.int .u64 c0, .int .u64 g0, .int .i64 a2] : List Value).length) = [.int .u64 c0, .int .u64 g0, .int .i64 a2] from rfl] at hb3
        have hyy : ∀ W, Keep (fun _ => False) w3.drew W → Blk W (w.heap.size + 1) 31 [.int .u64 c0, .int .u64 g0, .int .i64 a2] := fun W hW => (hb3.keep (Keep.drew (fun _ => False) _) (fun h => h)).keep hW (fun h => h)
        have HY0 := Lib.hid (fun W hW => (hyy W hW).cell 0)
        have HY1 := Lib.hid (fun W hW => (hyy W hW).cell 1)
        have HY2 := Lib.hid (fun W hW => (hyy W hW).cell 2)
        have X3 := Lib.hid (hx3.keep (Keep.drew (fun _ => False) _) (fun h => h))
        have Y3 := Lib.hid (hb3.keep (Keep.drew (fun _ => False) _) (fun h => h))
        have B3 := Lib.hid hb3'.drew
        clear hk3 hk3' hx3 hb3 hb3' hyy
        by_cases hc0 : c0 = 0
        · have hRe : R = none := by rw [HRS.out, if_neg]; exact fun h => h.2.1 hc0
          have HRE := Lib.hid hRe
          clear hRe
          subst hc0
          rw [show ((0 : Nat) : Int) = 0 from rfl] at HY0 ⊢
          go_wp2_with fail
          refine regionE_begin 15 (fun W => Keep (fun _ => False) w3.drew W) (by kernel_rfl) ?_
          refine stepE_any 0 (some 20) (v := ?vraq0) (fun _ => Keep.refl _ _) rfl (by rfl) (by kernel_rfl) (by kernel_rfl) (by kernel_rfl) (by decide) (fun _ _ _ h => h) (by rfl) ?yraq0 ?nraq0
          case yraq0 => intro W; go_simp; try with_reducible rfl
          try simp only [Act.put, List.setIfInBounds_toArray, List.set_cons_zero, List.set_cons_succ]
          refine stepE_read 1 20 (some 21) (v := ?vraq1) (Keep.refl _ _) rfl (by rfl) (by kernel_rfl) (by kernel_rfl) (by kernel_rfl) (by kernel_rfl) (by kernel_rfl) (fun _ _ _ h => h) (by rfl) ?yraq1 ?nraq1
          case yraq1 => intro W hW; have q0 := HY0.out W hW; go_simp; try with_reducible rfl
          try simp only [Act.put, List.setIfInBounds_toArray, List.set_cons_zero, List.set_cons_succ]
          refine stepE_any 2 (some 22) (v := ?vraq2) (fun _ => Keep.refl _ _) rfl (by rfl) (by kernel_rfl) (by kernel_rfl) (by kernel_rfl) (by decide) (fun _ _ _ h => h) (by rfl) ?yraq2 ?nraq2
          case yraq2 => intro W; go_simp; try with_reducible rfl
          try simp only [Act.put, List.setIfInBounds_toArray, List.set_cons_zero, List.set_cons_succ]
          refine stepE_any 3 (some 23) (v := ?vraq3) (fun _ => Keep.refl _ _) rfl (by rfl) (by kernel_rfl) (by kernel_rfl) (by kernel_rfl) (by decide) (fun _ _ _ h => h) (by rfl) ?yraq3 ?nraq3
          case yraq3 => intro W; go_simp; try with_reducible rfl
          try simp only [Act.put, List.setIfInBounds_toArray, List.set_cons_zero, List.set_cons_succ]
          refine stepE_skip 4 (some 24) (fun _ => Keep.refl _ _) rfl (by rfl) (by kernel_rfl) (by kernel_rfl) (by kernel_rfl) (by decide) (fun _ _ _ h => h) (by rfl) ?_
          try simp only [Act.put, List.setIfInBounds_toArray, List.set_cons_zero, List.set_cons_succ]
          refine stepE_skip 5 (some 25) (fun _ => Keep.refl _ _) rfl (by rfl) (by kernel_rfl) (by kernel_rfl) (by kernel_rfl) (by decide) (fun _ _ _ h => h) (by rfl) ?_
          try simp only [Act.put, List.setIfInBounds_toArray, List.set_cons_zero, List.set_cons_succ]
          refine stepE_skip 6 (some 26) (fun _ => Keep.refl _ _) rfl (by rfl) (by kernel_rfl) (by kernel_rfl) (by kernel_rfl) (by decide) (fun _ _ _ h => h) (by rfl) ?_
          try simp only [Act.put, List.setIfInBounds_toArray, List.set_cons_zero, List.set_cons_succ]
          refine stepE_any 7 (some 27) (v := ?vraq7) (fun _ => Keep.refl _ _) rfl (by rfl) (by kernel_rfl) (by kernel_rfl) (by kernel_rfl) (by decide) (fun _ _ _ h => h) (by rfl) ?yraq7 ?nraq7
          case yraq7 => intro W; go_simp; try with_reducible rfl
          try simp only [Act.put, List.setIfInBounds_toArray, List.set_cons_zero, List.set_cons_succ]
          refine stepE_any 8 (some 28) (v := ?vraq8) (fun _ => Keep.refl _ _) rfl (by rfl) (by kernel_rfl) (by kernel_rfl) (by kernel_rfl) (by decide) (fun _ _ _ h => h) (by rfl) ?yraq8 ?nraq8
          case yraq8 => intro W; go_simp; try with_reducible rfl
          try simp only [Act.put, List.setIfInBounds_toArray, List.set_cons_zero, List.set_cons_succ]
          refine stepE_skip 9 (some 29) (fun _ => Keep.refl _ _) rfl (by rfl) (by kernel_rfl) (by kernel_rfl) (by kernel_rfl) (by decide) (fun _ _ _ h => h) (by rfl) ?_
          try simp only [Act.put, List.setIfInBounds_toArray, List.set_cons_zero, List.set_cons_succ]
          refine stepE_skip 10 (some 30) (fun _ => Keep.refl _ _) rfl (by rfl) (by kernel_rfl) (by kernel_rfl) (by kernel_rfl) (by decide) (fun _ _ _ h => h) (by rfl) ?_
          try simp only [Act.put, List.setIfInBounds_toArray, List.set_cons_zero, List.set_cons_succ]
          refine stepE_skip 11 (some 31) (fun _ => Keep.refl _ _) rfl (by rfl) (by kernel_rfl) (by kernel_rfl) (by kernel_rfl) (by decide) (fun _ _ _ h => h) (by rfl) ?_
          try simp only [Act.put, List.setIfInBounds_toArray, List.set_cons_zero, List.set_cons_succ]
          refine stepE_skip 12 (some 32) (fun _ => Keep.refl _ _) rfl (by rfl) (by kernel_rfl) (by kernel_rfl) (by kernel_rfl) (by decide) (fun _ _ _ h => h) (by rfl) ?_
          try simp only [Act.put, List.setIfInBounds_toArray, List.set_cons_zero, List.set_cons_succ]
          refine stepE_skip 13 (some 33) (fun _ => Keep.refl _ _) rfl (by rfl) (by kernel_rfl) (by kernel_rfl) (by kernel_rfl) (by decide) (fun _ _ _ h => h) (by rfl) ?_
          try simp only [Act.put, List.setIfInBounds_toArray, List.set_cons_zero, List.set_cons_succ]
          refine stepE_skip 14 (some 34) (fun _ => Keep.refl _ _) rfl (by rfl) (by kernel_rfl) (by kernel_rfl) (by kernel_rfl) (by decide) (fun _ _ _ h => h) (by rfl) ?_
          try simp only [Act.put, List.setIfInBounds_toArray, List.set_cons_zero, List.set_cons_succ]
          -- 15: pick -> 35
          refine stepE_end 15 rfl (by kernel_rfl) (by rfl) (by rfl) (fun K' hK => ?_)
          go_simp
          refine hK _ _ ?_
          clear hK K'
          refine wpAnyE_done (by kernel_rfl) ?_ _
          clear HY0 HY1 HY2
          obtain ⟨wd, hwd⟩ : ∃ x, w3.drew = x := ⟨_, rfl⟩
          rw [hwd] at X3 B3 ⊢
          have z0 := X3.out.cell 0
          have z1 := X3.out.cell 1
          have z2 := X3.out.cell 2
          have f0 := X3.out.free 0
          have f1 := X3.out.free 1
          have f2 := X3.out.free 2
          have e0 : (wd.setCell ⟨w.heap.size, 0, none⟩ (.int .u64 0)).cell? ⟨w.heap.size, 0, none⟩ = some (.int .u64 0) := by rw [(X3.out.setCell 0 _).cell]; rfl
          have e1 : ((wd.setCell ⟨w.heap.size, 0, none⟩ (.int .u64 0)).setCell ⟨w.heap.size, 1, none⟩ (.int .u64 0)).cell? ⟨w.heap.size, 1, none⟩ = some (.int .u64 0) := by rw [((X3.out.setCell 0 _).setCell 1 _).cell]; rfl
          have e2 : (((wd.setCell ⟨w.heap.size, 0, none⟩ (.int .u64 0)).setCell ⟨w.heap.size, 1, none⟩ (.int .u64 0)).setCell ⟨w.heap.size, 2, none⟩ (.int .i64 0)).cell? ⟨w.heap.size, 2, none⟩ = some (.int .i64 0) := by rw [(((X3.out.setCell 0 _).setCell 1 _).setCell 2 _).cell]; rfl
          go_wp2
          try simp only [Exit.inBlock, Exit.then]
          refine bodyPost_ret (v := .tuple #[.agg #[.int .u64 0, .int .u64 0, .int .i64 0], .bool false]) (by simp [results, Try.results14, go_sem, e0, e1, e2]; try rfl) rfl ?_
          exact ⟨by rw [HRE.out]; rfl, ((B3.out.setCell (Nat.le_refl _) _).setCell (Nat.le_refl _) _).setCell (Nat.le_refl _) _⟩
        · have hc0I : ¬ (c0 : Int) = 0 := by omega
          by_cases ha1 : 1 < a0
          · have hRe : R = none := by rw [HRS.out, if_neg]; exact fun h => by have := h.2.2.1; omega
            have HRE := Lib.hid hRe
            clear hRe
            have ha1I : (1 : Int) < a2 := by have := HA2.out; omega
            go_wp2_with fail
            have hcb : ((c0 : Int) == 0) = false := by simpa using hc0
            refine regionE_begin 15 (fun W => Keep (fun _ => False) w3.drew W) (by kernel_rfl) ?_
            refine stepE_any 0 (some 20) (v := ?vrbq0) (fun _ => Keep.refl _ _) rfl (by rfl) (by kernel_rfl) (by kernel_rfl) (by kernel_rfl) (by decide) (fun _ _ _ h => h) (by rfl) ?yrbq0 ?nrbq0
            case yrbq0 => intro W; go_simp; try with_reducible rfl
            try simp only [Act.put, List.setIfInBounds_toArray, List.set_cons_zero, List.set_cons_succ]
            refine stepE_read 1 20 (some 21) (v := ?vrbq1) (Keep.refl _ _) rfl (by rfl) (by kernel_rfl) (by kernel_rfl) (by kernel_rfl) (by kernel_rfl) (by kernel_rfl) (fun _ _ _ h => h) (by rfl) ?yrbq1 ?nrbq1
            case yrbq1 => intro W hW; have q0 := HY0.out W hW; go_simp; try with_reducible rfl
            try simp only [Act.put, List.setIfInBounds_toArray, List.set_cons_zero, List.set_cons_succ]
            refine stepE_any 2 (some 22) (v := ?vrbq2) (fun _ => Keep.refl _ _) rfl (by rfl) (by kernel_rfl) (by kernel_rfl) (by kernel_rfl) (by decide) (fun _ _ _ h => h) (by rfl) ?yrbq2 ?nrbq2
            case yrbq2 => intro W; go_simp; try with_reducible rfl
            try simp only [Act.put, List.setIfInBounds_toArray, List.set_cons_zero, List.set_cons_succ]
            refine stepE_any 3 (some 23) (v := ?vrbq3) (fun _ => Keep.refl _ _) rfl (by rfl) (by kernel_rfl) (by kernel_rfl) (by kernel_rfl) (by decide) (fun _ _ _ h => h) (by rfl) ?yrbq3 ?nrbq3
            case yrbq3 => intro W; go_simp; try with_reducible rfl
            try simp only [Act.put, List.setIfInBounds_toArray, List.set_cons_zero, List.set_cons_succ]
            refine stepE_any 4 (some 24) (v := ?vrbq4) (fun _ => Keep.refl _ _) rfl (by rfl) (by kernel_rfl) (by kernel_rfl) (by kernel_rfl) (by decide) (fun _ _ _ h => h) (by rfl) ?yrbq4 ?nrbq4
            case yrbq4 => intro W; go_simp; try with_reducible rfl
            try simp only [Act.put, List.setIfInBounds_toArray, List.set_cons_zero, List.set_cons_succ]
            refine stepE_read 5 20 (some 25) (v := ?vrbq5) (Keep.refl _ _) rfl (by rfl) (by kernel_rfl) (by kernel_rfl) (by kernel_rfl) (by kernel_rfl) (by kernel_rfl) (fun _ _ _ h => h) (by rfl) ?yrbq5 ?nrbq5
            case yrbq5 => intro W hW; have q2 := HY2.out W hW; go_simp; try with_reducible rfl
            try simp only [Act.put, List.setIfInBounds_toArray, List.set_cons_zero, List.set_cons_succ]
            refine stepE_any 6 (some 26) (v := ?vrbq6) (fun _ => Keep.refl _ _) rfl (by rfl) (by kernel_rfl) (by kernel_rfl) (by kernel_rfl) (by decide) (fun _ _ _ h => h) (by rfl) ?yrbq6 ?nrbq6
            case yrbq6 => intro W; go_simp; try with_reducible rfl
            try simp only [Act.put, List.setIfInBounds_toArray, List.set_cons_zero, List.set_cons_succ]
            refine stepE_any 7 (some 27) (v := ?vrbq7) (fun _ => Keep.refl _ _) rfl (by rfl) (by kernel_rfl) (by kernel_rfl) (by kernel_rfl) (by decide) (fun _ _ _ h => h) (by rfl) ?yrbq7 ?nrbq7
            case yrbq7 => intro W; go_simp; try with_reducible rfl
            try simp only [Act.put, List.setIfInBounds_toArray, List.set_cons_zero, List.set_cons_succ]
            refine stepE_any 8 (some 28) (v := ?vrbq8) (fun _ => Keep.refl _ _) rfl (by rfl) (by kernel_rfl) (by kernel_rfl) (by kernel_rfl) (by decide) (fun _ _ _ h => h) (by rfl) ?yrbq8 ?nrbq8
            case yrbq8 => intro W; go_simp; try with_reducible rfl
            try simp only [Act.put, List.setIfInBounds_toArray, List.set_cons_zero, List.set_cons_succ]
            refine stepE_skip 9 (some 29) (fun _ => Keep.refl _ _) rfl (by rfl) (by kernel_rfl) (by kernel_rfl) (by kernel_rfl) (by decide) (fun _ _ _ h => h) (by rfl) ?_
            try simp only [Act.put, List.setIfInBounds_toArray, List.set_cons_zero, List.set_cons_succ]
            refine stepE_skip 10 (some 30) (fun _ => Keep.refl _ _) rfl (by rfl) (by kernel_rfl) (by kernel_rfl) (by kernel_rfl) (by decide) (fun _ _ _ h => h) (by rfl) ?_
            try simp only [Act.put, List.setIfInBounds_toArray, List.set_cons_zero, List.set_cons_succ]
            refine stepE_skip 11 (some 31) (fun _ => Keep.refl _ _) rfl (by rfl) (by kernel_rfl) (by kernel_rfl) (by kernel_rfl) (by decide) (fun _ _ _ h => h) (by rfl) ?_
            try simp only [Act.put, List.setIfInBounds_toArray, List.set_cons_zero, List.set_cons_succ]
            refine stepE_skip 12 (some 32) (fun _ => Keep.refl _ _) rfl (by rfl) (by kernel_rfl) (by kernel_rfl) (by kernel_rfl) (by decide) (fun _ _ _ h => h) (by rfl) ?_
            try simp only [Act.put, List.setIfInBounds_toArray, List.set_cons_zero, List.set_cons_succ]
            refine stepE_skip 13 (some 33) (fun _ => Keep.refl _ _) rfl (by rfl) (by kernel_rfl) (by kernel_rfl) (by kernel_rfl) (by decide) (fun _ _ _ h => h) (by rfl) ?_
            try simp only [Act.put, List.setIfInBounds_toArray, List.set_cons_zero, List.set_cons_succ]
            refine stepE_skip 14 (some 34) (fun _ => Keep.refl _ _) rfl (by rfl) (by kernel_rfl) (by kernel_rfl) (by kernel_rfl) (by decide) (fun _ _ _ h => h) (by rfl) ?_
            try simp only [Act.put, List.setIfInBounds_toArray, List.set_cons_zero, List.set_cons_succ]
            -- 15: pick -> 35
            refine stepE_end 15 rfl (by kernel_rfl) (by rfl) (by rfl) (fun K' hK => ?_)
            go_simp
            refine hK _ _ ?_
            clear hK K'
            refine wpAnyE_done (by kernel_rfl) ?_ _
            clear HY0 HY1 HY2
            obtain ⟨wd, hwd⟩ : ∃ x, w3.drew = x := ⟨_, rfl⟩
            rw [hwd] at X3 B3 ⊢
            have z0 := X3.out.cell 0
            have z1 := X3.out.cell 1
            have z2 := X3.out.cell 2
            have f0 := X3.out.free 0
            have f1 := X3.out.free 1
            have f2 := X3.out.free 2
            have e0 : (wd.setCell ⟨w.heap.size, 0, none⟩ (.int .u64 0)).cell? ⟨w.heap.size, 0, none⟩ = some (.int .u64 0) := by rw [(X3.out.setCell 0 _).cell]; rfl
            have e1 : ((wd.setCell ⟨w.heap.size, 0, none⟩ (.int .u64 0)).setCell ⟨w.heap.size, 1, none⟩ (.int .u64 0)).cell? ⟨w.heap.size, 1, none⟩ = some (.int .u64 0) := by rw [((X3.out.setCell 0 _).setCell 1 _).cell]; rfl
            have e2 : (((wd.setCell ⟨w.heap.size, 0, none⟩ (.int .u64 0)).setCell ⟨w.heap.size, 1, none⟩ (.int .u64 0)).setCell ⟨w.heap.size, 2, none⟩ (.int .i64 0)).cell? ⟨w.heap.size, 2, none⟩ = some (.int .i64 0) := by rw [(((X3.out.setCell 0 _).setCell 1 _).setCell 2 _).cell]; rfl
            go_wp2
            try simp only [Exit.inBlock, Exit.then]
            refine bodyPost_ret (v := .tuple #[.agg #[.int .u64 0, .int .u64 0, .int .i64 0], .bool false]) (by simp [results, Try.results14, go_sem, e0, e1, e2]; try rfl) rfl ?_
            exact ⟨by rw [HRE.out]; rfl, ((B3.out.setCell (Nat.le_refl _) _).setCell (Nat.le_refl _) _).setCell (Nat.le_refl _) _⟩
          · have ha1I : ¬ (1 : Int) < a2 := by have := HA2.out; omega
            have ha2 : a2 = a0 := by have := HA2.out; omega
            have HCV := Lib.hid (fun W (hW : Keep (fun _ => False) w3.drew W) => conv_str (P := Try.prog) (HV.out W (B3.out.trans (hW.below (N := w.heap.size) (fun _ h => h.elim) B3.out.size))) 25 5 Try.underlying25 Try.underlying5 9 Try.underlying9)
            have HA0 := Lib.hid ha2
            clear ha2
            go_wp2_with fail
            have hcb : ((c0 : Int) == 0) = false := by simpa using hc0
            have ha1J : ¬ (1 : Int) < (a2 : Int) := by have := HA2.out; omega
            refine regionE_begin 15 (fun W => Keep (fun _ => False) w3.drew W) (by kernel_rfl) ?_
            refine stepE_any 0 (some 20) (v := ?vrcq0) (fun _ => Keep.refl _ _) rfl (by rfl) (by kernel_rfl) (by kernel_rfl) (by kernel_rfl) (by decide) (fun _ _ _ h => h) (by rfl) ?yrcq0 ?nrcq0
            case yrcq0 => intro W; go_simp; try with_reducible rfl
            try simp only [Act.put, List.setIfInBounds_toArray, List.set_cons_zero, List.set_cons_succ]
            refine stepE_read 1 20 (some 21) (v := ?vrcq1) (Keep.refl _ _) rfl (by rfl) (by kernel_rfl) (by kernel_rfl) (by kernel_rfl) (by kernel_rfl) (by kernel_rfl) (fun _ _ _ h => h) (by rfl) ?yrcq1 ?nrcq1
            case yrcq1 => intro W hW; have q0 := HY0.out W hW; go_simp; try with_reducible rfl
            try simp only [Act.put, List.setIfInBounds_toArray, List.set_cons_zero, List.set_cons_succ]
            refine stepE_any 2 (some 22) (v := ?vrcq2) (fun _ => Keep.refl _ _) rfl (by rfl) (by kernel_rfl) (by kernel_rfl) (by kernel_rfl) (by decide) (fun _ _ _ h => h) (by rfl) ?yrcq2 ?nrcq2
            case yrcq2 => intro W; go_simp; try with_reducible rfl
            try simp only [Act.put, List.setIfInBounds_toArray, List.set_cons_zero, List.set_cons_succ]
            refine stepE_any 3 (some 23) (v := ?vrcq3) (fun _ => Keep.refl _ _) rfl (by rfl) (by kernel_rfl) (by kernel_rfl) (by kernel_rfl) (by decide) (fun _ _ _ h => h) (by rfl) ?yrcq3 ?nrcq3
            case yrcq3 => intro W; go_simp; try with_reducible rfl
            try simp only [Act.put, List.setIfInBounds_toArray, List.set_cons_zero, List.set_cons_succ]
            refine stepE_any 4 (some 24) (v := ?vrcq4) (fun _ => Keep.refl _ _) rfl (by rfl) (by kernel_rfl) (by kernel_rfl) (by kernel_rfl) (by decide) (fun _ _ _ h => h) (by rfl) ?yrcq4 ?nrcq4
            case yrcq4 => intro W; go_simp; try with_reducible rfl
            try simp only [Act.put, List.setIfInBounds_toArray, List.set_cons_zero, List.set_cons_succ]
            refine stepE_read 5 20 (some 25) (v := ?vrcq5) (Keep.refl _ _) rfl (by rfl) (by kernel_rfl) (by kernel_rfl) (by kernel_rfl) (by kernel_rfl) (by kernel_rfl) (fun _ _ _ h => h) (by rfl) ?yrcq5 ?nrcq5
            case yrcq5 => intro W hW; have q2 := HY2.out W hW; go_simp; try with_reducible rfl
            try simp only [Act.put, List.setIfInBounds_toArray, List.set_cons_zero, List.set_cons_succ]
            refine stepE_any 6 (some 26) (v := ?vrcq6) (fun _ => Keep.refl _ _) rfl (by rfl) (by kernel_rfl) (by kernel_rfl) (by kernel_rfl) (by decide) (fun _ _ _ h => h) (by rfl) ?yrcq6 ?nrcq6
            case yrcq6 => intro W; go_simp; try with_reducible rfl
            try simp only [Act.put, List.setIfInBounds_toArray, List.set_cons_zero, List.set_cons_succ]
            refine stepE_any 7 (some 27) (v := ?vrcq7) (fun _ => Keep.refl _ _) rfl (by rfl) (by kernel_rfl) (by kernel_rfl) (by kernel_rfl) (by decide) (fun _ _ _ h => h) (by rfl) ?yrcq7 ?nrcq7
            case yrcq7 => intro W; go_simp; try with_reducible rfl
            try simp only [Act.put, List.setIfInBounds_toArray, List.set_cons_zero, List.set_cons_succ]
            refine stepE_any 8 (some 28) (v := ?vrcq8) (fun _ => Keep.refl _ _) rfl (by rfl) (by kernel_rfl) (by kernel_rfl) (by kernel_rfl) (by decide) (fun _ _ _ h => h) (by rfl) ?yrcq8 ?nrcq8
            case yrcq8 => intro W; go_simp; try with_reducible rfl
            try simp only [Act.put, List.setIfInBounds_toArray, List.set_cons_zero, List.set_cons_succ]
            refine stepE_read 9 20 (some 29) (v := ?vrcq9) (Keep.refl _ _) rfl (by rfl) (by kernel_rfl) (by kernel_rfl) (by kernel_rfl) (by kernel_rfl) (by kernel_rfl) (fun _ _ _ h => h) (by rfl) ?yrcq9 ?nrcq9
            case yrcq9 => intro W hW; have q0 := HY0.out W hW; have q1 := HY1.out W hW; have q2 := HY2.out W hW; go_simp; try with_reducible rfl
            try simp only [Act.put, List.setIfInBounds_toArray, List.set_cons_zero, List.set_cons_succ]
            refine stepE_any 12 (some 32) (v := ?vrcq12) (fun _ => Keep.refl _ _) rfl (by rfl) (by kernel_rfl) (by kernel_rfl) (by kernel_rfl) (by decide) (fun _ _ _ h => h) (by rfl) ?yrcq12 ?nrcq12
            case yrcq12 => intro W; go_simp; try with_reducible rfl
            try simp only [Act.put, List.setIfInBounds_toArray, List.set_cons_zero, List.set_cons_succ]
            refine stepE_read 13 20 (some 33) (v := ?vrcq13) (Keep.refl _ _) rfl (by rfl) (by kernel_rfl) (by kernel_rfl) (by kernel_rfl) (by kernel_rfl) (by kernel_rfl) (fun _ _ _ h => h) (by rfl) ?yrcq13 ?nrcq13
            case yrcq13 => intro W hW; ((refine exec_convH 25 9 (.tmp 32) ?_ _ (.string (strOfNums bs)) ?_ (HCV.out W hW)); rfl; rfl)
            try simp only [Act.put, List.setIfInBounds_toArray, List.set_cons_zero, List.set_cons_succ]
            -- 10: call:11 -> 30
            refine stepE_only 10 rfl (by kernel_rfl) (by rfl) (fun K' hK => ?_)
            go_simp
            refine (pput_any _ c0 g0 a2 (a2 : Int) (.inl rfl) (by omega)).mono ?_
            rintro e w4 ⟨u4, rfl, ho4, hb4⟩
            have hn4 : IsNums .u8 w4 u4 (slotB c0 g0 a2) := IsNums.ofOwn ho4
            obtain ⟨p4, q4, rfl, -⟩ := id hn4
            have N4 := Lib.hid hn4
            have B4 := Lib.hid hb4
            refine hK _ _ (Keep.ofBelow hb4) ?_
            clear ho4 hb4 hn4
            clear hK K'
            try simp only [Act.put, List.setIfInBounds_toArray, List.set_cons_zero, List.set_cons_succ]
            -- 11: convert -> 31
            refine stepE_only 11 rfl (by kernel_rfl) (by rfl) (fun K' hK => ?_)
            have hcv := conv_str (P := Try.prog) N4.out 25 5 Try.underlying25 Try.underlying5 9 Try.underlying9
            go_simp
            refine hK _ _ (Keep.ofBelow B4.out) ?_
            clear hcv
            clear hK K'
            try simp only [Act.put, List.setIfInBounds_toArray, List.set_cons_zero, List.set_cons_succ]
            refine stepE_any 14 (some 34) (v := ?vrcq14) (fun _ => Keep.ofBelow B4.out) rfl (by rfl) (by kernel_rfl) (by kernel_rfl) (by kernel_rfl) (by decide) (fun _ _ _ h => h) (by rfl) ?yrcq14 ?nrcq14
            case yrcq14 => intro W; go_simp; try with_reducible rfl
            try simp only [Act.put, List.setIfInBounds_toArray, List.set_cons_zero, List.set_cons_succ]
            -- 15: pick -> 35
            refine stepE_end 15 rfl (by kernel_rfl) (by rfl) (by rfl) (fun K' hK => ?_)
            go_simp
            refine hK _ _ ?_
            clear hK K'
            refine wpAnyE_done (by kernel_rfl) ?_ _
            have hbb := str_beq (slotB_sec c0 g0 a2).2 HBB.out
            obtain ⟨bq, hbq⟩ : ∃ bq, ((strOfNums (slotB c0 g0 a2)).toList == (strOfNums bs).toList) = bq := ⟨_, rfl⟩
            rw [hbq] at hbb ⊢
            have X4 := Lib.hid (X3.out.below B4.out X3.out.lt)
            have Y4 := Lib.hid (Y3.out.below B4.out Y3.out.lt)
            have B5 := Lib.hid (B3.out.trans (B4.out.mono B3.out.size))
            clear HY0 HY1 HY2 X3 Y3 B3 B4 N4 hbq
            by_cases he : slotB c0 g0 a2 = bs
            · have hRe : R = some (c0, g0, a2) := by rw [HRS.out, ← HA0.out, if_pos]; exact ⟨hl, hc0, by have := HA0.out; omega, he⟩
              have HRE := Lib.hid hRe
              obtain rfl : bq = true := hbb.trans (decide_eq_true he)
              clear hRe he hbb
              have y0 := Y4.out.cell 0
              have y1 := Y4.out.cell 1
              have y2 := Y4.out.cell 2
              have z0 := X4.out.cell 0
              have z1 := X4.out.cell 1
              have z2 := X4.out.cell 2
              have f0 := X4.out.free 0
              have f1 := X4.out.free 1
              have f2 := X4.out.free 2
              have e0 : (w4.setCell ⟨w.heap.size, 0, none⟩ (.int .u64 c0)).cell? ⟨w.heap.size, 0, none⟩ = some (.int .u64 c0) := by rw [(X4.out.setCell 0 _).cell]; rfl
              have e1 : ((w4.setCell ⟨w.heap.size, 0, none⟩ (.int .u64 c0)).setCell ⟨w.heap.size, 1, none⟩ (.int .u64 g0)).cell? ⟨w.heap.size, 1, none⟩ = some (.int .u64 g0) := by rw [((X4.out.setCell 0 _).setCell 1 _).cell]; rfl
              have e2 : (((w4.setCell ⟨w.heap.size, 0, none⟩ (.int .u64 c0)).setCell ⟨w.heap.size, 1, none⟩ (.int .u64 g0)).setCell ⟨w.heap.size, 2, none⟩ (.int .i64 a2)).cell? ⟨w.heap.size, 2, none⟩ = some (.int .i64 a2) := by rw [(((X4.out.setCell 0 _).setCell 1 _).setCell 2 _).cell]; rfl
              go_wp2
              try simp only [Exit.inBlock, Exit.then]
              refine bodyPost_ret (v := .tuple #[.agg #[.int .u64 c0, .int .u64 g0, .int .i64 a2], .bool true]) (by simp [results, Try.results14, go_sem, e0, e1, e2]; try rfl) rfl ?_
              exact ⟨by rw [HRE.out]; rfl, ((B5.out.setCell (Nat.le_refl _) _).setCell (Nat.le_refl _) _).setCell (Nat.le_refl _) _⟩
            · have hRe : R = none := by rw [HRS.out, ← HA0.out, if_neg]; exact fun h => he h.2.2.2
              have HRE := Lib.hid hRe
              obtain rfl : bq = false := hbb.trans (decide_eq_false he)
              clear hRe he hbb
              have z0 := X4.out.cell 0
              have z1 := X4.out.cell 1
              have z2 := X4.out.cell 2
              have f0 := X4.out.free 0
              have f1 := X4.out.free 1
              have f2 := X4.out.free 2
              have e0 : (w4.setCell ⟨w.heap.size, 0, none⟩ (.int .u64 0)).cell? ⟨w.heap.size, 0, none⟩ = some (.int .u64 0) := by rw [(X4.out.setCell 0 _).cell]; rfl
              have e1 : ((w4.setCell ⟨w.heap.size, 0, none⟩ (.int .u64 0)).setCell ⟨w.heap.size, 1, none⟩ (.int .u64 0)).cell? ⟨w.heap.size, 1, none⟩ = some (.int .u64 0) := by rw [((X4.out.setCell 0 _).setCell 1 _).cell]; rfl
              have e2 : (((w4.setCell ⟨w.heap.size, 0, none⟩ (.int .u64 0)).setCell ⟨w.heap.size, 1, none⟩ (.int .u64 0)).setCell ⟨w.heap.size, 2, none⟩ (.int .i64 0)).cell? ⟨w.heap.size, 2, none⟩ = some (.int .i64 0) := by rw [(((X4.out.setCell 0 _).setCell 1 _).setCell 2 _).cell]; rfl
              go_wp2
              try simp only [Exit.inBlock, Exit.then]
              refine bodyPost_ret (v := .tuple #[.agg #[.int .u64 0, .int .u64 0, .int .i64 0], .bool false]) (by simp [results, Try.results14, go_sem, e0, e1, e2]; try rfl) rfl ?_
              exact ⟨by rw [HRE.out]; rfl, ((B5.out.setCell (Nat.le_refl _) _).setCell (Nat.le_refl _) _).setCell (Nat.le_refl _) _⟩
      · go_simp
        refine hK _ _ ?_
        clear hK K'
        try simp only [Act.put, List.setIfInBounds_toArray, List.set_cons_zero, List.set_cons_succ]
        refine stepE_only 7 rfl (by kernel_rfl) (by rfl) (fun K' hK => ?_)
        go_simp
        refine (number_any _ _ (bs.drop 16) N16a.out (by rw [HL16.out]; omega) HB16.out).mono ?_
        rintro e w9 ⟨rfl, rfl⟩
        rw [E16.out]
        refine hK _ _ trivial ?_
        clear hK K'
        try simp only [Act.put, List.setIfInBounds_toArray, List.set_cons_zero, List.set_cons_succ]
        refine stepE_any 8 (some 17) (v := .int .u64 mn) (fun _ => trivial) rfl (by rfl) (by kernel_rfl) (by kernel_rfl) (by kernel_rfl) (by decide) (fun _ _ _ h => h) (by rfl) ?ypxxy8 ?npxxy8
        case ypxxy8 => intro W; go_simp; rw [HMN.out]; try with_reducible rfl
        try simp only [Act.put, List.setIfInBounds_toArray, List.set_cons_zero, List.set_cons_succ]
        refine stepE_any 9 (some 18) (v := .int .i64 a2) (fun _ => trivial) rfl (by rfl) (by kernel_rfl) (by kernel_rfl) (by kernel_rfl) (by decide) (fun _ _ _ h => h) (by rfl) ?ypxxy9 ?npxxy9
        case ypxxy9 => intro W; go_simp; rw [HM2.out]; try with_reducible rfl
        try simp only [Act.put, List.setIfInBounds_toArray, List.set_cons_zero, List.set_cons_succ]
        refine stepE_any 10 (some 19) (v := ?vpxxy10) (fun _ => trivial) rfl (by rfl) (by kernel_rfl) (by kernel_rfl) (by kernel_rfl) (by decide) (fun _ _ _ h => h) (by rfl) ?ypxxy10 ?npxxy10
        case ypxxy10 => intro W; go_simp; try with_reducible rfl
        try simp only [Act.put, List.setIfInBounds_toArray, List.set_cons_zero, List.set_cons_succ]
        refine stepE_end 12 rfl (by kernel_rfl) (by rfl) (by rfl) (fun K' hK => ?_)
        refine wp_store_blk SB.out 31 (.tmp 4) (.tmp 19) rfl 0 [.int .u64 c0, .int .u64 g0, .int .i64 a2] (by rfl) (by rfl) (by simp) HI.out (by intro v hv; simp at hv; rcases hv with rfl | rfl | rfl <;> rfl) (fun w3 hb3 hk3 => hK _ _ ?_)
        clear hK K'
        try simp only [Act.put, List.setIfInBounds_toArray, List.set_cons_zero, List.set_cons_succ]
        refine wpAnyE_done (by kernel_rfl) ?_ _
        have hk3' := hk3 (fun k => k = w.heap.size + 1) rfl
        have hx3 := SX.out.keep hk3' (by omega)
        have hb3' := SBL.out.trans (hk3'.below (N := w.heap.size) (fun j e => by omega) SBL.out.size)
        rw [show ([.int .u64 0, .int .u64 0, .int .i64 0] : List Value).take 0 ++ [.int .u64 c0, .int .u64 g0, .int .i64 a2] ++ ([.int .u64 0, .int .u64 0, .int .i64 0] : List Value).drop (0 + ([.int .u64 c0, .int .u64 g0, .int .i64 a2] : List Value).length) = [.int .u64 c0, .int .u64 g0, .int .i64 a2] from rfl] at hb3
        have hyy : ∀ W, Keep (fun _ => False) w3.drew W → Blk W (w.heap.size + 1) 31 [.int .u64 c0, .int .u64 g0, .int .i64 a2] := fun W hW => (hb3.keep (Keep.drew (fun _ => False) _) (fun h => h)).keep hW (fun h => h)
        have HY0 := Lib.hid (fun W hW => (hyy W hW).cell 0)
        have HY1 := Lib.hid (fun W hW => (hyy W hW).cell 1)
        have HY2 := Lib.hid (fun W hW => (hyy W hW).cell 2)
        have X3 := Lib.hid (hx3.keep (Keep.drew (fun _ => False) _) (fun h => h))
        have Y3 := Lib.hid (hb3.keep (Keep.drew (fun _ => False) _) (fun h => h))
        have B3 := Lib.hid hb3'.drew
        clear hk3 hk3' hx3 hb3 hb3' hyy
        by_cases hc0 : c0 = 0
        · have hRe : R = none := by rw [HRS.out, if_neg]; exact fun h => h.2.1 hc0
          have HRE := Lib.hid hRe
          clear hRe
          subst hc0
          rw [show ((0 : Nat) : Int) = 0 from rfl] at HY0 ⊢
          go_wp2_with fail
          refine regionE_begin 15 (fun W => Keep (fun _ => False) w3.drew W) (by kernel_rfl) ?_
          refine stepE_any 0 (some 20) (v := ?vraqq0) (fun _ => Keep.refl _ _) rfl (by rfl) (by kernel_rfl) (by kernel_rfl) (by kernel_rfl) (by decide) (fun _ _ _ h => h) (by rfl) ?yraqq0 ?nraqq0
          case yraqq0 => intro W; go_simp; try with_reducible rfl
          try simp only [Act.put, List.setIfInBounds_toArray, List.set_cons_zero, List.set_cons_succ]
          refine stepE_read 1 20 (some 21) (v := ?vraqq1) (Keep.refl _ _) rfl (by rfl) (by kernel_rfl) (by kernel_rfl) (by kernel_rfl) (by kernel_rfl) (by kernel_rfl) (fun _ _ _ h => h) (by rfl) ?yraqq1 ?nraqq1
          case yraqq1 => intro W hW; have q0 := HY0.out W hW; go_simp; try with_reducible rfl
          try simp only [Act.put, List.setIfInBounds_toArray, List.set_cons_zero, List.set_cons_succ]
          refine stepE_any 2 (some 22) (v := ?vraqq2) (fun _ => Keep.refl _ _) rfl (by rfl) (by kernel_rfl) (by kernel_rfl) (by kernel_rfl) (by decide) (fun _ _ _ h => h) (by rfl) ?yraqq2 ?nraqq2
          case yraqq2 => intro W; go_simp; try with_reducible rfl
          try simp only [Act.put, List.setIfInBounds_toArray, List.set_cons_zero, List.set_cons_succ]
          refine stepE_any 3 (some 23) (v := ?vraqq3) (fun _ => Keep.refl _ _) rfl (by rfl) (by kernel_rfl) (by kernel_rfl) (by kernel_rfl) (by decide) (fun _ _ _ h => h) (by rfl) ?yraqq3 ?nraqq3
          case yraqq3 => intro W; go_simp; try with_reducible rfl
          try simp only [Act.put, List.setIfInBounds_toArray, List.set_cons_zero, List.set_cons_succ]
          refine stepE_skip 4 (some 24) (fun _ => Keep.refl _ _) rfl (by rfl) (by kernel_rfl) (by kernel_rfl) (by kernel_rfl) (by decide) (fun _ _ _ h => h) (by rfl) ?_
          try simp only [Act.put, List.setIfInBounds_toArray, List.set_cons_zero, List.set_cons_succ]
          refine stepE_skip 5 (some 25) (fun _ => Keep.refl _ _) rfl (by rfl) (by kernel_rfl) (by kernel_rfl) (by kernel_rfl) (by decide) (fun _ _ _ h => h) (by rfl) ?_
          try simp only [Act.put, List.setIfInBounds_toArray, List.set_cons_zero, List.set_cons_succ]
          refine stepE_skip 6 (some 26) (fun _ => Keep.refl _ _) rfl (by rfl) (by kernel_rfl) (by kernel_rfl) (by kernel_rfl) (by decide) (fun _ _ _ h => h) (by rfl) ?_
          try simp only [Act.put, List.setIfInBounds_toArray, List.set_cons_zero, List.set_cons_succ]
          refine stepE_any 7 (some 27) (v := ?vraqq7) (fun _ => Keep.refl _ _) rfl (by rfl) (by kernel_rfl) (by kernel_rfl) (by kernel_rfl) (by decide) (fun _ _ _ h => h) (by rfl) ?yraqq7 ?nraqq7
          case yraqq7 => intro W; go_simp; try with_reducible rfl
          try simp only [Act.put, List.setIfInBounds_toArray, List.set_cons_zero, List.set_cons_succ]
          refine stepE_any 8 (some 28) (v := ?vraqq8) (fun _ => Keep.refl _ _) rfl (by rfl) (by kernel_rfl) (by kernel_rfl) (by kernel_rfl) (by decide) (fun _ _ _ h => h) (by rfl) ?yraqq8 ?nraqq8
          case yraqq8 => intro W; go_simp; try with_reducible rfl
          try simp only [Act.put, List.setIfInBounds_toArray, List.set_cons_zero, List.set_cons_succ]
          refine stepE_skip 9 (some 29) (fun _ => Keep.refl _ _) rfl (by rfl) (by kernel_rfl) (by kernel_rfl) (by kernel_rfl) (by decide) (fun _ _ _ h => h) (by rfl) ?_
          try simp only [Act.put, List.setIfInBounds_toArray, List.set_cons_zero, List.set_cons_succ]
          refine stepE_skip 10 (some 30) (fun _ => Keep.refl _ _) rfl (by rfl) (by kernel_rfl) (by kernel_rfl) (by kernel_rfl) (by decide) (fun _ _ _ h => h) (by rfl) ?_
          try simp only [Act.put, List.setIfInBounds_toArray, List.set_cons_zero, List.set_cons_succ]
          refine stepE_skip 11 (some 31) (fun _ => Keep.refl _ _) rfl (by rfl) (by kernel_rfl) (by kernel_rfl) (by kernel_rfl) (by decide) (fun _ _ _ h => h) (by rfl) ?_
          try simp only [Act.put, List.setIfInBounds_toArray, List.set_cons_zero, List.set_cons_succ]
          refine stepE_skip 12 (some 32) (fun _ => Keep.refl _ _) rfl (by rfl) (by kernel_rfl) (by kernel_rfl) (by kernel_rfl) (by decide) (fun _ _ _ h => h) (by rfl) ?_
          try simp only [Act.put, List.setIfInBounds_toArray, List.set_cons_zero, List.set_cons_succ]
          refine stepE_skip 13 (some 33) (fun _ => Keep.refl _ _) rfl (by rfl) (by kernel_rfl) (by kernel_rfl) (by kernel_rfl) (by decide) (fun _ _ _ h => h) (by rfl) ?_
          try simp only [Act.put, List.setIfInBounds_toArray, List.set_cons_zero, List.set_cons_succ]
          refine stepE_skip 14 (some 34) (fun _ => Keep.refl _ _) rfl (by rfl) (by kernel_rfl) (by kernel_rfl) (by kernel_rfl) (by decide) (fun _ _ _ h => h) (by rfl) ?_
          try simp only [Act.put, List.setIfInBounds_toArray, List.set_cons_zero, List.set_cons_succ]
          -- 15: pick -> 35
          refine stepE_end 15 rfl (by kernel_rfl) (by rfl) (by rfl) (fun K' hK => ?_)
          go_simp
          refine hK _ _ ?_
          clear hK K'
          refine wpAnyE_done (by kernel_rfl) ?_ _
          clear HY0 HY1 HY2
          obtain ⟨wd, hwd⟩ : ∃ x, w3.drew = x := ⟨_, rfl⟩
          rw [hwd] at X3 B3 ⊢
          have z0 := X3.out.cell 0
          have z1 := X3.out.cell 1
          have z2 := X3.out.cell 2
          have f0 := X3.out.free 0
          have f1 := X3.out.free 1
          have f2 := X3.out.free 2
          have e0 : (wd.setCell ⟨w.heap.size, 0, none⟩ (.int .u64 0)).cell? ⟨w.heap.size, 0, none⟩ = some (.int .u64 0) := by rw [(X3.out.setCell 0 _).cell]; rfl
          have e1 : ((wd.setCell ⟨w.heap.size, 0, none⟩ (.int .u64 0)).setCell ⟨w.heap.size, 1, none⟩ (.int .u64 0)).cell? ⟨w.heap.size, 1, none⟩ = some (.int .u64 0) := by rw [((X3.out.setCell 0 _).setCell 1 _).cell]; rfl
          have e2 : (((wd.setCell ⟨w.heap.size, 0, none⟩ (.int .u64 0)).setCell ⟨w.heap.size, 1, none⟩ (.int .u64 0)).setCell ⟨w.heap.size, 2, none⟩ (.int .i64 0)).cell? ⟨w.heap.size, 2, none⟩ = some (.int .i64 0) := by rw [(((X3.out.setCell 0 _).setCell 1 _).setCell 2 _).cell]; rfl
          go_wp2
          try simp only [Exit.inBlock, Exit.then]
          refine bodyPost_ret (v := .tuple #[.agg #[.int .u64 0, .int .u64 0, .int .i64 0], .bool false]) (by simp [results, Try.results14, go_sem, e0, e1, e2]; try rfl) rfl ?_
          exact ⟨by rw [HRE.out]; rfl, ((B3.out.setCell (Nat.le_refl _) _).setCell (Nat.le_refl _) _).setCell (Nat.le_refl _) _⟩
        · have hc0I : ¬ (c0 : Int) = 0 := by omega
          by_cases ha1 : 1 < a0
          · have hRe : R = none := by rw [HRS.out, if_neg]; exact fun h => by have := h.2.2.1; omega
            have HRE := Lib.hid hRe
            clear hRe
            have ha1I : (1 : Int) < a2 := by have := HA2.out; omega
            go_wp2_with fail
            have hcb : ((c0 : Int) == 0) = false := by simpa using hc0
            refine regionE_begin 15 (fun W => Keep (fun _ => False) w3.drew W) (by kernel_rfl) ?_
            refine stepE_any 0 (some 20) (v := ?vrbqq0) (fun _ => Keep.refl _ _) rfl (by rfl) (by kernel_rfl) (by kernel_rfl) (by kernel_rfl) (by decide) (fun _ _ _ h => h) (by rfl) ?yrbqq0 ?nrbqq0
            case yrbqq0 => intro W; go_simp; try with_reducible rfl
            try simp only [Act.put, List.setIfInBounds_toArray, List.set_cons_zero, List.set_cons_succ]
            refine stepE_read 1 20 (some 21) (v := ?vrbqq1) (Keep.refl _ _) rfl (by rfl) (by kernel_rfl) (by kernel_rfl) (by kernel_rfl) (by kernel_rfl) (by kernel_rfl) (fun _ _ _ h => h) (by rfl) ?yrbqq1 ?nrbqq1
            case yrbqq1 => intro W hW; have q0 := HY0.out W hW; go_simp; try with_reducible rfl
            try simp only [Act.put, List.setIfInBounds_toArray, List.set_cons_zero, List.set_cons_succ]
            refine stepE_any 2 (some 22) (v := ?vrbqq2) (fun _ => Keep.refl _ _) rfl (by rfl) (by kernel_rfl) (by kernel_rfl) (by kernel_rfl) (by decide) (fun _ _ _ h => h) (by rfl) ?yrbqq2 ?nrbqq2
            case yrbqq2 => intro W; go_simp; try with_reducible rfl
            try simp only [Act.put, List.setIfInBounds_toArray, List.set_cons_zero, List.set_cons_succ]
            refine stepE_any 3 (some 23) (v := ?vrbqq3) (fun _ => Keep.refl _ _) rfl (by rfl) (by kernel_rfl) (by kernel_rfl) (by kernel_rfl) (by decide) (fun _ _ _ h => h) (by rfl) ?yrbqq3 ?nrbqq3
            case yrbqq3 => intro W; go_simp; try with_reducible rfl
            try simp only [Act.put, List.setIfInBounds_toArray, List.set_cons_zero, List.set_cons_succ]
            refine stepE_any 4 (some 24) (v := ?vrbqq4) (fun _ => Keep.refl _ _) rfl (by rfl) (by kernel_rfl) (by kernel_rfl) (by kernel_rfl) (by decide) (fun _ _ _ h => h) (by rfl) ?yrbqq4 ?nrbqq4
            case yrbqq4 => intro W; go_simp; try with_reducible rfl
            try simp only [Act.put, List.setIfInBounds_toArray, List.set_cons_zero, List.set_cons_succ]
            refine stepE_read 5 20 (some 25) (v := ?vrbqq5) (Keep.refl _ _) rfl (by rfl) (by kernel_rfl) (by kernel_rfl) (by kernel_rfl) (by kernel_rfl) (by kernel_rfl) (fun _ _ _ h => h) (by rfl) ?yrbqq5 ?nrbqq5
            case yrbqq5 => intro W hW; have q2 := HY2.out W hW; go_simp; try with_reducible rfl
            try simp only [Act.put, List.setIfInBounds_toArray, List.set_cons_zero, List.set_cons_succ]
            refine stepE_any 6 (some 26) (v := ?vrbqq6) (fun _ => Keep.refl _ _) rfl (by rfl) (by kernel_rfl) (by kernel_rfl) (by kernel_rfl) (by decide) (fun _ _ _ h => h) (by rfl) ?yrbqq6 ?nrbqq6
            case yrbqq6 => intro W; go_simp; try with_reducible rfl
            try simp only [Act.put, List.setIfInBounds_toArray, List.set_cons_zero, List.set_cons_succ]
            refine stepE_any 7 (some 27) (v := ?vrbqq7) (fun _ => Keep.refl _ _) rfl (by rfl) (by kernel_rfl) (by kernel_rfl) (by kernel_rfl) (by decide) (fun _ _ _ h => h) (by rfl) ?yrbqq7 ?nrbqq7
            case yrbqq7 => intro W; go_simp; try with_reducible rfl
            try simp only [Act.put, List.setIfInBounds_toArray, List.set_cons_zero, List.set_cons_succ]
            refine stepE_any 8 (some 28) (v := ?vrbqq8) (fun _ => Keep.refl _ _) rfl (by rfl) (by kernel_rfl) (by kernel_rfl) (by kernel_rfl) (by decide) (fun _ _ _ h => h) (by rfl) ?yrbqq8 ?nrbqq8
            case yrbqq8 => intro W; go_simp; try with_reducible rfl
            try simp only [Act.put, List.setIfInBounds_toArray, List.set_cons_zero, List.set_cons_succ]
            refine stepE_skip 9 (some 29) (fun _ => Keep.refl _ _) rfl (by rfl) (by kernel_rfl) (by kernel_rfl) (by kernel_rfl) (by decide) (fun _ _ _ h => h) (by rfl) ?_
            try simp only [Act.put, List.setIfInBounds_toArray, List.set_cons_zero, List.set_cons_succ]
            refine stepE_skip 10 (some 30) (fun _ => Keep.refl _ _) rfl (by rfl) (by kernel_rfl) (by kernel_rfl) (by kernel_rfl) (by decide) (fun _ _ _ h => h) (by rfl) ?_
            try simp only [Act.put, List.setIfInBounds_toArray, List.set_cons_zero, List.set_cons_succ]
            refine stepE_skip 11 (some 31) (fun _ => Keep.refl _ _) rfl (by rfl) (by kernel_rfl) (by kernel_rfl) (by kernel_rfl) (by decide) (fun _ _ _ h => h) (by rfl) ?_
            try simp only [Act.put, List.setIfInBounds_toArray, List.set_cons_zero, List.set_cons_succ]
            refine stepE_skip 12 (some 32) (fun _ => Keep.refl _ _) rfl (by rfl) (by kernel_rfl) (by kernel_rfl) (by kernel_rfl) (by decide) (fun _ _ _ h => h) (by rfl) ?_
            try simp only [Act.put, List.setIfInBounds_toArray, List.set_cons_zero, List.set_cons_succ]
            refine stepE_skip 13 (some 33) (fun _ => Keep.refl _ _) rfl (by rfl) (by kernel_rfl) (by kernel_rfl) (by kernel_rfl) (by decide) (fun _ _ _ h => h) (by rfl) ?_
            try simp only [Act.put, List.setIfInBounds_toArray, List.set_cons_zero, List.set_cons_succ]
            refine stepE_skip 14 (some 34) (fun _ => Keep.refl _ _) rfl (by rfl) (by kernel_rfl) (by kernel_rfl) (by kernel_rfl) (by decide) (fun _ _ _ h => h) (by rfl) ?_
            try simp only [Act.put, List.setIfInBounds_toArray, List.set_cons_zero, List.set_cons_succ]
            -- 15: pick -> 35
            refine stepE_end 15 rfl (by kernel_rfl) (by rfl) (by rfl) (fun K' hK => ?_)
            go_simp
            refine hK _ _ ?_
            clear hK K'
            refine wpAnyE_done (by kernel_rfl) ?_ _
            clear HY0 HY1 HY2
            obtain ⟨wd, hwd⟩ : ∃ x, w3.drew = x := ⟨_, rfl⟩
            rw [hwd] at X3 B3 ⊢
            have z0 := X3.out.cell 0
            have z1 := X3.out.cell 1
            have z2 := X3.out.cell 2
            have f0 := X3.out.free 0
            have f1 := X3.out.free 1
            have f2 := X3.out.free 2
            have e0 : (wd.setCell ⟨w.heap.size, 0, none⟩ (.int .u64 0)).cell? ⟨w.heap.size, 0, none⟩ = some (.int .u64 0) := by rw [(X3.out.setCell 0 _).cell]; rfl
            have e1 : ((wd.setCell ⟨w.heap.size, 0, none⟩ (.int .u64 0)).setCell ⟨w.heap.size, 1, none⟩ (.int .u64 0)).cell? ⟨w.heap.size, 1, none⟩ = some (.int .u64 0) := by rw [((X3.out.setCell 0 _).setCell 1 _).cell]; rfl
            have e2 : (((wd.setCell ⟨w.heap.size, 0, none⟩ (.int .u64 0)).setCell ⟨w.heap.size, 1, none⟩ (.int .u64 0)).setCell ⟨w.heap.size, 2, none⟩ (.int .i64 0)).cell? ⟨w.heap.size, 2, none⟩ = some (.int .i64 0) := by rw [(((X3.out.setCell 0 _).setCell 1 _).setCell 2 _).cell]; rfl
            go_wp2
            try simp only [Exit.inBlock, Exit.then]
            refine bodyPost_ret (v := .tuple #[.agg #[.int .u64 0, .int .u64 0, .int .i64 0], .bool false]) (by simp [results, Try.results14, go_sem, e0, e1, e2]; try rfl) rfl ?_
            exact ⟨by rw [HRE.out]; rfl, ((B3.out.setCell (Nat.le_refl _) _).setCell (Nat.le_refl _) _).setCell (Nat.le_refl _) _⟩
          · have ha1I : ¬ (1 : Int) < a2 := by have := HA2.out; omega
            have ha2 : a2 = a0 := by have := HA2.out; omega
            have HCV := Lib.hid (fun W (hW : Keep (fun _ => False) w3.drew W) => conv_str (P := Try.prog) (HV.out W (B3.out.trans (hW.below (N := w.heap.size) (fun _ h => h.elim) B3.out.size))) 25 5 Try.underlying25 Try.underlying5 9 Try.underlying9)
            have HA0 := Lib.hid ha2
            clear ha2
            go_wp2_with fail
            have hcb : ((c0 : Int) == 0) = false := by simpa using hc0
            have ha1J : ¬ (1 : Int) < (a2 : Int) := by have := HA2.out; omega
            refine regionE_begin 15 (fun W => Keep (fun _ => False) w3.drew W) (by kernel_rfl) ?_
            refine stepE_any 0 (some 20) (v := ?vrcqq0) (fun _ => Keep.refl _ _) rfl (by rfl) (by kernel_rfl) (by kernel_rfl) (by kernel_rfl) (by decide) (fun _ _ _ h => h) (by rfl) ?yrcqq0 ?nrcqq0
            case yrcqq0 => intro W; go_simp; try with_reducible rfl
            try simp only [Act.put, List.setIfInBounds_toArray, List.set_cons_zero, List.set_cons_succ]
            refine stepE_read 1 20 (some 21) (v := ?vrcqq1) (Keep.refl _ _) rfl (by rfl) (by kernel_rfl) (by kernel_rfl) (by kernel_rfl) (by kernel_rfl) (by kernel_rfl) (fun _ _ _ h => h) (by rfl) ?yrcqq1 ?nrcqq1
            case yrcqq1 => intro W hW; have q0 := HY0.out W hW; go_simp; try with_reducible rfl
            try simp only [Act.put, List.setIfInBounds_toArray, List.set_cons_zero, List.set_cons_succ]
            refine stepE_any 2 (some 22) (v := ?vrcqq2) (fun _ => Keep.refl _ _) rfl (by rfl) (by kernel_rfl) (by kernel_rfl) (by kernel_rfl) (by decide) (fun _ _ _ h => h) (by rfl) ?yrcqq2 ?nrcqq2
            case yrcqq2 => intro W; go_simp; try with_reducible rfl
            try simp only [Act.put, List.setIfInBounds_toArray, List.set_cons_zero, List.set_cons_succ]
            refine stepE_any 3 (some 23) (v := ?vrcqq3) (fun _ => Keep.refl _ _) rfl (by rfl) (by kernel_rfl) (by kernel_rfl) (by kernel_rfl) (by decide) (fun _ _ _ h => h) (by rfl) ?yrcqq3 ?nrcqq3
            case yrcqq3 => intro W; go_simp; try with_reducible rfl
            try simp only [Act.put, List.setIfInBounds_toArray, List.set_cons_zero, List.set_cons_succ]
            refine stepE_any 4 (some 24) (v := ?vrcqq4) (fun _ => Keep.refl _ _) rfl (by rfl) (by kernel_rfl) (by kernel_rfl) (by kernel_rfl) (by decide) (fun _ _ _ h => h) (by rfl) ?yrcqq4 ?nrcqq4
            case yrcqq4 => intro W; go_simp; try with_reducible rfl
            try simp only [Act.put, List.setIfInBounds_toArray, List.set_cons_zero, List.set_cons_succ]
            refine stepE_read 5 20 (some 25) (v := ?vrcqq5) (Keep.refl _ _) rfl (by rfl) (by kernel_rfl) (by kernel_rfl) (by kernel_rfl) (by kernel_rfl) (by kernel_rfl) (fun _ _ _ h => h) (by rfl) ?yrcqq5 ?nrcqq5
            case yrcqq5 => intro W hW; have q2 := HY2.out W hW; go_simp; try with_reducible rfl
            try simp only [Act.put, List.setIfInBounds_toArray, List.set_cons_zero, List.set_cons_succ]
            refine stepE_any 6 (some 26) (v := ?vrcqq6) (fun _ => Keep.refl _ _) rfl (by rfl) (by kernel_rfl) (by kernel_rfl) (by kernel_rfl) (by decide) (fun _ _ _ h => h) (by rfl) ?yrcqq6 ?nrcqq6
            case yrcqq6 => intro W; go_simp; try with_reducible rfl
            try simp only [Act.put, List.setIfInBounds_toArray, List.set_cons_zero, List.set_cons_succ]
            refine stepE_any 7 (some 27) (v := ?vrcqq7) (fun _ => Keep.refl _ _) rfl (by rfl) (by kernel_rfl) (by kernel_rfl) (by kernel_rfl) (by decide) (fun _ _ _ h => h) (by rfl) ?yrcqq7 ?nrcqq7
            case yrcqq7 => intro W; go_simp; try with_reducible rfl
            try simp only [Act.put, List.setIfInBounds_toArray, List.set_cons_zero, List.set_cons_succ]
            refine stepE_any 8 (some 28) (v := ?vrcqq8) (fun _ => Keep.refl _ _) rfl (by rfl) (by kernel_rfl) (by kernel_rfl) (by kernel_rfl) (by decide) (fun _ _ _ h => h) (by rfl) ?yrcqq8 ?nrcqq8
            case yrcqq8 => intro W; go_simp; try with_reducible rfl
            try simp only [Act.put, List.setIfInBounds_toArray, List.set_cons_zero, List.set_cons_succ]
            refine stepE_read 9 20 (some 29) (v := ?vrcqq9) (Keep.refl _ _) rfl (by rfl) (by kernel_rfl) (by kernel_rfl) (by kernel_rfl) (by kernel_rfl) (by kernel_rfl) (fun _ _ _ h => h) (by rfl) ?yrcqq9 ?nrcqq9
            case yrcqq9 => intro W hW; have q0 := HY0.out W hW; have q1 := HY1.out W hW; have q2 := HY2.out W hW; go_simp; try with_reducible rfl
            try simp only [Act.put, List.setIfInBounds_toArray, List.set_cons_zero, List.set_cons_succ]
            refine stepE_any 12 (some 32) (v := ?vrcqq12) (fun _ => Keep.refl _ _) rfl (by rfl) (by kernel_rfl) (by kernel_rfl) (by kernel_rfl) (by decide) (fun _ _ _ h => h) (by rfl) ?yrcqq12 ?nrcqq12
            case yrcqq12 => intro W; go_simp; try with_reducible rfl
            try simp only [Act.put, List.setIfInBounds_toArray, List.set_cons_zero, List.set_cons_succ]
            refine stepE_read 13 20 (some 33) (v := ?vrcqq13) (Keep.refl _ _) rfl (by rfl) (by kernel_rfl) (by kernel_rfl) (by kernel_rfl) (by kernel_rfl) (by kernel_rfl) (fun _ _ _ h => h) (by rfl) ?yrcqq13 ?nrcqq13
            case yrcqq13 => intro W hW; ((refine exec_convH 25 9 (.tmp 32) ?_ _ (.string (strOfNums bs)) ?_ (HCV.out W hW)); rfl; rfl)
            try simp only [Act.put, List.setIfInBounds_toArray, List.set_cons_zero, List.set_cons_succ]
            -- 10: call:11 -> 30
            refine stepE_only 10 rfl (by kernel_rfl) (by rfl) (fun K' hK => ?_)
            go_simp
            refine (pput_any _ c0 g0 a2 (a2 : Int) (.inl rfl) (by omega)).mono ?_
            rintro e w4 ⟨u4, rfl, ho4, hb4⟩
            have hn4 : IsNums .u8 w4 u4 (slotB c0 g0 a2) := IsNums.ofOwn ho4
            obtain ⟨p4, q4, rfl, -⟩ := id hn4
            have N4 := Lib.hid hn4
            have B4 := Lib.hid hb4
            refine hK _ _ (Keep.ofBelow hb4) ?_
            clear ho4 hb4 hn4
            clear hK K'
            try simp only [Act.put, List.setIfInBounds_toArray, List.set_cons_zero, List.set_cons_succ]
            -- 11: convert -> 31
            refine stepE_only 11 rfl (by kernel_rfl) (by rfl) (fun K' hK => ?_)
            have hcv := conv_str (P := Try.prog) N4.out 25 5 Try.underlying25 Try.underlying5 9 Try.underlying9
            go_simp
            refine hK _ _ (Keep.ofBelow B4.out) ?_
            clear hcv
            clear hK K'
            try simp only [Act.put, List.setIfInBounds_toArray, List.set_cons_zero, List.set_cons_succ]
            refine stepE_any 14 (some 34) (v := ?vrcqq14) (fun _ => Keep.ofBelow B4.out) rfl (by rfl) (by kernel_rfl) (by kernel_rfl) (by kernel_rfl) (by decide) (fun _ _ _ h => h) (by rfl) ?yrcqq14 ?nrcqq14
            case yrcqq14 => intro W; go_simp; try with_reducible rfl
            try simp only [Act.put, List.setIfInBounds_toArray, List.set_cons_zero, List.set_cons_succ]
            -- 15: pick -> 35
            refine stepE_end 15 rfl (by kernel_rfl) (by rfl) (by rfl) (fun K' hK => ?_)
            go_simp
            refine hK _ _ ?_
            clear hK K'
            refine wpAnyE_done (by kernel_rfl) ?_ _
            have hbb := str_beq (slotB_sec c0 g0 a2).2 HBB.out
            obtain ⟨bq, hbq⟩ : ∃ bq, ((strOfNums (slotB c0 g0 a2)).toList == (strOfNums bs).toList) = bq := ⟨_, rfl⟩
            rw [hbq] at hbb ⊢
            have X4 := Lib.hid (X3.out.below B4.out X3.out.lt)
            have Y4 := Lib.hid (Y3.out.below B4.out Y3.out.lt)
            have B5 := Lib.hid (B3.out.trans (B4.out.mono B3.out.size))
            clear HY0 HY1 HY2 X3 Y3 B3 B4 N4 hbq
            by_cases he : slotB c0 g0 a2 = bs
            · have hRe : R = some (c0, g0, a2) := by rw [HRS.out, ← HA0.out, if_pos]; exact ⟨hl, hc0, by have := HA0.out; omega, he⟩
              have HRE := Lib.hid hRe
              obtain rfl : bq = true := hbb.trans (decide_eq_true he)
              clear hRe he hbb
              have y0 := Y4.out.cell 0
              have y1 := Y4.out.cell 1
              have y2 := Y4.out.cell 2
              have z0 := X4.out.cell 0
              have z1 := X4.out.cell 1
              have z2 := X4.out.cell 2
              have f0 := X4.out.free 0
              have f1 := X4.out.free 1
              have f2 := X4.out.free 2
              have e0 : (w4.setCell ⟨w.heap.size, 0, none⟩ (.int .u64 c0)).cell? ⟨w.heap.size, 0, none⟩ = some (.int .u64 c0) := by rw [(X4.out.setCell 0 _).cell]; rfl
              have e1 : ((w4.setCell ⟨w.heap.size, 0, none⟩ (.int .u64 c0)).setCell ⟨w.heap.size, 1, none⟩ (.int .u64 g0)).cell? ⟨w.heap.size, 1, none⟩ = some (.int .u64 g0) := by rw [((X4.out.setCell 0 _).setCell 1 _).cell]; rfl
              have e2 : (((w4.setCell ⟨w.heap.size, 0, none⟩ (.int .u64 c0)).setCell ⟨w.heap.size, 1, none⟩ (.int .u64 g0)).setCell ⟨w.heap.size, 2, none⟩ (.int .i64 a2)).cell? ⟨w.heap.size, 2, none⟩ = some (.int .i64 a2) := by rw [(((X4.out.setCell 0 _).setCell 1 _).setCell 2 _).cell]; rfl
              go_wp2
              try simp only [Exit.inBlock, Exit.then]
              refine bodyPost_ret (v := .tuple #[.agg #[.int .u64 c0, .int .u64 g0, .int .i64 a2], .bool true]) (by simp [results, Try.results14, go_sem, e0, e1, e2]; try rfl) rfl ?_
              exact ⟨by rw [HRE.out]; rfl, ((B5.out.setCell (Nat.le_refl _) _).setCell (Nat.le_refl _) _).setCell (Nat.le_refl _) _⟩
            · have hRe : R = none := by rw [HRS.out, ← HA0.out, if_neg]; exact fun h => he h.2.2.2
              have HRE := Lib.hid hRe
              obtain rfl : bq = false := hbb.trans (decide_eq_false he)
              clear hRe he hbb
              have z0 := X4.out.cell 0
              have z1 := X4.out.cell 1
              have z2 := X4.out.cell 2
              have f0 := X4.out.free 0
              have f1 := X4.out.free 1
              have f2 := X4.out.free 2
              have e0 : (w4.setCell ⟨w.heap.size, 0, none⟩ (.int .u64 0)).cell? ⟨w.heap.size, 0, none⟩ = some (.int .u64 0) := by rw [(X4.out.setCell 0 _).cell]; rfl
              have e1 : ((w4.setCell ⟨w.heap.size, 0, none⟩ (.int .u64 0)).setCell ⟨w.heap.size, 1, none⟩ (.int .u64 0)).cell? ⟨w.heap.size, 1, none⟩ = some (.int .u64 0) := by rw [((X4.out.setCell 0 _).setCell 1 _).cell]; rfl
              have e2 : (((w4.setCell ⟨w.heap.size, 0, none⟩ (.int .u64 0)).setCell ⟨w.heap.size, 1, none⟩ (.int .u64 0)).setCell ⟨w.heap.size, 2, none⟩ (.int .i64 0)).cell? ⟨w.heap.size, 2, none⟩ = some (.int .i64 0) := by rw [(((X4.out.setCell 0 _).setCell 1 _).setCell 2 _).cell]; rfl
              go_wp2
              try simp only [Exit.inBlock, Exit.then]
              refine bodyPost_ret (v := .tuple #[.agg #[.int .u64 0, .int .u64 0, .int .i64 0], .bool false]) (by simp [results, Try.results14, go_sem, e0, e1, e2]; try rfl) rfl ?_
              exact ⟨by rw [HRE.out]; rfl, ((B5.out.setCell (Nat.le_refl _) _).setCell (Nat.le_refl _) _).setCell (Nat.le_refl _) _⟩
    · go_simp
      refine hK _ _ ?_
      clear hK K'
      try simp only [Act.put, List.setIfInBounds_toArray, List.set_cons_zero, List.set_cons_succ]
      refine stepE_only 4 rfl (by kernel_rfl) (by rfl) (fun K' hK => ?_)
      go_simp
      refine (number_any _ _ (bs.drop 8) N8a.out (by rw [HL8.out]; omega) HB8.out).mono ?_
      rintro e w9 ⟨rfl, rfl⟩
      rw [E8.out]
      refine hK _ _ trivial ?_
      clear hK K'
      try simp only [Act.put, List.setIfInBounds_toArray, List.set_cons_zero, List.set_cons_succ]
      refine stepE_only 7 rfl (by kernel_rfl) (by rfl) (fun K' hK => ?_)
      go_simp
      refine (number_any _ _ (bs.drop 16) N16a.out (by rw [HL16.out]; omega) HB16.out).mono ?_
      rintro e w9 ⟨rfl, rfl⟩
      rw [E16.out]
      refine hK _ _ trivial ?_
      clear hK K'
      try simp only [Act.put, List.setIfInBounds_toArray, List.set_cons_zero, List.set_cons_succ]
      refine stepE_any 8 (some 17) (v := .int .u64 mn) (fun _ => trivial) rfl (by rfl) (by kernel_rfl) (by kernel_rfl) (by kernel_rfl) (by decide) (fun _ _ _ h => h) (by rfl) ?ypxy8 ?npxy8
      case ypxy8 => intro W; go_simp; rw [HMN.out]; try with_reducible rfl
      try simp only [Act.put, List.setIfInBounds_toArray, List.set_cons_zero, List.set_cons_succ]
      refine stepE_any 9 (some 18) (v := .int .i64 a2) (fun _ => trivial) rfl (by rfl) (by kernel_rfl) (by kernel_rfl) (by kernel_rfl) (by decide) (fun _ _ _ h => h) (by rfl) ?ypxy9 ?npxy9
      case ypxy9 => intro W; go_simp; rw [HM2.out]; try with_reducible rfl
      try simp only [Act.put, List.setIfInBounds_toArray, List.set_cons_zero, List.set_cons_succ]
      refine stepE_any 10 (some 19) (v := ?vpxy10) (fun _ => trivial) rfl (by rfl) (by kernel_rfl) (by kernel_rfl) (by kernel_rfl) (by decide) (fun _ _ _ h => h) (by rfl) ?ypxy10 ?npxy10
      case ypxy10 => intro W; go_simp; try with_reducible rfl
      try simp only [Act.put, List.setIfInBounds_toArray, List.set_cons_zero, List.set_cons_succ]
      refine stepE_end 12 rfl (by kernel_rfl) (by rfl) (by rfl) (fun K' hK => ?_)
      refine wp_store_blk SB.out 31 (.tmp 4) (.tmp 19) rfl 0 [.int .u64 c0, .int .u64 g0, .int .i64 a2] (by rfl) (by rfl) (by simp) HI.out (by intro v hv; simp at hv; rcases hv with rfl | rfl | rfl <;> rfl) (fun w3 hb3 hk3 => hK _ _ ?_)
      clear hK K'
      try simp only [Act.put, List.setIfInBounds_toArray, List.set_cons_zero, List.set_cons_succ]
      refine wpAnyE_done (by kernel_rfl) ?_ _
      have hk3' := hk3 (fun k => k = w.heap.size + 1) rfl
      have hx3 := SX.out.keep hk3' (by omega)
      have hb3' := SBL.out.trans (hk3'.below (N := w.heap.size) (fun j e => by omega) SBL.out.size)
      rw [show ([.int .u64 0, .int .u64 0, .int .i64 0] : List Value).take 0 ++ [.int .u64 c0, .int .u64 g0, .int .i64 a2] ++ ([.int .u64 0, .int .u64 0, .int .i64 0] : List Value).drop (0 + ([.int .u64 c0, .int .u64 g0, .int .i64 a2] : List Value).length) = [.int .u64 c0, .int .u64 g0, .int .i64 a2] from rfl] at hb3
      have hyy : ∀ W, Keep (fun _ => False) w3.drew W → Blk W (w.heap.size + 1) 31 [.int .u64 c0, .int .u64 g0, .int .i64 a2] := fun W hW => (hb3.keep (Keep.drew (fun _ => False) _) (fun h => h)).keep hW (fun h => h)
      have HY0 := Lib.hid (fun W hW => (hyy W hW).cell 0)
      have HY1 := Lib.hid (fun W hW => (hyy W hW).cell 1)
      have HY2 := Lib.hid (fun W hW => (hyy W hW).cell 2)
      have X3 := Lib.hid (hx3.keep (Keep.drew (fun _ => False) _) (fun h => h))
      have Y3 := Lib.hid (hb3.keep (Keep.drew (fun _ => False) _) (fun h => h))
      have B3 := Lib.hid hb3'.drew
      clear hk3 hk3' hx3 hb3 hb3' hyy
      by_cases hc0 : c0 = 0
      · have hRe : R = none := by rw [HRS.out, if_neg]; exact fun h => h.2.1 hc0
        have HRE := Lib.hid hRe
        clear hRe
        subst hc0
        rw [show ((0 : Nat) : Int) = 0 from rfl] at HY0 ⊢
        go_wp2_with fail
        refine regionE_begin 15 (fun W => Keep (fun _ => False) w3.drew W) (by kernel_rfl) ?_
        refine stepE_any 0 (some 20) (v := ?vraqqq0) (fun _ => Keep.refl _ _) rfl (by rfl) (by kernel_rfl) (by kernel_rfl) (by kernel_rfl) (by decide) (fun _ _ _ h => h) (by rfl) ?yraqqq0 ?nraqqq0
        case yraqqq0 => intro W; go_simp; try with_reducible rfl
        try simp only [Act.put, List.setIfInBounds_toArray, List.set_cons_zero, List.set_cons_succ]
        refine stepE_read 1 20 (some 21) (v := ?vraqqq1) (Keep.refl _ _) rfl (by rfl) (by kernel_rfl) (by kernel_rfl) (by kernel_rfl) (by kernel_rfl) (by kernel_rfl) (fun _ _ _ h => h) (by rfl) ?yraqqq1 ?nraqqq1
        case yraqqq1 => intro W hW; have q0 := HY0.out W hW; go_simp; try with_reducible rfl
        try simp only [Act.put, List.setIfInBounds_toArray, List.set_cons_zero, List.set_cons_succ]
        refine stepE_any 2 (some 22) (v := ?vraqqq2) (fun _ => Keep.refl _ _) rfl (by rfl) (by kernel_rfl) (by kernel_rfl) (by kernel_rfl) (by decide) (fun _ _ _ h => h) (by rfl) ?yraqqq2 ?nraqqq2
        case yraqqq2 => intro W; go_simp; try with_reducible rfl
        try simp only [Act.put, List.setIfInBounds_toArray, List.set_cons_zero, List.set_cons_succ]
        refine stepE_any 3 (some 23) (v := ?vraqqq3) (fun _ => Keep.refl _ _) rfl (by rfl) (by kernel_rfl) (by kernel_rfl) (by kernel_rfl) (by decide) (fun _ _ _ h => h) (by rfl) ?yraqqq3 ?nraqqq3
        case yraqqq3 => intro W; go_simp; try with_reducible rfl
        try simp only [Act.put, List.setIfInBounds_toArray, List.set_cons_zero, List.set_cons_succ]
        refine stepE_skip 4 (some 24) (fun _ => Keep.refl _ _) rfl (by rfl) (by kernel_rfl) (by kernel_rfl) (by kernel_rfl) (by decide) (fun _ _ _ h => h) (by rfl) ?_
        try simp only [Act.put, List.setIfInBounds_toArray, List.set_cons_zero, List.set_cons_succ]
        refine stepE_skip 5 (some 25) (fun _ => Keep.refl _ _) rfl (by rfl) (by kernel_rfl) (by kernel_rfl) (by kernel_rfl) (by decide) (fun _ _ _ h => h) (by rfl) ?_
        try simp only [Act.put, List.setIfInBounds_toArray, List.set_cons_zero, List.set_cons_succ]
        refine stepE_skip 6 (some 26) (fun _ => Keep.refl _ _) rfl (by rfl) (by kernel_rfl) (by kernel_rfl) (by kernel_rfl) (by decide) (fun _ _ _ h => h) (by rfl) ?_
        try simp only [Act.put, List.setIfInBounds_toArray, List.set_cons_zero, List.set_cons_succ]
        refine stepE_any 7 (some 27) (v := ?vraqqq7) (fun _ => Keep.refl _ _) rfl (by rfl) (by kernel_rfl) (by kernel_rfl) (by kernel_rfl) (by decide) (fun _ _ _ h => h) (by rfl) ?yraqqq7 ?nraqqq7
        case yraqqq7 => intro W; go_simp; try with_reducible rfl
        try simp only [Act.put, List.setIfInBounds_toArray, List.set_cons_zero, List.set_cons_succ]
        refine stepE_any 8 (some 28) (v := ?vraqqq8) (fun _ => Keep.refl _ _) rfl (by rfl) (by kernel_rfl) (by kernel_rfl) (by kernel_rfl) (by decide) (fun _ _ _ h => h) (by rfl) ?yraqqq8 ?nraqqq8
        case yraqqq8 => intro W; go_simp; try with_reducible rfl
        try simp only [Act.put, List.setIfInBounds_toArray, List.set_cons_zero, List.set_cons_succ]
        refine stepE_skip 9 (some 29) (fun _ => Keep.refl _ _) rfl (by rfl) (by kernel_rfl) (by kernel_rfl) (by kernel_rfl) (by decide) (fun _ _ _ h => h) (by rfl) ?_
        try simp only [Act.put, List.setIfInBounds_toArray, List.set_cons_zero, List.set_cons_succ]
        refine stepE_skip 10 (some 30) (fun _ => Keep.refl _ _) rfl (by rfl) (by kernel_rfl) (by kernel_rfl) (by kernel_rfl) (by decide) (fun _ _ _ h => h) (by rfl) ?_
        try simp only [Act.put, List.setIfInBounds_toArray, List.set_cons_zero, List.set_cons_succ]
        refine stepE_skip 11 (some 31) (fun _ => Keep.refl _ _) rfl (by rfl) (by kernel_rfl) (by kernel_rfl) (by kernel_rfl) (by decide) (fun _ _ _ h => h) (by rfl) ?_
        try simp only [Act.put, List.setIfInBounds_toArray, List.set_cons_zero, List.set_cons_succ]
        refine stepE_skip 12 (some 32) (fun _ => Keep.refl _ _) rfl (by rfl) (by kernel_rfl) (by kernel_rfl) (by kernel_rfl) (by decide) (fun _ _ _ h => h) (by rfl) ?_
        try simp only [Act.put, List.setIfInBounds_toArray, List.set_cons_zero, List.set_cons_succ]
        refine stepE_skip 13 (some 33) (fun _ => Keep.refl _ _) rfl (by rfl) (by kernel_rfl) (by kernel_rfl) (by kernel_rfl) (by decide) (fun _ _ _ h => h) (by rfl) ?_
        try simp only [Act.put, List.setIfInBounds_toArray, List.set_cons_zero, List.set_cons_succ]
        refine stepE_skip 14 (some 34) (fun _ => Keep.refl _ _) rfl (by rfl) (by kernel_rfl) (by kernel_rfl) (by kernel_rfl) (by decide) (fun _ _ _ h => h) (by rfl) ?_
        try simp only [Act.put, List.setIfInBounds_toArray, List.set_cons_zero, List.set_cons_succ]
        -- 15: pick -> 35
        refine stepE_end 15 rfl (by kernel_rfl) (by rfl) (by rfl) (fun K' hK => ?_)
        go_simp
        refine hK _ _ ?_
        clear hK K'
        refine wpAnyE_done (by kernel_rfl) ?_ _
        clear HY0 HY1 HY2
        obtain ⟨wd, hwd⟩ : ∃ x, w3.drew = x := ⟨_, rfl⟩
        rw [hwd] at X3 B3 ⊢
        have z0 := X3.out.cell 0
        have z1 := X3.out.cell 1
        have z2 := X3.out.cell 2
        have f0 := X3.out.free 0
        have f1 := X3.out.free 1
        have f2 := X3.out.free 2
        have e0 : (wd.setCell ⟨w.heap.size, 0, none⟩ (.int .u64 0)).cell? ⟨w.heap.size, 0, none⟩ = some (.int .u64 0) := by rw [(X3.out.setCell 0 _).cell]; rfl
        have e1 : ((wd.setCell ⟨w.heap.size, 0, none⟩ (.int .u64 0)).setCell ⟨w.heap.size, 1, none⟩ (.int .u64 0)).cell? ⟨w.heap.size, 1, none⟩ = some (.int .u64 0) := by rw [((X3.out.setCell 0 _).setCell 1 _).cell]; rfl
        have e2 : (((wd.setCell ⟨w.heap.size, 0, none⟩ (.int .u64 0)).setCell ⟨w.heap.size, 1, none⟩ (.int .u64 0)).setCell ⟨w.heap.size, 2, none⟩ (.int .i64 0)).cell? ⟨w.heap.size, 2, none⟩ = some (.int .i64 0) := by rw [(((X3.out.setCell 0 _).setCell 1 _).setCell 2 _).cell]; rfl
        go_wp2
        try simp only [Exit.inBlock, Exit.then]
        refine bodyPost_ret (v := .tuple #[.agg #[.int .u64 0, .int .u64 0, .int .i64 0], .bool false]) (by simp [results, Try.results14, go_sem, e0, e1, e2]; try rfl) rfl ?_
        exact ⟨by rw [HRE.out]; rfl, ((B3.out.setCell (Nat.le_refl _) _).setCell (Nat.le_refl _) _).setCell (Nat.le_refl _) _⟩
      · have hc0I : ¬ (c0 : Int) = 0 := by omega
        by_cases ha1 : 1 < a0
        · have hRe : R = none := by rw [HRS.out, if_neg]; exact fun h => by have := h.2.2.1; omega
          have HRE := Lib.hid hRe
          clear hRe
          have ha1I : (1 : Int) < a2 := by have := HA2.out; omega
          go_wp2_with fail
          have hcb : ((c0 : Int) == 0) = false := by simpa using hc0
          refine regionE_begin 15 (fun W => Keep (fun _ => False) w3.drew W) (by kernel_rfl) ?_
          refine stepE_any 0 (some 20) (v := ?vrbqqq0) (fun _ => Keep.refl _ _) rfl (by rfl) (by kernel_rfl) (by kernel_rfl) (by kernel_rfl) (by decide) (fun _ _ _ h => h) (by rfl) ?yrbqqq0 ?nrbqqq0
          case yrbqqq0 => intro W; go_simp; try with_reducible rfl
          try simp only [Act.put, List.setIfInBounds_toArray, List.set_cons_zero, List.set_cons_succ]
          refine stepE_read 1 20 (some 21) (v := ?vrbqqq1) (Keep.refl _ _) rfl (by rfl) (by kernel_rfl) (by kernel_rfl) (by kernel_rfl) (by kernel_rfl) (by kernel_rfl) (fun _ _ _ h => h) (by rfl) ?yrbqqq1 ?nrbqqq1
          case yrbqqq1 => intro W hW; have q0 := HY0.out W hW; go_simp; try with_reducible rfl
          try simp only [Act.put, List.setIfInBounds_toArray, List.set_cons_zero, List.set_cons_succ]
          refine stepE_any 2 (some 22) (v := ?vrbqqq2) (fun _ => Keep.refl _ _) rfl (by rfl) (by kernel_rfl) (by kernel_rfl) (by kernel_rfl) (by decide) (fun _ _ _ h => h) (by rfl) ?yrbqqq2 ?nrbqqq2
          case yrbqqq2 => intro W; go_simp; try with_reducible rfl
          try simp only [Act.put, List.setIfInBounds_toArray, List.set_cons_zero, List.set_cons_succ]
          refine stepE_any 3 (some 23) (v := ?vrbqqq3) (fun _ => Keep.refl _ _) rfl (by rfl) (by kernel_rfl) (by kernel_rfl) (by kernel_rfl) (by decide) (fun _ _ _ h => h) (by rfl) ?yrbqqq3 ?nrbqqq3
          case yrbqqq3 => intro W; go_simp; try with_reducible rfl
          try simp only [Act.put, List.setIfInBounds_toArray, List.set_cons_zero, List.set_cons_succ]
          refine stepE_any 4 (some 24) (v := ?vrbqqq4) (fun _ => Keep.refl _ _) rfl (by rfl) (by kernel_rfl) (by kernel_rfl) (by kernel_rfl) (by decide) (fun _ _ _ h => h) (by rfl) ?yrbqqq4 ?nrbqqq4
          case yrbqqq4 => intro W; go_simp; try with_reducible rfl
          try simp only [Act.put, List.setIfInBounds_toArray, List.set_cons_zero, List.set_cons_succ]
          refine stepE_read 5 20 (some 25) (v := ?vrbqqq5) (Keep.refl _ _) rfl (by rfl) (by kernel_rfl) (by kernel_rfl) (by kernel_rfl) (by kernel_rfl) (by kernel_rfl) (fun _ _ _ h => h) (by rfl) ?yrbqqq5 ?nrbqqq5
          case yrbqqq5 => intro W hW; have q2 := HY2.out W hW; go_simp; try with_reducible rfl
          try simp only [Act.put, List.setIfInBounds_toArray, List.set_cons_zero, List.set_cons_succ]
          refine stepE_any 6 (some 26) (v := ?vrbqqq6) (fun _ => Keep.refl _ _) rfl (by rfl) (by kernel_rfl) (by kernel_rfl) (by kernel_rfl) (by decide) (fun _ _ _ h => h) (by rfl) ?yrbqqq6 ?nrbqqq6
          case yrbqqq6 => intro W; go_simp; try with_reducible rfl
          try simp only [Act.put, List.setIfInBounds_toArray, List.set_cons_zero, List.set_cons_succ]
          refine stepE_any 7 (some 27) (v := ?vrbqqq7) (fun _ => Keep.refl _ _) rfl (by rfl) (by kernel_rfl) (by kernel_rfl) (by kernel_rfl) (by decide) (fun _ _ _ h => h) (by rfl) ?yrbqqq7 ?nrbqqq7
          case yrbqqq7 => intro W; go_simp; try with_reducible rfl
          try simp only [Act.put, List.setIfInBounds_toArray, List.set_cons_zero, List.set_cons_succ]
          refine stepE_any 8 (some 28) (v := ?vrbqqq8) (fun _ => Keep.refl _ _) rfl (by rfl) (by kernel_rfl) (by kernel_rfl) (by kernel_rfl) (by decide) (fun _ _ _ h => h) (by rfl) ?yrbqqq8 ?nrbqqq8
          case yrbqqq8 => intro W; go_simp; try with_reducible rfl
          try simp only [Act.put, List.setIfInBounds_toArray, List.set_cons_zero, List.set_cons_succ]
          refine stepE_skip 9 (some 29) (fun _ => Keep.refl _ _) rfl (by rfl) (by kernel_rfl) (by kernel_rfl) (by kernel_rfl) (by decide) (fun _ _ _ h => h) (by rfl) ?_
          try simp only [Act.put, List.setIfInBounds_toArray, List.set_cons_zero, List.set_cons_succ]
          refine stepE_skip 10 (some 30) (fun _ => Keep.refl _ _) rfl (by rfl) (by kernel_rfl) (by kernel_rfl) (by kernel_rfl) (by decide) (fun _ _ _ h => h) (by rfl) ?_
          try simp only [Act.put, List.setIfInBounds_toArray, List.set_cons_zero, List.set_cons_succ]
          refine stepE_skip 11 (some 31) (fun _ => Keep.refl _ _) rfl (by rfl) (by kernel_rfl) (by kernel_rfl) (by kernel_rfl) (by decide) (fun _ _ _ h => h) (by rfl) ?_
          try simp only [Act.put, List.setIfInBounds_toArray, List.set_cons_zero, List.set_cons_succ]
          refine stepE_skip 12 (some 32) (fun _ => Keep.refl _ _) rfl (by rfl) (by kernel_rfl) (by kernel_rfl) (by kernel_rfl) (by decide) (fun _ _ _ h => h) (by rfl) ?_
          try simp only [Act.put, List.setIfInBounds_toArray, List.set_cons_zero, List.set_cons_succ]
          refine stepE_skip 13 (some 33) (fun _ => Keep.refl _ _) rfl (by rfl) (by kernel_rfl) (by kernel_rfl) (by kernel_rfl) (by decide) (fun _ _ _ h => h) (by rfl) ?_
          try simp only [Act.put, List.setIfInBounds_toArray, List.set_cons_zero, List.set_cons_succ]
          refine stepE_skip 14 (some 34) (fun _ => Keep.refl _ _) rfl (by rfl) (by kernel_rfl) (by kernel_rfl) (by kernel_rfl) (by decide) (fun _ _ _ h => h) (by rfl) ?_
          try simp only [Act.put, List.setIfInBounds_toArray, List.set_cons_zero, List.set_cons_succ]
          -- 15: pick -> 35
          refine stepE_end 15 rfl (by kernel_rfl) (by rfl) (by rfl) (fun K' hK => ?_)
          go_simp
          refine hK _ _ ?_
          clear hK K'
          refine wpAnyE_done (by kernel_rfl) ?_ _
          clear HY0 HY1 HY2
          obtain ⟨wd, hwd⟩ : ∃ x, w3.drew = x := ⟨_, rfl⟩
          rw [hwd] at X3 B3 ⊢
          have z0 := X3.out.cell 0
          have z1 := X3.out.cell 1
          have z2 := X3.out.cell 2
          have f0 := X3.out.free 0
          have f1 := X3.out.free 1
          have f2 := X3.out.free 2
          have e0 : (wd.setCell ⟨w.heap.size, 0, none⟩ (.int .u64 0)).cell? ⟨w.heap.size, 0, none⟩ = some (.int .u64 0) := by rw [(X3.out.setCell 0 _).cell]; rfl
          have e1 : ((wd.setCell ⟨w.heap.size, 0, none⟩ (.int .u64 0)).setCell ⟨w.heap.size, 1, none⟩ (.int .u64 0)).cell? ⟨w.heap.size, 1, none⟩ = some (.int .u64 0) := by rw [((X3.out.setCell 0 _).setCell 1 _).cell]; rfl
          have e2 : (((wd.setCell ⟨w.heap.size, 0, none⟩ (.int .u64 0)).setCell ⟨w.heap.size, 1, none⟩ (.int .u64 0)).setCell ⟨w.heap.size, 2, none⟩ (.int .i64 0)).cell? ⟨w.heap.size, 2, none⟩ = some (.int .i64 0) := by rw [(((X3.out.setCell 0 _).setCell 1 _).setCell 2 _).cell]; rfl
          go_wp2
          try simp only [Exit.inBlock, Exit.then]
          refine bodyPost_ret (v := .tuple #[.agg #[.int .u64 0, .int .u64 0, .int .i64 0], .bool false]) (by simp [results, Try.results14, go_sem, e0, e1, e2]; try rfl) rfl ?_
          exact ⟨by rw [HRE.out]; rfl, ((B3.out.setCell (Nat.le_refl _) _).setCell (Nat.le_refl _) _).setCell (Nat.le_refl _) _⟩
        · have ha1I : ¬ (1 : Int) < a2 := by have := HA2.out; omega
          have ha2 : a2 = a0 := by have := HA2.out; omega
          have HCV := Lib.hid (fun W (hW : Keep (fun _ => False) w3.drew W) => conv_str (P := Try.prog) (HV.out W (B3.out.trans (hW.below (N := w.heap.size) (fun _ h => h.elim) B3.out.size))) 25 5 Try.underlying25 Try.underlying5 9 Try.underlying9)
          have HA0 := Lib.hid ha2
          clear ha2
          go_wp2_with fail
          have hcb : ((c0 : Int) == 0) = false := by simpa using hc0
          have ha1J : ¬ (1 : Int) < (a2 : Int) := by have := HA2.out; omega
          refine regionE_begin 15 (fun W => Keep (fun _ => False) w3.drew W) (by kernel_rfl) ?_
          refine stepE_any 0 (some 20) (v := ?vrcqqq0) (fun _ => Keep.refl _ _) rfl (by rfl) (by kernel_rfl) (by kernel_rfl) (by kernel_rfl) (by decide) (fun _ _ _ h => h) (by rfl) ?yrcqqq0 ?nrcqqq0
          case yrcqqq0 => intro W; go_simp; try with_reducible rfl
          try simp only [Act.put, List.setIfInBounds_toArray, List.set_cons_zero, List.set_cons_succ]
          refine stepE_read 1 20 (some 21) (v := ?vrcqqq1) (Keep.refl _ _) rfl (by rfl) (by kernel_rfl) (by kernel_rfl) (by kernel_rfl) (by kernel_rfl) (by kernel_rfl) (fun _ _ _ h => h) (by rfl) ?yrcqqq1 ?nrcqqq1
          case yrcqqq1 => intro W hW; have q0 := HY0.out W hW; go_simp; try with_reducible rfl
          try simp only [Act.put, List.setIfInBounds_toArray, List.set_cons_zero, List.set_cons_succ]
          refine stepE_any 2 (some 22) (v := ?vrcqqq2) (fun _ => Keep.refl _ _) rfl (by rfl) (by kernel_rfl) (by kernel_rfl) (by kernel_rfl) (by decide) (fun _ _ _ h => h) (by rfl) ?yrcqqq2 ?nrcqqq2
          case yrcqqq2 => intro W; go_simp; try with_reducible rfl
          try simp only [Act.put, List.setIfInBounds_toArray, List.set_cons_zero, List.set_cons_succ]
          refine stepE_any 3 (some 23) (v := ?vrcqqq3) (fun _ => Keep.refl _ _) rfl (by rfl) (by kernel_rfl) (by kernel_rfl) (by kernel_rfl) (by decide) (fun _ _ _ h => h) (by rfl) ?yrcqqq3 ?nrcqqq3
          case yrcqqq3 => intro W; go_simp; try with_reducible rfl
          try simp only [Act.put, List.setIfInBounds_toArray, List.set_cons_zero, List.set_cons_succ]
          refine stepE_any 4 (some 24) (v := ?vrcqqq4) (fun _ => Keep.refl _ _) rfl (by rfl) (by kernel_rfl) (by kernel_rfl) (by kernel_rfl) (by decide) (fun _ _ _ h => h) (by rfl) ?yrcqqq4 ?nrcqqq4
          case yrcqqq4 => intro W; go_simp; try with_reducible rfl
          try simp only [Act.put, List.setIfInBounds_toArray, List.set_cons_zero, List.set_cons_succ]
          refine stepE_read 5 20 (some 25) (v := ?vrcqqq5) (Keep.refl _ _) rfl (by rfl) (by kernel_rfl) (by kernel_rfl) (by kernel_rfl) (by kernel_rfl) (by kernel_rfl) (fun _ _ _ h => h) (by rfl) ?yrcqqq5 ?nrcqqq5
          case yrcqqq5 => intro W hW; have q2 := HY2.out W hW; go_simp; try with_reducible rfl
          try simp only [Act.put, List.setIfInBounds_toArray, List.set_cons_zero, List.set_cons_succ]
          refine stepE_any 6 (some 26) (v := ?vrcqqq6) (fun _ => Keep.refl _ _) rfl (by rfl) (by kernel_rfl) (by kernel_rfl) (by kernel_rfl) (by decide) (fun _ _ _ h => h) (by rfl) ?yrcqqq6 ?nrcqqq6
          case yrcqqq6 => intro W; go_simp; try with_reducible rfl
          try simp only [Act.put, List.setIfInBounds_toArray, List.set_cons_zero, List.set_cons_succ]
          refine stepE_any 7 (some 27) (v := ?vrcqqq7) (fun _ => Keep.refl _ _) rfl (by rfl) (by kernel_rfl) (by kernel_rfl) (by kernel_rfl) (by decide) (fun _ _ _ h => h) (by rfl) ?yrcqqq7 ?nrcqqq7
          case yrcqqq7 => intro W; go_simp; try with_reducible rfl
          try simp only [Act.put, List.setIfInBounds_toArray, List.set_cons_zero, List.set_cons_succ]
          refine stepE_any 8 (some 28) (v := ?vrcqqq8) (fun _ => Keep.refl _ _) rfl (by rfl) (by kernel_rfl) (by kernel_rfl) (by kernel_rfl) (by decide) (fun _ _ _ h => h) (by rfl) ?yrcqqq8 ?nrcqqq8
          case yrcqqq8 => intro W; go_simp; try with_reducible rfl
          try simp only [Act.put, List.setIfInBounds_toArray, List.set_cons_zero, List.set_cons_succ]
          refine stepE_read 9 20 (some 29) (v := ?vrcqqq9) (Keep.refl _ _) rfl (by rfl) (by kernel_rfl) (by kernel_rfl) (by kernel_rfl) (by kernel_rfl) (by kernel_rfl) (fun _ _ _ h => h) (by rfl) ?yrcqqq9 ?nrcqqq9
          case yrcqqq9 => intro W hW; have q0 := HY0.out W hW; have q1 := HY1.out W hW; have q2 := HY2.out W hW; go_simp; try with_reducible rfl
          try simp only [Act.put, List.setIfInBounds_toArray, List.set_cons_zero, List.set_cons_succ]
          refine stepE_any 12 (some 32) (v := ?vrcqqq12) (fun _ => Keep.refl _ _) rfl (by rfl) (by kernel_rfl) (by kernel_rfl) (by kernel_rfl) (by decide) (fun _ _ _ h => h) (by rfl) ?yrcqqq12 ?nrcqqq12
          case yrcqqq12 => intro W; go_simp; try with_reducible rfl
          try simp only [Act.put, List.setIfInBounds_toArray, List.set_cons_zero, List.set_cons_succ]
          refine stepE_read 13 20 (some 33) (v := ?vrcqqq13) (Keep.refl _ _) rfl (by rfl) (by kernel_rfl) (by kernel_rfl) (by kernel_rfl) (by kernel_rfl) (by kernel_rfl) (fun _ _ _ h => h) (by rfl) ?yrcqqq13 ?nrcqqq13
          case yrcqqq13 => intro W hW; ((refine exec_convH 25 9 (.tmp 32) ?_ _ (.string (strOfNums bs)) ?_ (HCV.out W hW)); rfl; rfl)
          try simp only [Act.put, List.setIfInBounds_toArray, List.set_cons_zero, List.set_cons_succ]
          -- 10: call:11 -> 30
          refine stepE_only 10 rfl (by kernel_rfl) (by rfl) (fun K' hK => ?_)
          go_simp
          refine (pput_any _ c0 g0 a2 (a2 : Int) (.inl rfl) (by omega)).mono ?_
          rintro e w4 ⟨u4, rfl, ho4, hb4⟩
          have hn4 : IsNums .u8 w4 u4 (slotB c0 g0 a2) := IsNums.ofOwn ho4
          obtain ⟨p4, q4, rfl, -⟩ := id hn4
          have N4 := Lib.hid hn4
          have B4 := Lib.hid hb4
          refine hK _ _ (Keep.ofBelow hb4) ?_
          clear ho4 hb4 hn4
          clear hK K'
          try simp only [Act.put, List.setIfInBounds_toArray, List.set_cons_zero, List.set_cons_succ]
          -- 11: convert -> 31
          refine stepE_only 11 rfl (by kernel_rfl) (by rfl) (fun K' hK => ?_)
          have hcv := conv_str (P := Try.prog) N4.out 25 5 Try.underlying25 Try.underlying5 9 Try.underlying9
          go_simp
          refine hK _ _ (Keep.ofBelow B4.out) ?_
          clear hcv
          clear hK K'
          try simp only [Act.put, List.setIfInBounds_toArray, List.set_cons_zero, List.set_cons_succ]
          refine stepE_any 14 (some 34) (v := ?vrcqqq14) (fun _ => Keep.ofBelow B4.out) rfl (by rfl) (by kernel_rfl) (by kernel_rfl) (by kernel_rfl) (by decide) (fun _ _ _ h => h) (by rfl) ?yrcqqq14 ?nrcqqq14
          case yrcqqq14 => intro W; go_simp; try with_reducible rfl
          try simp only [Act.put, List.setIfInBounds_toArray, List.set_cons_zero, List.set_cons_succ]
          -- 15: pick -> 35
          refine stepE_end 15 rfl (by kernel_rfl) (by rfl) (by rfl) (fun K' hK => ?_)
          go_simp
          refine hK _ _ ?_
          clear hK K'
          refine wpAnyE_done (by kernel_rfl) ?_ _
          have hbb := str_beq (slotB_sec c0 g0 a2).2 HBB.out
          obtain ⟨bq, hbq⟩ : ∃ bq, ((strOfNums (slotB c0 g0 a2)).toList == (strOfNums bs).toList) = bq := ⟨_, rfl⟩
          rw [hbq] at hbb ⊢
          have X4 := Lib.hid (X3.out.below B4.out X3.out.lt)
          have Y4 := Lib.hid (Y3.out.below B4.out Y3.out.lt)
          have B5 := Lib.hid (B3.out.trans (B4.out.mono B3.out.size))
          clear HY0 HY1 HY2 X3 Y3 B3 B4 N4 hbq
          by_cases he : slotB c0 g0 a2 = bs
          · have hRe : R = some (c0, g0, a2) := by rw [HRS.out, ← HA0.out, if_pos]; exact ⟨hl, hc0, by have := HA0.out; omega, he⟩
            have HRE := Lib.hid hRe
            obtain rfl : bq = true := hbb.trans (decide_eq_true he)
            clear hRe he hbb
            have y0 := Y4.out.cell 0
            have y1 := Y4.out.cell 1
            have y2 := Y4.out.cell 2
            have z0 := X4.out.cell 0
            have z1 := X4.out.cell 1
            have z2 := X4.out.cell 2
            have f0 := X4.out.free 0
            have f1 := X4.out.free 1
            have f2 := X4.out.free 2
            have e0 : (w4.setCell ⟨w.heap.size, 0, none⟩ (.int .u64 c0)).cell? ⟨w.heap.size, 0, none⟩ = some (.int .u64 c0) := by rw [(X4.out.setCell 0 _).cell]; rfl
            have e1 : ((w4.setCell ⟨w.heap.size, 0, none⟩ (.int .u64 c0)).setCell ⟨w.heap.size, 1, none⟩ (.int .u64 g0)).cell? ⟨w.heap.size, 1, none⟩ = some (.int .u64 g0) := by rw [((X4.out.setCell 0 _).setCell 1 _).cell]; rfl
            have e2 : (((w4.setCell ⟨w.heap.size, 0, none⟩ (.int .u64 c0)).setCell ⟨w.heap.size, 1, none⟩ (.int .u64 g0)).setCell ⟨w.heap.size, 2, none⟩ (.int .i64 a2)).cell? ⟨w.heap.size, 2, none⟩ = some (.int .i64 a2) := by rw [(((X4.out.setCell 0 _).setCell 1 _).setCell 2 _).cell]; rfl
            go_wp2
            try simp only [Exit.inBlock, Exit.then]
            refine bodyPost_ret (v := .tuple #[.agg #[.int .u64 c0, .int .u64 g0, .int .i64 a2], .bool true]) (by simp [results, Try.results14, go_sem, e0, e1, e2]; try rfl) rfl ?_
            exact ⟨by rw [HRE.out]; rfl, ((B5.out.setCell (Nat.le_refl _) _).setCell (Nat.le_refl _) _).setCell (Nat.le_refl _) _⟩
          · have hRe : R = none := by rw [HRS.out, ← HA0.out, if_neg]; exact fun h => he h.2.2.2
            have HRE := Lib.hid hRe
            obtain rfl : bq = false := hbb.trans (decide_eq_false he)
            clear hRe he hbb
            have z0 := X4.out.cell 0
            have z1 := X4.out.cell 1
            have z2 := X4.out.cell 2
            have f0 := X4.out.free 0
            have f1 := X4.out.free 1
            have f2 := X4.out.free 2
            have e0 : (w4.setCell ⟨w.heap.size, 0, none⟩ (.int .u64 0)).cell? ⟨w.heap.size, 0, none⟩ = some (.int .u64 0) := by rw [(X4.out.setCell 0 _).cell]; rfl
            have e1 : ((w4.setCell ⟨w.heap.size, 0, none⟩ (.int .u64 0)).setCell ⟨w.heap.size, 1, none⟩ (.int .u64 0)).cell? ⟨w.heap.size, 1, none⟩ = some (.int .u64 0) := by rw [((X4.out.setCell 0 _).setCell 1 _).cell]; rfl
            have e2 : (((w4.setCell ⟨w.heap.size, 0, none⟩ (.int .u64 0)).setCell ⟨w.heap.size, 1, none⟩ (.int .u64 0)).setCell ⟨w.heap.size, 2, none⟩ (.int .i64 0)).cell? ⟨w.heap.size, 2, none⟩ = some (.int .i64 0) := by rw [(((X4.out.setCell 0 _).setCell 1 _).setCell 2 _).cell]; rfl
            go_wp2
            try simp only [Exit.inBlock, Exit.then]
            refine bodyPost_ret (v := .tuple #[.agg #[.int .u64 0, .int .u64 0, .int .i64 0], .bool false]) (by simp [results, Try.results14, go_sem, e0, e1, e2]; try rfl) rfl ?_
            exact ⟨by rw [HRE.out]; rfl, ((B5.out.setCell (Nat.le_refl _) _).setCell (Nat.le_refl _) _).setCell (Nat.le_refl _) _⟩
  · go_simp
    refine hK _ _ ?_
    clear hK K'
    try simp only [Act.put, List.setIfInBounds_toArray, List.set_cons_zero, List.set_cons_succ]
    refine stepE_only 1 rfl (by kernel_rfl) (by rfl) (fun K' hK => ?_)
    go_simp
    refine (number_any _ _ bs N0a.out (by rw [HL0.out]; omega) HB0.out).mono ?_
    rintro e w9 ⟨rfl, rfl⟩
    rw [E0.out]
    refine hK _ _ trivial ?_
    clear hK K'
    try simp only [Act.put, List.setIfInBounds_toArray, List.set_cons_zero, List.set_cons_succ]
    refine stepE_only 4 rfl (by kernel_rfl) (by rfl) (fun K' hK => ?_)
    go_simp
    refine (number_any _ _ (bs.drop 8) N8a.out (by rw [HL8.out]; omega) HB8.out).mono ?_
    rintro e w9 ⟨rfl, rfl⟩
    rw [E8.out]
    refine hK _ _ trivial ?_
    clear hK K'
    try simp only [Act.put, List.setIfInBounds_toArray, List.set_cons_zero, List.set_cons_succ]
    refine stepE_only 7 rfl (by kernel_rfl) (by rfl) (fun K' hK => ?_)
    go_simp
    refine (number_any _ _ (bs.drop 16) N16a.out (by rw [HL16.out]; omega) HB16.out).mono ?_
    rintro e w9 ⟨rfl, rfl⟩
    rw [E16.out]
    refine hK _ _ trivial ?_
    clear hK K'
    try simp only [Act.put, List.setIfInBounds_toArray, List.set_cons_zero, List.set_cons_succ]
    refine stepE_any 8 (some 17) (v := .int .u64 mn) (fun _ => trivial) rfl (by rfl) (by kernel_rfl) (by kernel_rfl) (by kernel_rfl) (by decide) (fun _ _ _ h => h) (by rfl) ?ypy8 ?npy8
    case ypy8 => intro W; go_simp; rw [HMN.out]; try with_reducible rfl
    try simp only [Act.put, List.setIfInBounds_toArray, List.set_cons_zero, List.set_cons_succ]
    refine stepE_any 9 (some 18) (v := .int .i64 a2) (fun _ => trivial) rfl (by rfl) (by kernel_rfl) (by kernel_rfl) (by kernel_rfl) (by decide) (fun _ _ _ h => h) (by rfl) ?ypy9 ?npy9
    case ypy9 => intro W; go_simp; rw [HM2.out]; try with_reducible rfl
    try simp only [Act.put, List.setIfInBounds_toArray, List.set_cons_zero, List.set_cons_succ]
    refine stepE_any 10 (some 19) (v := ?vpy10) (fun _ => trivial) rfl (by rfl) (by kernel_rfl) (by kernel_rfl) (by kernel_rfl) (by decide) (fun _ _ _ h => h) (by rfl) ?ypy10 ?npy10
    case ypy10 => intro W; go_simp; try with_reducible rfl
    try simp only [Act.put, List.setIfInBounds_toArray, List.set_cons_zero, List.set_cons_succ]
    refine stepE_end 12 rfl (by kernel_rfl) (by rfl) (by rfl) (fun K' hK => ?_)
    refine wp_store_blk SB.out 31 (.tmp 4) (.tmp 19) rfl 0 [.int .u64 c0, .int .u64 g0, .int .i64 a2] (by rfl) (by rfl) (by simp) HI.out (by intro v hv; simp at hv; rcases hv with rfl | rfl | rfl <;> rfl) (fun w3 hb3 hk3 => hK _ _ ?_)
    clear hK K'
    try simp only [Act.put, List.setIfInBounds_toArray, List.set_cons_zero, List.set_cons_succ]
    refine wpAnyE_done (by kernel_rfl) ?_ _
    have hk3' := hk3 (fun k => k = w.heap.size + 1) rfl
    have hx3 := SX.out.keep hk3' (by omega)
    have hb3' := SBL.out.trans (hk3'.below (N := w.heap.size) (fun j e => by omega) SBL.out.size)
    rw [show ([.int .u64 0, .int .u64 0, .int .i64 0] : List Value).take 0 ++ [.int .u64 c0, .int .u64 g0, .int .i64 a2] ++ ([.int .u64 0, .int .u64 0, .int .i64 0] : List Value).drop (0 + ([.int .u64 c0, .int .u64 g0, .int .i64 a2] : List Value).length) = [.int .u64 c0, .int .u64 g0, .int .i64 a2] from rfl] at hb3
    have hyy : ∀ W, Keep (fun _ => False) w3.drew W → Blk W (w.heap.size + 1) 31 [.int .u64 c0, .int .u64 g0, .int .i64 a2] := fun W hW => (hb3.keep (Keep.drew (fun _ => False) _) (fun h => h)).keep hW (fun h => h)
    have HY0 := Lib.hid (fun W hW => (hyy W hW).cell 0)
    have HY1 := Lib.hid (fun W hW => (hyy W hW).cell 1)
    have HY2 := Lib.hid (fun W hW => (hyy W hW).cell 2)
    have X3 := Lib.hid (hx3.keep (Keep.drew (fun _ => False) _) (fun h => h))
    have Y3 := Lib.hid (hb3.keep (Keep.drew (fun _ => False) _) (fun h => h))
    have B3 := Lib.hid hb3'.drew
    clear hk3 hk3' hx3 hb3 hb3' hyy
    by_cases hc0 : c0 = 0
    · have hRe : R = none := by rw [HRS.out, if_neg]; exact fun h => h.2.1 hc0
      have HRE := Lib.hid hRe
      clear hRe
      subst hc0
      rw [show ((0 : Nat) : Int) = 0 from rfl] at HY0 ⊢
      go_wp2_with fail
      refine regionE_begin 15 (fun W => Keep (fun _ => False) w3.drew W) (by kernel_rfl) ?_
      refine stepE_any 0 (some 20) (v := ?vraqqqq0) (fun _ => Keep.refl _ _) rfl (by rfl) (by kernel_rfl) (by kernel_rfl) (by kernel_rfl) (by decide) (fun _ _ _ h => h) (by rfl) ?yraqqqq0 ?nraqqqq0
      case yraqqqq0 => intro W; go_simp; try with_reducible rfl
      try simp only [Act.put, List.setIfInBounds_toArray, List.set_cons_zero, List.set_cons_succ]
      refine stepE_read 1 20 (some 21) (v := ?vraqqqq1) (Keep.refl _ _) rfl (by rfl) (by kernel_rfl) (by kernel_rfl) (by kernel_rfl) (by kernel_rfl) (by kernel_rfl) (fun _ _ _ h => h) (by rfl) ?yraqqqq1 ?nraqqqq1
      case yraqqqq1 => intro W hW; have q0 := HY0.out W hW; go_simp; try with_reducible rfl
      try simp only [Act.put, List.setIfInBounds_toArray, List.set_cons_zero, List.set_cons_succ]
      refine stepE_any 2 (some 22) (v := ?vraqqqq2) (fun _ => Keep.refl _ _) rfl (by rfl) (by kernel_rfl) (by kernel_rfl) (by kernel_rfl) (by decide) (fun _ _ _ h => h) (by rfl) ?yraqqqq2 ?nraqqqq2
      case yraqqqq2 => intro W; go_simp; try with_reducible rfl
      try simp only [Act.put, List.setIfInBounds_toArray, List.set_cons_zero, List.set_cons_succ]
      refine stepE_any 3 (some 23) (v := ?vraqqqq3) (fun _ => Keep.refl _ _) rfl (by rfl) (by kernel_rfl) (by kernel_rfl) (by kernel_rfl) (by decide) (fun _ _ _ h => h) (by rfl) ?yraqqqq3 ?nraqqqq3
      case yraqqqq3 => intro W; go_simp; try with_reducible rfl
      try simp only [Act.put, List.setIfInBounds_toArray, List.set_cons_zero, List.set_cons_succ]
      refine stepE_skip 4 (some 24) (fun _ => Keep.refl _ _) rfl (by rfl) (by kernel_rfl) (by kernel_rfl) (by kernel_rfl) (by decide) (fun _ _ _ h => h) (by rfl) ?_
      try simp only [Act.put, List.setIfInBounds_toArray, List.set_cons_zero, List.set_cons_succ]
      refine stepE_skip 5 (some 25) (fun _ => Keep.refl _ _) rfl (by rfl) (by kernel_rfl) (by kernel_rfl) (by kernel_rfl) (by decide) (fun _ _ _ h => h) (by rfl) ?_
      try simp only [Act.put, List.setIfInBounds_toArray, List.set_cons_zero, List.set_cons_succ]
      refine stepE_skip 6 (some 26) (fun _ => Keep.refl _ _) rfl (by rfl) (by kernel_rfl) (by kernel_rfl) (by kernel_rfl) (by decide) (fun _ _ _ h => h) (by rfl) ?_
      try simp only [Act.put, List.setIfInBounds_toArray, List.set_cons_zero, List.set_cons_succ]
      refine stepE_any 7 (some 27) (v := ?vraqqqq7) (fun _ => Keep.refl _ _) rfl (by rfl) (by kernel_rfl) (by kernel_rfl) (by kernel_rfl) (by decide) (fun _ _ _ h => h) (by rfl) ?yraqqqq7 ?nraqqqq7
      case yraqqqq7 => intro W; go_simp; try with_reducible rfl
      try simp only [Act.put, List.setIfInBounds_toArray, List.set_cons_zero, List.set_cons_succ]
      refine stepE_any 8 (some 28) (v := ?vraqqqq8) (fun _ => Keep.refl _ _) rfl (by rfl) (by kernel_rfl) (by kernel_rfl) (by kernel_rfl) (by decide) (fun _ _ _ h => h) (by rfl) ?yraqqqq8 ?nraqqqq8
      case yraqqqq8 => intro W; go_simp; try with_reducible rfl
      try simp only [Act.put, List.setIfInBounds_toArray, List.set_cons_zero, List.set_cons_succ]
      refine stepE_skip 9 (some 29) (fun _ => Keep.refl _ _) rfl (by rfl) (by kernel_rfl) (by kernel_rfl) (by kernel_rfl) (by decide) (fun _ _ _ h => h) (by rfl) ?_
      try simp only [Act.put, List.setIfInBounds_toArray, List.set_cons_zero, List.set_cons_succ]
      refine stepE_skip 10 (some 30) (fun _ => Keep.refl _ _) rfl (by rfl) (by kernel_rfl) (by kernel_rfl) (by kernel_rfl) (by decide) (fun _ _ _ h => h) (by rfl) ?_
      try simp only [Act.put, List.setIfInBounds_toArray, List.set_cons_zero, List.set_cons_succ]
      refine stepE_skip 11 (some 31) (fun _ => Keep.refl _ _) rfl (by rfl) (by kernel_rfl) (by kernel_rfl) (by kernel_rfl) (by decide) (fun _ _ _ h => h) (by rfl) ?_
      try simp only [Act.put, List.setIfInBounds_toArray, List.set_cons_zero, List.set_cons_succ]
      refine stepE_skip 12 (some 32) (fun _ => Keep.refl _ _) rfl (by rfl) (by kernel_rfl) (by kernel_rfl) (by kernel_rfl) (by decide) (fun _ _ _ h => h) (by rfl) ?_
      try simp only [Act.put, List.setIfInBounds_toArray, List.set_cons_zero, List.set_cons_succ]
      refine stepE_skip 13 (some 33) (fun _ => Keep.refl _ _) rfl (by rfl) (by kernel_rfl) (by kernel_rfl) (by kernel_rfl) (by decide) (fun _ _ _ h => h) (by rfl) ?_
      try simp only [Act.put, List.setIfInBounds_toArray, List.set_cons_zero, List.set_cons_succ]
      refine stepE_skip 14 (some 34) (fun _ => Keep.refl _ _) rfl (by rfl) (by kernel_rfl) (by kernel_rfl) (by kernel_rfl) (by decide) (fun _ _ _ h => h) (by rfl) ?_
      try simp only [Act.put, List.setIfInBounds_toArray, List.set_cons_zero, List.set_cons_succ]
      -- 15: pick -> 35
      refine stepE_end 15 rfl (by kernel_rfl) (by rfl) (by rfl) (fun K' hK => ?_)
      go_simp
      refine hK _ _ ?_
      clear hK K'
      refine wpAnyE_done (by kernel_rfl) ?_ _
      clear HY0 HY1 HY2
      obtain ⟨wd, hwd⟩ : ∃ x, w3.drew = x := ⟨_, rfl⟩
      rw [hwd] at X3 B3 ⊢
      have z0 := X3.out.cell 0
      have z1 := X3.out.cell 1
      have z2 := X3.out.cell 2
      have f0 := X3.out.free 0
      have f1 := X3.out.free 1
      have f2 := X3.out.free 2
      have e0 : (wd.setCell ⟨w.heap.size, 0, none⟩ (.int .u64 0)).cell? ⟨w.heap.size, 0, none⟩ = some (.int .u64 0) := by rw [(X3.out.setCell 0 _).cell]; rfl
      have e1 : ((wd.setCell ⟨w.heap.size, 0, none⟩ (.int .u64 0)).setCell ⟨w.heap.size, 1, none⟩ (.int .u64 0)).cell? ⟨w.heap.size, 1, none⟩ = some (.int .u64 0) := by rw [((X3.out.setCell 0 _).setCell 1 _).cell]; rfl
      have e2 : (((wd.setCell ⟨w.heap.size, 0, none⟩ (.int .u64 0)).setCell ⟨w.heap.size, 1, none⟩ (.int .u64 0)).setCell ⟨w.heap.size, 2, none⟩ (.int .i64 0)).cell? ⟨w.heap.size, 2, none⟩ = some (.int .i64 0) := by rw [(((X3.out.setCell 0 _).setCell 1 _).setCell 2 _).cell]; rfl
      go_wp2
      try simp only [Exit.inBlock, Exit.then]
      refine bodyPost_ret (v := .tuple #[.agg #[.int .u64 0, .int .u64 0, .int .i64 0], .bool false]) (by simp [results, Try.results14, go_sem, e0, e1, e2]; try rfl) rfl ?_
      exact ⟨by rw [HRE.out]; rfl, ((B3.out.setCell (Nat.le_refl _) _).setCell (Nat.le_refl _) _).setCell (Nat.le_refl _) _⟩
    · have hc0I : ¬ (c0 : Int) = 0 := by omega
      by_cases ha1 : 1 < a0
      · have hRe : R = none := by rw [HRS.out, if_neg]; exact fun h => by have := h.2.2.1; omega
        have HRE := Lib.hid hRe
        clear hRe
        have ha1I : (1 : Int) < a2 := by have := HA2.out; omega
        go_wp2_with fail
        have hcb : ((c0 : Int) == 0) = false := by simpa using hc0
        refine regionE_begin 15 (fun W => Keep (fun _ => False) w3.drew W) (by kernel_rfl) ?_
        refine stepE_any 0 (some 20) (v := ?vrbqqqq0) (fun _ => Keep.refl _ _) rfl (by rfl) (by kernel_rfl) (by kernel_rfl) (by kernel_rfl) (by decide) (fun _ _ _ h => h) (by rfl) ?yrbqqqq0 ?nrbqqqq0
        case yrbqqqq0 => intro W; go_simp; try with_reducible rfl
        try simp only [Act.put, List.setIfInBounds_toArray, List.set_cons_zero, List.set_cons_succ]
        refine stepE_read 1 20 (some 21) (v := ?vrbqqqq1) (Keep.refl _ _) rfl (by rfl) (by kernel_rfl) (by kernel_rfl) (by kernel_rfl) (by kernel_rfl) (by kernel_rfl) (fun _ _ _ h => h) (by rfl) ?yrbqqqq1 ?nrbqqqq1
        case yrbqqqq1 => intro W hW; have q0 := HY0.out W hW; go_simp; try with_reducible rfl
        try simp only [Act.put, List.setIfInBounds_toArray, List.set_cons_zero, List.set_cons_succ]
        refine stepE_any 2 (some 22) (v := ?vrbqqqq2) (fun _ => Keep.refl _ _) rfl (by rfl) (by kernel_rfl) (by kernel_rfl) (by kernel_rfl) (by decide) (fun _ _ _ h => h) (by rfl) ?yrbqqqq2 ?nrbqqqq2
        case yrbqqqq2 => intro W; go_simp; try with_reducible rfl
        try simp only [Act.put, List.setIfInBounds_toArray, List.set_cons_zero, List.set_cons_succ]
        refine stepE_any 3 (some 23) (v := ?vrbqqqq3) (fun _ => Keep.refl _ _) rfl (by rfl) (by kernel_rfl) (by kernel_rfl) (by kernel_rfl) (by decide) (fun _ _ _ h => h) (by rfl) ?yrbqqqq3 ?nrbqqqq3
        case yrbqqqq3 => intro W; go_simp; try with_reducible rfl
        try simp only [Act.put, List.setIfInBounds_toArray, List.set_cons_zero, List.set_cons_succ]
        refine stepE_any 4 (some 24) (v := ?vrbqqqq4) (fun _ => Keep.refl _ _) rfl (by rfl) (by kernel_rfl) (by kernel_rfl) (by kernel_rfl) (by decide) (fun _ _ _ h => h) (by rfl) ?yrbqqqq4 ?nrbqqqq4
        case yrbqqqq4 => intro W; go_simp; try with_reducible rfl
        try simp only [Act.put, List.setIfInBounds_toArray, List.set_cons_zero, List.set_cons_succ]
        refine stepE_read 5 20 (some 25) (v := ?vrbqqqq5) (Keep.refl _ _) rfl (by rfl) (by kernel_rfl) (by kernel_rfl) (by kernel_rfl) (by kernel_rfl) (by kernel_rfl) (fun _ _ _ h => h) (by rfl) ?yrbqqqq5 ?nrbqqqq5
        case yrbqqqq5 => intro W hW; have q2 := HY2.out W hW; go_simp; try with_reducible rfl
        try simp only [Act.put, List.setIfInBounds_toArray, List.set_cons_zero, List.set_cons_succ]
        refine stepE_any 6 (some 26) (v := ?vrbqqqq6) (fun _ => Keep.refl _ _) rfl (by rfl) (by kernel_rfl) (by kernel_rfl) (by kernel_rfl) (by decide) (fun _ _ _ h => h) (by rfl) ?yrbqqqq6 ?nrbqqqq6
        case yrbqqqq6 => intro W; go_simp; try with_reducible rfl
        try simp only [Act.put, List.setIfInBounds_toArray, List.set_cons_zero, List.set_cons_succ]
        refine stepE_any 7 (some 27) (v := ?vrbqqqq7) (fun _ => Keep.refl _ _) rfl (by rfl) (by kernel_rfl) (by kernel_rfl) (by kernel_rfl) (by decide) (fun _ _ _ h => h) (by rfl) ?yrbqqqq7 ?nrbqqqq7
        case yrbqqqq7 => intro W; go_simp; try with_reducible rfl
        try simp only [Act.put, List.setIfInBounds_toArray, List.set_cons_zero, List.set_cons_succ]
        refine stepE_any 8 (some 28) (v := ?vrbqqqq8) (fun _ => Keep.refl _ _) rfl (by rfl) (by kernel_rfl) (by kernel_rfl) (by kernel_rfl) (by decide) (fun _ _ _ h => h) (by rfl) ?yrbqqqq8 ?nrbqqqq8
        case yrbqqqq8 => intro W; go_simp; try with_reducible rfl
        try simp only [Act.put, List.setIfInBounds_toArray, List.set_cons_zero, List.set_cons_succ]
        refine stepE_skip 9 (some 29) (fun _ => Keep.refl _ _) rfl (by rfl) (by kernel_rfl) (by kernel_rfl) (by kernel_rfl) (by decide) (fun _ _ _ h => h) (by rfl) ?_
        try simp only [Act.put, List.setIfInBounds_toArray, List.set_cons_zero, List.set_cons_succ]
        refine stepE_skip 10 (some 30) (fun _ => Keep.refl _ _) rfl (by rfl) (by kernel_rfl) (by kernel_rfl) (by kernel_rfl) (by decide) (fun _ _ _ h => h) (by rfl) ?_
        try simp only [Act.put, List.setIfInBounds_toArray, List.set_cons_zero, List.set_cons_succ]
        refine stepE_skip 11 (some 31) (fun _ => Keep.refl _ _) rfl (by rfl) (by kernel_rfl) (by kernel_rfl) (by kernel_rfl) (by decide) (fun _ _ _ h => h) (by rfl) ?_
        try simp only [Act.put, List.setIfInBounds_toArray, List.set_cons_zero, List.set_cons_succ]
        refine stepE_skip 12 (some 32) (fun _ => Keep.refl _ _) rfl (by rfl) (by kernel_rfl) (by kernel_rfl) (by kernel_rfl) (by decide) (fun _ _ _ h => h) (by rfl) ?_
        try simp only [Act.put, List.setIfInBounds_toArray, List.set_cons_zero, List.set_cons_succ]
        refine stepE_skip 13 (some 33) (fun _ => Keep.refl _ _) rfl (by rfl) (by kernel_rfl) (by kernel_rfl) (by kernel_rfl) (by decide) (fun _ _ _ h => h) (by rfl) ?_
        try simp only [Act.put, List.setIfInBounds_toArray, List.set_cons_zero, List.set_cons_succ]
        refine stepE_skip 14 (some 34) (fun _ => Keep.refl _ _) rfl (by rfl) (by kernel_rfl) (by kernel_rfl) (by kernel_rfl) (by decide) (fun _ _ _ h => h) (by rfl) ?_
        try simp only [Act.put, List.setIfInBounds_toArray, List.set_cons_zero, List.set_cons_succ]
        -- 15: pick -> 35
        refine stepE_end 15 rfl (by kernel_rfl) (by rfl) (by rfl) (fun K' hK => ?_)
        go_simp
        refine hK _ _ ?_
        clear hK K'
        refine wpAnyE_done (by kernel_rfl) ?_ _
        clear HY0 HY1 HY2
        obtain ⟨wd, hwd⟩ : ∃ x, w3.drew = x := ⟨_, rfl⟩
        rw [hwd] at X3 B3 ⊢
        have z0 := X3.out.cell 0
        have z1 := X3.out.cell 1
        have z2 := X3.out.cell 2
        have f0 := X3.out.free 0
        have f1 := X3.out.free 1
        have f2 := X3.out.free 2
        have e0 : (wd.setCell ⟨w.heap.size, 0, none⟩ (.int .u64 0)).cell? ⟨w.heap.size, 0, none⟩ = some (.int .u64 0) := by rw [(X3.out.setCell 0 _).cell]; rfl
        have e1 : ((wd.setCell ⟨w.heap.size, 0, none⟩ (.int .u64 0)).setCell ⟨w.heap.size, 1, none⟩ (.int .u64 0)).cell? ⟨w.heap.size, 1, none⟩ = some (.int .u64 0) := by rw [((X3.out.setCell 0 _).setCell 1 _).cell]; rfl
        have e2 : (((wd.setCell ⟨w.heap.size, 0, none⟩ (.int .u64 0)).setCell ⟨w.heap.size, 1, none⟩ (.int .u64 0)).setCell ⟨w.heap.size, 2, none⟩ (.int .i64 0)).cell? ⟨w.heap.size, 2, none⟩ = some (.int .i64 0) := by rw [(((X3.out.setCell 0 _).setCell 1 _).setCell 2 _).cell]; rfl
        go_wp2
        try simp only [Exit.inBlock, Exit.then]
        refine bodyPost_ret (v := .tuple #[.agg #[.int .u64 0, .int .u64 0, .int .i64 0], .bool false]) (by simp [results, Try.results14, go_sem, e0, e1, e2]; try rfl) rfl ?_
        exact ⟨by rw [HRE.out]; rfl, ((B3.out.setCell (Nat.le_refl _) _).setCell (Nat.le_refl _) _).setCell (Nat.le_refl _) _⟩
      · have ha1I : ¬ (1 : Int) < a2 := by have := HA2.out; omega
        have ha2 : a2 = a0 := by have := HA2.out; omega
        have HCV := Lib.hid (fun W (hW : Keep (fun _ => False) w3.drew W) => conv_str (P := Try.prog) (HV.out W (B3.out.trans (hW.below (N := w.heap.size) (fun _ h => h.elim) B3.out.size))) 25 5 Try.underlying25 Try.underlying5 9 Try.underlying9)
        have HA0 := Lib.hid ha2
        clear ha2
        go_wp2_with fail
        have hcb : ((c0 : Int) == 0) = false := by simpa using hc0
        have ha1J : ¬ (1 : Int) < (a2 : Int) := by have := HA2.out; omega
        refine regionE_begin 15 (fun W => Keep (fun _ => False) w3.drew W) (by kernel_rfl) ?_
        refine stepE_any 0 (some 20) (v := ?vrcqqqq0) (fun _ => Keep.refl _ _) rfl (by rfl) (by kernel_rfl) (by kernel_rfl) (by kernel_rfl) (by decide) (fun _ _ _ h => h) (by rfl) ?yrcqqqq0 ?nrcqqqq0
        case yrcqqqq0 => intro W; go_simp; try with_reducible rfl
        try simp only [Act.put, List.setIfInBounds_toArray, List.set_cons_zero, List.set_cons_succ]
        refine stepE_read 1 20 (some 21) (v := ?vrcqqqq1) (Keep.refl _ _) rfl (by rfl) (by kernel_rfl) (by kernel_rfl) (by kernel_rfl) (by kernel_rfl) (by kernel_rfl) (fun _ _ _ h => h) (by rfl) ?yrcqqqq1 ?nrcqqqq1
        case yrcqqqq1 => intro W hW; have q0 := HY0.out W hW; go_simp; try with_reducible rfl
        try simp only [Act.put, List.setIfInBounds_toArray, List.set_cons_zero, List.set_cons_succ]
        refine stepE_any 2 (some 22) (v := ?vrcqqqq2) (fun _ => Keep.refl _ _) rfl (by rfl) (by kernel_rfl) (by kernel_rfl) (by kernel_rfl) (by decide) (fun _ _ _ h => h) (by rfl) ?yrcqqqq2 ?nrcqqqq2
        case yrcqqqq2 => intro W; go_simp; try with_reducible rfl
        try simp only [Act.put, List.setIfInBounds_toArray, List.set_cons_zero, List.set_cons_succ]
        refine stepE_any 3 (some 23) (v := ?vrcqqqq3) (fun _ => Keep.refl _ _) rfl (by rfl) (by kernel_rfl) (by kernel_rfl) (by kernel_rfl) (by decide) (fun _ _ _ h => h) (by rfl) ?yrcqqqq3 ?nrcqqqq3
        case yrcqqqq3 => intro W; go_simp; try with_reducible rfl
        try simp only [Act.put, List.setIfInBounds_toArray, List.set_cons_zero, List.set_cons_succ]
        refine stepE_any 4 (some 24) (v := ?vrcqqqq4) (fun _ => Keep.refl _ _) rfl (by rfl) (by kernel_rfl) (by kernel_rfl) (by kernel_rfl) (by decide) (fun _ _ _ h => h) (by rfl) ?yrcqqqq4 ?nrcqqqq4
        case yrcqqqq4 => intro W; go_simp; try with_reducible rfl
        try simp only [Act.put, List.setIfInBounds_toArray, List.set_cons_zero, List.set_cons_succ]
        refine stepE_read 5 20 (some 25) (v := ?vrcqqqq5) (Keep.refl _ _) rfl (by rfl) (by kernel_rfl) (by kernel_rfl) (by kernel_rfl) (by kernel_rfl) (by kernel_rfl) (fun _ _ _ h => h) (by rfl) ?yrcqqqq5 ?nrcqqqq5
        case yrcqqqq5 => intro W hW; have q2 := HY2.out W hW; go_simp; try with_reducible rfl
        try simp only [Act.put, List.setIfInBounds_toArray, List.set_cons_zero, List.set_cons_succ]
        refine stepE_any 6 (some 26) (v := ?vrcqqqq6) (fun _ => Keep.refl _ _) rfl (by rfl) (by kernel_rfl) (by kernel_rfl) (by kernel_rfl) (by decide) (fun _ _ _ h => h) (by rfl) ?yrcqqqq6 ?nrcqqqq6
        case yrcqqqq6 => intro W; go_simp; try with_reducible rfl
        try simp only [Act.put, List.setIfInBounds_toArray, List.set_cons_zero, List.set_cons_succ]
        refine stepE_any 7 (some 27) (v := ?vrcqqqq7) (fun _ => Keep.refl _ _) rfl (by rfl) (by kernel_rfl) (by kernel_rfl) (by kernel_rfl) (by decide) (fun _ _ _ h => h) (by rfl) ?yrcqqqq7 ?nrcqqqq7
        case yrcqqqq7 => intro W; go_simp; try with_reducible rfl
        try simp only [Act.put, List.setIfInBounds_toArray, List.set_cons_zero, List.set_cons_succ]
        refine stepE_any 8 (some 28) (v := ?vrcqqqq8) (fun _ => Keep.refl _ _) rfl (by rfl) (by kernel_rfl) (by kernel_rfl) (by kernel_rfl) (by decide) (fun _ _ _ h => h) (by rfl) ?yrcqqqq8 ?nrcqqqq8
        case yrcqqqq8 => intro W; go_simp; try with_reducible rfl
        try simp only [Act.put, List.setIfInBounds_toArray, List.set_cons_zero, List.set_cons_succ]
        refine stepE_read 9 20 (some 29) (v := ?vrcqqqq9) (Keep.refl _ _) rfl (by rfl) (by kernel_rfl) (by kernel_rfl) (by kernel_rfl) (by kernel_rfl) (by kernel_rfl) (fun _ _ _ h => h) (by rfl) ?yrcqqqq9 ?nrcqqqq9
        case yrcqqqq9 => intro W hW; have q0 := HY0.out W hW; have q1 := HY1.out W hW; have q2 := HY2.out W hW; go_simp; try with_reducible rfl
        try simp only [Act.put, List.setIfInBounds_toArray, List.set_cons_zero, List.set_cons_succ]
        refine stepE_any 12 (some 32) (v := ?vrcqqqq12) (fun _ => Keep.refl _ _) rfl (by rfl) (by kernel_rfl) (by kernel_rfl) (by kernel_rfl) (by decide) (fun _ _ _ h => h) (by rfl) ?yrcqqqq12 ?nrcqqqq12
        case yrcqqqq12 => intro W; go_simp; try with_reducible rfl
        try simp only [Act.put, List.setIfInBounds_toArray, List.set_cons_zero, List.set_cons_succ]
        refine stepE_read 13 20 (some 33) (v := ?vrcqqqq13) (Keep.refl _ _) rfl (by rfl) (by kernel_rfl) (by kernel_rfl) (by kernel_rfl) (by kernel_rfl) (by kernel_rfl) (fun _ _ _ h => h) (by rfl) ?yrcqqqq13 ?nrcqqqq13
        case yrcqqqq13 => intro W hW; ((refine exec_convH 25 9 (.tmp 32) ?_ _ (.string (strOfNums bs)) ?_ (HCV.out W hW)); rfl; rfl)
        try simp only [Act.put, List.setIfInBounds_toArray, List.set_cons_zero, List.set_cons_succ]
        -- 10: call:11 -> 30
        refine stepE_only 10 rfl (by kernel_rfl) (by rfl) (fun K' hK => ?_)
        go_simp
        refine (pput_any _ c0 g0 a2 (a2 : Int) (.inl rfl) (by omega)).mono ?_
        rintro e w4 ⟨u4, rfl, ho4, hb4⟩
        have hn4 : IsNums .u8 w4 u4 (slotB c0 g0 a2) := IsNums.ofOwn ho4
        obtain ⟨p4, q4, rfl, -⟩ := id hn4
        have N4 := Lib.hid hn4
        have B4 := Lib.hid hb4
        refine hK _ _ (Keep.ofBelow hb4) ?_
        clear ho4 hb4 hn4
        clear hK K'
        try simp only [Act.put, List.setIfInBounds_toArray, List.set_cons_zero, List.set_cons_succ]
        -- 11: convert -> 31
        refine stepE_only 11 rfl (by kernel_rfl) (by rfl) (fun K' hK => ?_)
        have hcv := conv_str (P := Try.prog) N4.out 25 5 Try.underlying25 Try.underlying5 9 Try.underlying9
        go_simp
        refine hK _ _ (Keep.ofBelow B4.out) ?_
        clear hcv
        clear hK K'
        try simp only [Act.put, List.setIfInBounds_toArray, List.set_cons_zero, List.set_cons_succ]
        refine stepE_any 14 (some 34) (v := ?vrcqqqq14) (fun _ => Keep.ofBelow B4.out) rfl (by rfl) (by kernel_rfl) (by kernel_rfl) (by kernel_rfl) (by decide) (fun _ _ _ h => h) (by rfl) ?yrcqqqq14 ?nrcqqqq14
        case yrcqqqq14 => intro W; go_simp; try with_reducible rfl
        try simp only [Act.put, List.setIfInBounds_toArray, List.set_cons_zero, List.set_cons_succ]
        -- 15: pick -> 35
        refine stepE_end 15 rfl (by kernel_rfl) (by rfl) (by rfl) (fun K' hK => ?_)
        go_simp
        refine hK _ _ ?_
        clear hK K'
        refine wpAnyE_done (by kernel_rfl) ?_ _
        have hbb := str_beq (slotB_sec c0 g0 a2).2 HBB.out
        obtain ⟨bq, hbq⟩ : ∃ bq, ((strOfNums (slotB c0 g0 a2)).toList == (strOfNums bs).toList) = bq := ⟨_, rfl⟩
        rw [hbq] at hbb ⊢
        have X4 := Lib.hid (X3.out.below B4.out X3.out.lt)
        have Y4 := Lib.hid (Y3.out.below B4.out Y3.out.lt)
        have B5 := Lib.hid (B3.out.trans (B4.out.mono B3.out.size))
        clear HY0 HY1 HY2 X3 Y3 B3 B4 N4 hbq
        by_cases he : slotB c0 g0 a2 = bs
        · have hRe : R = some (c0, g0, a2) := by rw [HRS.out, ← HA0.out, if_pos]; exact ⟨hl, hc0, by have := HA0.out; omega, he⟩
          have HRE := Lib.hid hRe
          obtain rfl : bq = true := hbb.trans (decide_eq_true he)
          clear hRe he hbb
          have y0 := Y4.out.cell 0
          have y1 := Y4.out.cell 1
          have y2 := Y4.out.cell 2
          have z0 := X4.out.cell 0
          have z1 := X4.out.cell 1
          have z2 := X4.out.cell 2
          have f0 := X4.out.free 0
          have f1 := X4.out.free 1
          have f2 := X4.out.free 2
          have e0 : (w4.setCell ⟨w.heap.size, 0, none⟩ (.int .u64 c0)).cell? ⟨w.heap.size, 0, none⟩ = some (.int .u64 c0) := by rw [(X4.out.setCell 0 _).cell]; rfl
          have e1 : ((w4.setCell ⟨w.heap.size, 0, none⟩ (.int .u64 c0)).setCell ⟨w.heap.size, 1, none⟩ (.int .u64 g0)).cell? ⟨w.heap.size, 1, none⟩ = some (.int .u64 g0) := by rw [((X4.out.setCell 0 _).setCell 1 _).cell]; rfl
          have e2 : (((w4.setCell ⟨w.heap.size, 0, none⟩ (.int .u64 c0)).setCell ⟨w.heap.size, 1, none⟩ (.int .u64 g0)).setCell ⟨w.heap.size, 2, none⟩ (.int .i64 a2)).cell? ⟨w.heap.size, 2, none⟩ = some (.int .i64 a2) := by rw [(((X4.out.setCell 0 _).setCell 1 _).setCell 2 _).cell]; rfl
          go_wp2
          try simp only [Exit.inBlock, Exit.then]
          refine bodyPost_ret (v := .tuple #[.agg #[.int .u64 c0, .int .u64 g0, .int .i64 a2], .bool true]) (by simp [results, Try.results14, go_sem, e0, e1, e2]; try rfl) rfl ?_
          exact ⟨by rw [HRE.out]; rfl, ((B5.out.setCell (Nat.le_refl _) _).setCell (Nat.le_refl _) _).setCell (Nat.le_refl _) _⟩
        · have hRe : R = none := by rw [HRS.out, ← HA0.out, if_neg]; exact fun h => he h.2.2.2
          have HRE := Lib.hid hRe
          obtain rfl : bq = false := hbb.trans (decide_eq_false he)
          clear hRe he hbb
          have z0 := X4.out.cell 0
          have z1 := X4.out.cell 1
          have z2 := X4.out.cell 2
          have f0 := X4.out.free 0
          have f1 := X4.out.free 1
          have f2 := X4.out.free 2
          have e0 : (w4.setCell ⟨w.heap.size, 0, none⟩ (.int .u64 0)).cell? ⟨w.heap.size, 0, none⟩ = some (.int .u64 0) := by rw [(X4.out.setCell 0 _).cell]; rfl
          have e1 : ((w4.setCell ⟨w.heap.size, 0, none⟩ (.int .u64 0)).setCell ⟨w.heap.size, 1, none⟩ (.int .u64 0)).cell? ⟨w.heap.size, 1, none⟩ = some (.int .u64 0) := by rw [((X4.out.setCell 0 _).setCell 1 _).cell]; rfl
          have e2 : (((w4.setCell ⟨w.heap.size, 0, none⟩ (.int .u64 0)).setCell ⟨w.heap.size, 1, none⟩ (.int .u64 0)).setCell ⟨w.heap.size, 2, none⟩ (.int .i64 0)).cell? ⟨w.heap.size, 2, none⟩ = some (.int .i64 0) := by rw [(((X4.out.setCell 0 _).setCell 1 _).setCell 2 _).cell]; rfl
          go_wp2
          try simp only [Exit.inBlock, Exit.then]
          refine bodyPost_ret (v := .tuple #[.agg #[.int .u64 0, .int .u64 0, .int .i64 0], .bool false]) (by simp [results, Try.results14, go_sem, e0, e1, e2]; try rfl) rfl ?_
          exact ⟨by rw [HRE.out]; rfl, ((B5.out.setCell (Nat.le_refl _) _).setCell (Nat.le_refl _) _).setCell (Nat.le_refl _) _⟩
end Go.Proofs.Ythecjhjomkpgkaa.K
