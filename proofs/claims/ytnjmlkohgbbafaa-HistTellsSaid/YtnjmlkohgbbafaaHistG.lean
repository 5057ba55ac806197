/- hist.Right and mementoref13.HistRight, of any versions. -/
import Derived.Test.YtnjmlkohgbbafaaHistF
namespace Go.Proofs.Ytnjmlkohgbbafaa.K
open Go.ChangeShapes Go.WideShapes Go.ChangeAt Go.RowKit
set_option linter.unusedVariables false

def RightAt (ss : List Int) (i : Nat) : Prop := (1 ≤ ss.getD i 0 ∧ ss.getD i 0 ≤ 1099511627776) ∧ ∀ j, i = j + 1 → ss.getD j 0 < ss.getD i 0
def RightK (ss : List Int) : Prop := ∀ i, i < ss.length → RightAt ss i
def RightPost (w : World) (ss : List Int) (e : Ending) (w' : World) : Prop := ∃ b : Bool, e = .returned (.bool b) ∧ (b = true ↔ RightK ss) ∧ Below w.heap.size w w'
theorem RightK.no {ss : List Int} {i : Nat} (hi : i < ss.length) (h : ¬ RightAt ss i) : (false = true ↔ RightK ss) := ⟨fun e => absurd e Bool.false_ne_true, fun k => absurd (k i hi) h⟩
theorem RightK.yes {ss : List Int} {n : Nat} (hn : ss.length ≤ n) (h : ∀ i, i < n → RightAt ss i) : (true = true ↔ RightK ss) := ⟨fun _ i hi => h i (by omega), fun _ => rfl⟩

set_option maxRecDepth 100000 in
set_option maxHeartbeats 1000000 in
theorem rights_all (w : World) (v : Value) (ks : List (Int × List Int)) (hv : Vers w v ks) (hn : ks.length ≤ 1000000) :
    Calls Try.prog 23 #[v] w (RightPost w (seqs ks)) := by
  obtain ⟨a1, c1, rfl, hc1⟩ := hv.len
  have HV := Lib.hid hv
  clear hv
  go_enter Try.func23, Try.ntmps23
  go_wp2
  go_loopw [7] (fun i wr => ∃ k : Nat, k ≤ ks.length ∧ (∀ j, j < k → RightAt (seqs ks) j) ∧ i = .int .i64 k ∧ Below w.heap.size w wr) (fun i _ => ks.length - (intOf i).toNat)
  case atStart => exact ⟨0, Nat.zero_le _, fun j hj => absurd hj (Nat.not_lt_zero _), rfl, Below.refl _ _⟩
  case round =>
    obtain ⟨k, hk, hinv, rfl, hbel⟩ := hrel
    have HI := Lib.hid hinv
    clear hinv
    by_cases hlt : k < ks.length
    · obtain ⟨b1, o1, c1', u1, e1, hb1, -, hs1, hd1, hn1⟩ := HV.out.cell k hlt
      injection e1 with e1 q1 q2
      subst e1
      clear q1 q2
      have hsq := seqs_get ks k hlt
      obtain ⟨s, hs⟩ : ∃ s, (ks.getD k (0, [])).1 = s := ⟨_, rfl⟩
      rw [hs] at hs1 hsq
      have hrr : wr.rangeAt b1 (o1 + k * 2) [.int .i64 s, u1] := fun j x hj => by
        rw [hbel.cell hb1]
        match j, hj with
        | 0, hj => simp at hj; subst hj; rw [Nat.add_zero]; exact hs1
        | 1, hj => simp at hj; subst hj; exact hd1
      have hone : ∀ x ∈ ([.int .i64 s, u1] : List Value), x.oneCell' = true := by
        obtain ⟨a, c, hu, -⟩ := hn1
        intro x hx
        simp only [List.mem_cons, List.not_mem_nil, or_false] at hx
        rcases hx with rfl | rfl
        · rfl
        · rw [hu]; rfl
      have HRR := Lib.hid hrr
      have HONE := Lib.hid hone
      have HBL := Lib.hid hbel
      have HSS := Lib.hid hsq
      have HINF : Hid ((Try.prog.info? 54).map (·.size) = some ([.int .i64 s, u1] : List Value).length) := Lib.hid infoVr
      have hkI : (k : Int) < ks.length := by omega
      have hkM : (k : Int) ≤ 1000000 := by omega
      clear hs1 hd1 hn1 hsq hrr hone hbel hs
      go_wp2_with (first | ((with_reducible refine wpList_loadM (.tmp 10) b1 (o1 + k * 2) [.int .i64 s, u1] _ HRR.out Try.underlying54 rfl ?_ ?_ ?_); exact HINF.out; exact rfl) | ((with_reducible refine wpList_storeN (.tmp 4) (.tmp 11) [.int .i64 s, u1] HONE.out ?_ ?_ ?_ ?_ ?_); exact HINF.out; exact rfl; exact rfl; exact rfl; intro w2 hb2 hbl2 hz2; have HZ2 := Lib.hid hz2; have HB2 := Lib.hid hb2; have HBL2 := Lib.hid hbl2; clear hz2 hb2 hbl2))
      have hsq : ∀ W, Keep (fun _ => False) w2.drew W → W.cell? ⟨wr.heap.size, 0, none⟩ = some (.int .i64 s) := fun W hW => by
        rw [hW.cell (fun h => h) (show wr.heap.size < w2.drew.heap.size from HB2.out.lt)]; exact HB2.out.cell 0
      have HSQ := Lib.hid hsq
      clear hsq
      by_cases hw : 1 ≤ s ∧ s ≤ 1099511627776
      · have hs1' := hw.1
        have hs2' := hw.2
        clear hw
        rcases k with _ | j
        · rw [show ((0 : Nat) : Int) = 0 from rfl]
          go_wp2_with fail
          refine regionE_begin 18 (fun W => Keep (fun _ => False) w2.drew W) (by kernel_rfl) ?_
          refine stepE_any 0 (some 12) (v := ?vp0) (fun _ => Keep.refl _ _) rfl (by rfl) (by kernel_rfl) (by kernel_rfl) (by kernel_rfl) (by decide) (fun _ _ _ h => h) (by rfl) ?yp0 ?np0
          case yp0 => intro W; go_simp; try with_reducible rfl
          try simp only [Act.put, List.setIfInBounds_toArray, List.set_cons_zero, List.set_cons_succ]
          refine stepE_read 1 24 (some 13) (v := ?vp1) (Keep.refl _ _) rfl (by rfl) (by kernel_rfl) (by kernel_rfl) (by kernel_rfl) (by kernel_rfl) (by kernel_rfl) (fun _ _ _ h => h) (by rfl) ?yp1 ?np1
          case yp1 => intro W hW; have q := HSQ.out W hW; go_simp; try with_reducible rfl
          try simp only [Act.put, List.setIfInBounds_toArray, List.set_cons_zero, List.set_cons_succ]
          -- 2: call:50 -> 14
          refine stepE_only 2 rfl (by kernel_rfl) (by rfl) (fun K' hK => ?_)
          go_simp
          refine (right_yes' s _ hs1' hs2').mono ?_
          rintro e w9 ⟨rfl, rfl⟩
          refine hK _ _ (Keep.refl _ _) ?_
          clear hK K'
          try simp only [Act.put, List.setIfInBounds_toArray, List.set_cons_zero, List.set_cons_succ]
          refine stepE_any 3 (some 15) (v := ?vp3) (fun _ => Keep.refl _ _) rfl (by rfl) (by kernel_rfl) (by kernel_rfl) (by kernel_rfl) (by decide) (fun _ _ _ h => h) (by rfl) ?yp3 ?np3
          case yp3 => intro W; go_simp; try with_reducible rfl
          try simp only [Act.put, List.setIfInBounds_toArray, List.set_cons_zero, List.set_cons_succ]
          refine stepE_any 4 (some 16) (v := ?vp4) (fun _ => Keep.refl _ _) rfl (by rfl) (by kernel_rfl) (by kernel_rfl) (by kernel_rfl) (by decide) (fun _ _ _ h => h) (by rfl) ?yp4 ?np4
          case yp4 => intro W; go_simp; try with_reducible rfl
          try simp only [Act.put, List.setIfInBounds_toArray, List.set_cons_zero, List.set_cons_succ]
          refine stepE_any 5 (some 17) (v := ?vp5) (fun _ => Keep.refl _ _) rfl (by rfl) (by kernel_rfl) (by kernel_rfl) (by kernel_rfl) (by decide) (fun _ _ _ h => h) (by rfl) ?yp5 ?np5
          case yp5 => intro W; go_simp; try with_reducible rfl
          try simp only [Act.put, List.setIfInBounds_toArray, List.set_cons_zero, List.set_cons_succ]
          refine stepE_any 6 (some 18) (v := ?vp6) (fun _ => Keep.refl _ _) rfl (by rfl) (by kernel_rfl) (by kernel_rfl) (by kernel_rfl) (by decide) (fun _ _ _ h => h) (by rfl) ?yp6 ?np6
          case yp6 => intro W; go_simp; try with_reducible rfl
          try simp only [Act.put, List.setIfInBounds_toArray, List.set_cons_zero, List.set_cons_succ]
          refine stepE_any 7 (some 19) (v := ?vp7) (fun _ => Keep.refl _ _) rfl (by rfl) (by kernel_rfl) (by kernel_rfl) (by kernel_rfl) (by decide) (fun _ _ _ h => h) (by rfl) ?yp7 ?np7
          case yp7 => intro W; go_simp; try with_reducible rfl
          try simp only [Act.put, List.setIfInBounds_toArray, List.set_cons_zero, List.set_cons_succ]
          refine stepE_skip 8 (some 20) (fun _ => Keep.refl _ _) rfl (by rfl) (by kernel_rfl) (by kernel_rfl) (by kernel_rfl) (by decide) (fun _ _ _ h => h) (by rfl) ?_
          try simp only [Act.put, List.setIfInBounds_toArray, List.set_cons_zero, List.set_cons_succ]
          refine stepE_skip 9 (some 21) (fun _ => Keep.refl _ _) rfl (by rfl) (by kernel_rfl) (by kernel_rfl) (by kernel_rfl) (by decide) (fun _ _ _ h => h) (by rfl) ?_
          try simp only [Act.put, List.setIfInBounds_toArray, List.set_cons_zero, List.set_cons_succ]
          refine stepE_skip 10 (some 22) (fun _ => Keep.refl _ _) rfl (by rfl) (by kernel_rfl) (by kernel_rfl) (by kernel_rfl) (by decide) (fun _ _ _ h => h) (by rfl) ?_
          try simp only [Act.put, List.setIfInBounds_toArray, List.set_cons_zero, List.set_cons_succ]
          refine stepE_skip 11 (some 23) (fun _ => Keep.refl _ _) rfl (by rfl) (by kernel_rfl) (by kernel_rfl) (by kernel_rfl) (by decide) (fun _ _ _ h => h) (by rfl) ?_
          try simp only [Act.put, List.setIfInBounds_toArray, List.set_cons_zero, List.set_cons_succ]
          refine stepE_skip 12 (some 24) (fun _ => Keep.refl _ _) rfl (by rfl) (by kernel_rfl) (by kernel_rfl) (by kernel_rfl) (by decide) (fun _ _ _ h => h) (by rfl) ?_
          try simp only [Act.put, List.setIfInBounds_toArray, List.set_cons_zero, List.set_cons_succ]
          refine stepE_skip 13 (some 25) (fun _ => Keep.refl _ _) rfl (by rfl) (by kernel_rfl) (by kernel_rfl) (by kernel_rfl) (by decide) (fun _ _ _ h => h) (by rfl) ?_
          try simp only [Act.put, List.setIfInBounds_toArray, List.set_cons_zero, List.set_cons_succ]
          refine stepE_skip 14 (some 26) (fun _ => Keep.refl _ _) rfl (by rfl) (by kernel_rfl) (by kernel_rfl) (by kernel_rfl) (by decide) (fun _ _ _ h => h) (by rfl) ?_
          try simp only [Act.put, List.setIfInBounds_toArray, List.set_cons_zero, List.set_cons_succ]
          refine stepE_skip 15 (some 27) (fun _ => Keep.refl _ _) rfl (by rfl) (by kernel_rfl) (by kernel_rfl) (by kernel_rfl) (by decide) (fun _ _ _ h => h) (by rfl) ?_
          try simp only [Act.put, List.setIfInBounds_toArray, List.set_cons_zero, List.set_cons_succ]
          refine stepE_skip 16 (some 28) (fun _ => Keep.refl _ _) rfl (by rfl) (by kernel_rfl) (by kernel_rfl) (by kernel_rfl) (by decide) (fun _ _ _ h => h) (by rfl) ?_
          try simp only [Act.put, List.setIfInBounds_toArray, List.set_cons_zero, List.set_cons_succ]
          refine stepE_any 17 (some 29) (v := ?vp17) (fun _ => Keep.refl _ _) rfl (by rfl) (by kernel_rfl) (by kernel_rfl) (by kernel_rfl) (by decide) (fun _ _ _ h => h) (by rfl) ?yp17 ?np17
          case yp17 => intro W; go_simp; try with_reducible rfl
          try simp only [Act.put, List.setIfInBounds_toArray, List.set_cons_zero, List.set_cons_succ]
          -- 18: pick -> 30
          refine stepE_end 18 rfl (by kernel_rfl) (by rfl) (by rfl) (fun K' hK => ?_)
          go_simp
          refine hK _ _ ?_
          clear hK K'
          refine wpAnyE_done (by kernel_rfl) ?_ _
          go_wp2
          go_roundw
          case rel => exact ⟨1, by omega, fun j hj => (by
            obtain rfl : j = 0 := by omega
            exact ⟨by rw [HSS.out]; exact ⟨hs1', hs2'⟩, fun j h => by omega⟩), rfl, HBL.out.trans ((HBL2.out.mono HBL.out.size).trans ⟨rfl, rfl, rfl, Nat.le_refl _, fun _ _ => rfl⟩)⟩
          case measure => simp [intOf]; omega
        · obtain ⟨b3, o3, c3, u3, e3, hb3, -, hs3, -, -⟩ := HV.out.cell j (by omega)
          injection e3 with e3 q1 q2
          injection e3 with e3
          injection e3 with e3 e4
          subst e3 e4
          clear q1 q2
          have hsj := seqs_get ks j (by omega)
          obtain ⟨sp, hsp⟩ : ∃ s, (ks.getD j (0, [])).1 = s := ⟨_, rfl⟩
          rw [hsp] at hs3 hsj
          have hs4 : ∀ W, Keep (fun _ => False) w2.drew W → W.cell? ⟨b1, o1 + j * 2, none⟩ = some (.int .i64 sp) := fun W hW => by
            have h0 : w2.cell? ⟨b1, o1 + j * 2, none⟩ = some (.int .i64 sp) := by rw [HBL2.out.cell (Nat.lt_of_lt_of_le hb1 HBL.out.size), HBL.out.cell hb1]; exact hs3
            have hlt2 : b1 < w2.drew.heap.size := Nat.lt_of_lt_of_le (Nat.lt_of_lt_of_le hb1 HBL.out.size) HBL2.out.size
            rw [hW.cell (fun h => h) hlt2]; exact h0
          have HS4 := Lib.hid hs4
          have HSJ := Lib.hid hsj
          clear hs4 hsj
          have hj0 : (0 : Int) ≤ j := by omega
          have hjl : (j : Int) < ks.length := by omega
          have hjm : (j : Int) ≤ 1000000 := by omega
          have hwj : IntKind.i64.wrap (j : Int) = (j : Int) := IntWalk.i64_in _ (by omega)
          have hwj2 : IntKind.i64.wrap ((j : Int) + 1 - 1) = (j : Int) := by rw [show ((j : Int) + 1 - 1) = (j : Int) by omega]; exact hwj
          clear hs3 hsp hkI hkM
          rw [show ((j + 1 : Nat) : Int) = (j : Int) + 1 by omega]
          by_cases hpv : s ≤ sp
          · go_wp2_with fail
            refine regionE_begin 18 (fun W => Keep (fun _ => False) w2.drew W) (by kernel_rfl) ?_
            refine stepE_any 0 (some 12) (v := ?vq0) (fun _ => Keep.refl _ _) rfl (by rfl) (by kernel_rfl) (by kernel_rfl) (by kernel_rfl) (by decide) (fun _ _ _ h => h) (by rfl) ?yq0 ?nq0
            case yq0 => intro W; go_simp; try with_reducible rfl
            try simp only [Act.put, List.setIfInBounds_toArray, List.set_cons_zero, List.set_cons_succ]
            refine stepE_read 1 24 (some 13) (v := ?vq1) (Keep.refl _ _) rfl (by rfl) (by kernel_rfl) (by kernel_rfl) (by kernel_rfl) (by kernel_rfl) (by kernel_rfl) (fun _ _ _ h => h) (by rfl) ?yq1 ?nq1
            case yq1 => intro W hW; have q := HSQ.out W hW; go_simp; try with_reducible rfl
            try simp only [Act.put, List.setIfInBounds_toArray, List.set_cons_zero, List.set_cons_succ]
            -- 2: call:50 -> 14
            refine stepE_only 2 rfl (by kernel_rfl) (by rfl) (fun K' hK => ?_)
            go_simp
            refine (right_yes' s _ hs1' hs2').mono ?_
            rintro e w9 ⟨rfl, rfl⟩
            refine hK _ _ (Keep.refl _ _) ?_
            clear hK K'
            try simp only [Act.put, List.setIfInBounds_toArray, List.set_cons_zero, List.set_cons_succ]
            refine stepE_any 3 (some 15) (v := ?vq3) (fun _ => Keep.refl _ _) rfl (by rfl) (by kernel_rfl) (by kernel_rfl) (by kernel_rfl) (by decide) (fun _ _ _ h => h) (by rfl) ?yq3 ?nq3
            case yq3 => intro W; go_simp; try with_reducible rfl
            try simp only [Act.put, List.setIfInBounds_toArray, List.set_cons_zero, List.set_cons_succ]
            refine stepE_any 4 (some 16) (v := ?vq4) (fun _ => Keep.refl _ _) rfl (by rfl) (by kernel_rfl) (by kernel_rfl) (by kernel_rfl) (by decide) (fun _ _ _ h => h) (by rfl) ?yq4 ?nq4
            case yq4 => intro W; go_simp; try with_reducible rfl
            try simp only [Act.put, List.setIfInBounds_toArray, List.set_cons_zero, List.set_cons_succ]
            refine stepE_any 5 (some 17) (v := ?vq5) (fun _ => Keep.refl _ _) rfl (by rfl) (by kernel_rfl) (by kernel_rfl) (by kernel_rfl) (by decide) (fun _ _ _ h => h) (by rfl) ?yq5 ?nq5
            case yq5 => intro W; go_simp; try with_reducible rfl
            try simp only [Act.put, List.setIfInBounds_toArray, List.set_cons_zero, List.set_cons_succ]
            refine stepE_any 6 (some 18) (v := ?vq6) (fun _ => Keep.refl _ _) rfl (by rfl) (by kernel_rfl) (by kernel_rfl) (by kernel_rfl) (by decide) (fun _ _ _ h => h) (by rfl) ?yq6 ?nq6
            case yq6 => intro W; go_simp; try with_reducible rfl
            try simp only [Act.put, List.setIfInBounds_toArray, List.set_cons_zero, List.set_cons_succ]
            refine stepE_any 7 (some 19) (v := ?vq7) (fun _ => Keep.refl _ _) rfl (by rfl) (by kernel_rfl) (by kernel_rfl) (by kernel_rfl) (by decide) (fun _ _ _ h => h) (by rfl) ?yq7 ?nq7
            case yq7 => intro W; go_simp; try with_reducible rfl
            try simp only [Act.put, List.setIfInBounds_toArray, List.set_cons_zero, List.set_cons_succ]
            refine stepE_any 8 (some 20) (v := ?vq8) (fun _ => Keep.refl _ _) rfl (by rfl) (by kernel_rfl) (by kernel_rfl) (by kernel_rfl) (by decide) (fun _ _ _ h => h) (by rfl) ?yq8 ?nq8
            case yq8 => intro W; go_simp; try with_reducible rfl
            try simp only [Act.put, List.setIfInBounds_toArray, List.set_cons_zero, List.set_cons_succ]
            refine stepE_read 9 24 (some 21) (v := ?vq9) (Keep.refl _ _) rfl (by rfl) (by kernel_rfl) (by kernel_rfl) (by kernel_rfl) (by kernel_rfl) (by kernel_rfl) (fun _ _ _ h => h) (by rfl) ?yq9 ?nq9
            case yq9 => intro W hW; have q := HSQ.out W hW; go_simp; try with_reducible rfl
            try simp only [Act.put, List.setIfInBounds_toArray, List.set_cons_zero, List.set_cons_succ]
            refine stepE_any 10 (some 22) (v := ?vq10) (fun _ => Keep.refl _ _) rfl (by rfl) (by kernel_rfl) (by kernel_rfl) (by kernel_rfl) (by decide) (fun _ _ _ h => h) (by rfl) ?yq10 ?nq10
            case yq10 => intro W; go_simp; try with_reducible rfl
            try simp only [Act.put, List.setIfInBounds_toArray, List.set_cons_zero, List.set_cons_succ]
            refine stepE_any 11 (some 23) (v := ?vq11) (fun _ => Keep.refl _ _) rfl (by rfl) (by kernel_rfl) (by kernel_rfl) (by kernel_rfl) (by decide) (fun _ _ _ h => h) (by rfl) ?yq11 ?nq11
            case yq11 => intro W; go_simp; try with_reducible rfl
            try simp only [Act.put, List.setIfInBounds_toArray, List.set_cons_zero, List.set_cons_succ]
            refine stepE_any 12 (some 24) (v := ?vq12) (fun _ => Keep.refl _ _) rfl (by rfl) (by kernel_rfl) (by kernel_rfl) (by kernel_rfl) (by decide) (fun _ _ _ h => h) (by rfl) ?yq12 ?nq12
            case yq12 => intro W; go_simp; try with_reducible rfl
            try simp only [Act.put, List.setIfInBounds_toArray, List.set_cons_zero, List.set_cons_succ]
            refine stepE_any 13 (some 25) (v := ?vq13) (fun _ => Keep.refl _ _) rfl (by rfl) (by kernel_rfl) (by kernel_rfl) (by kernel_rfl) (by decide) (fun _ _ _ h => h) (by rfl) ?yq13 ?nq13
            case yq13 => intro W; go_simp; try with_reducible rfl
            try simp only [Act.put, List.setIfInBounds_toArray, List.set_cons_zero, List.set_cons_succ]
            refine stepE_any 14 (some 26) (v := ?vq14) (fun _ => Keep.refl _ _) rfl (by rfl) (by kernel_rfl) (by kernel_rfl) (by kernel_rfl) (by decide) (fun _ _ _ h => h) (by rfl) ?yq14 ?nq14
            case yq14 => intro W; go_simp; try with_reducible rfl
            try simp only [Act.put, List.setIfInBounds_toArray, List.set_cons_zero, List.set_cons_succ]
            refine stepE_read 15 24 (some 27) (v := ?vq15) (Keep.refl _ _) rfl (by rfl) (by kernel_rfl) (by kernel_rfl) (by kernel_rfl) (by kernel_rfl) (by kernel_rfl) (fun _ _ _ h => h) (by rfl) ?yq15 ?nq15
            case yq15 => intro W hW; have q := HS4.out W hW; go_simp; try with_reducible rfl
            try simp only [Act.put, List.setIfInBounds_toArray, List.set_cons_zero, List.set_cons_succ]
            refine stepE_any 16 (some 28) (v := ?vq16) (fun _ => Keep.refl _ _) rfl (by rfl) (by kernel_rfl) (by kernel_rfl) (by kernel_rfl) (by decide) (fun _ _ _ h => h) (by rfl) ?yq16 ?nq16
            case yq16 => intro W; go_simp; try with_reducible rfl
            try simp only [Act.put, List.setIfInBounds_toArray, List.set_cons_zero, List.set_cons_succ]
            refine stepE_any 17 (some 29) (v := ?vq17) (fun _ => Keep.refl _ _) rfl (by rfl) (by kernel_rfl) (by kernel_rfl) (by kernel_rfl) (by decide) (fun _ _ _ h => h) (by rfl) ?yq17 ?nq17
            case yq17 => intro W; go_simp; try with_reducible rfl
            try simp only [Act.put, List.setIfInBounds_toArray, List.set_cons_zero, List.set_cons_succ]
            -- 18: pick -> 30
            refine stepE_end 18 rfl (by kernel_rfl) (by rfl) (by rfl) (fun K' hK => ?_)
            go_simp
            refine hK _ _ ?_
            clear hK K'
            refine wpAnyE_done (by kernel_rfl) ?_ _
            go_wp2
            go_ret
            exact ⟨false, rfl, RightK.no (i := j + 1) (by rw [seqs_len]; exact hlt) (fun h => by have := h.2 j rfl; rw [HSS.out, HSJ.out] at this; omega), HBL.out.trans ((HBL2.out.mono HBL.out.size).trans ⟨rfl, rfl, rfl, Nat.le_refl _, fun _ _ => rfl⟩)⟩
          · go_wp2_with fail
            refine regionE_begin 18 (fun W => Keep (fun _ => False) w2.drew W) (by kernel_rfl) ?_
            refine stepE_any 0 (some 12) (v := ?vr0) (fun _ => Keep.refl _ _) rfl (by rfl) (by kernel_rfl) (by kernel_rfl) (by kernel_rfl) (by decide) (fun _ _ _ h => h) (by rfl) ?yr0 ?nr0
            case yr0 => intro W; go_simp; try with_reducible rfl
            try simp only [Act.put, List.setIfInBounds_toArray, List.set_cons_zero, List.set_cons_succ]
            refine stepE_read 1 24 (some 13) (v := ?vr1) (Keep.refl _ _) rfl (by rfl) (by kernel_rfl) (by kernel_rfl) (by kernel_rfl) (by kernel_rfl) (by kernel_rfl) (fun _ _ _ h => h) (by rfl) ?yr1 ?nr1
            case yr1 => intro W hW; have q := HSQ.out W hW; go_simp; try with_reducible rfl
            try simp only [Act.put, List.setIfInBounds_toArray, List.set_cons_zero, List.set_cons_succ]
            -- 2: call:50 -> 14
            refine stepE_only 2 rfl (by kernel_rfl) (by rfl) (fun K' hK => ?_)
            go_simp
            refine (right_yes' s _ hs1' hs2').mono ?_
            rintro e w9 ⟨rfl, rfl⟩
            refine hK _ _ (Keep.refl _ _) ?_
            clear hK K'
            try simp only [Act.put, List.setIfInBounds_toArray, List.set_cons_zero, List.set_cons_succ]
            refine stepE_any 3 (some 15) (v := ?vr3) (fun _ => Keep.refl _ _) rfl (by rfl) (by kernel_rfl) (by kernel_rfl) (by kernel_rfl) (by decide) (fun _ _ _ h => h) (by rfl) ?yr3 ?nr3
            case yr3 => intro W; go_simp; try with_reducible rfl
            try simp only [Act.put, List.setIfInBounds_toArray, List.set_cons_zero, List.set_cons_succ]
            refine stepE_any 4 (some 16) (v := ?vr4) (fun _ => Keep.refl _ _) rfl (by rfl) (by kernel_rfl) (by kernel_rfl) (by kernel_rfl) (by decide) (fun _ _ _ h => h) (by rfl) ?yr4 ?nr4
            case yr4 => intro W; go_simp; try with_reducible rfl
            try simp only [Act.put, List.setIfInBounds_toArray, List.set_cons_zero, List.set_cons_succ]
            refine stepE_any 5 (some 17) (v := ?vr5) (fun _ => Keep.refl _ _) rfl (by rfl) (by kernel_rfl) (by kernel_rfl) (by kernel_rfl) (by decide) (fun _ _ _ h => h) (by rfl) ?yr5 ?nr5
            case yr5 => intro W; go_simp; try with_reducible rfl
            try simp only [Act.put, List.setIfInBounds_toArray, List.set_cons_zero, List.set_cons_succ]
            refine stepE_any 6 (some 18) (v := ?vr6) (fun _ => Keep.refl _ _) rfl (by rfl) (by kernel_rfl) (by kernel_rfl) (by kernel_rfl) (by decide) (fun _ _ _ h => h) (by rfl) ?yr6 ?nr6
            case yr6 => intro W; go_simp; try with_reducible rfl
            try simp only [Act.put, List.setIfInBounds_toArray, List.set_cons_zero, List.set_cons_succ]
            refine stepE_any 7 (some 19) (v := ?vr7) (fun _ => Keep.refl _ _) rfl (by rfl) (by kernel_rfl) (by kernel_rfl) (by kernel_rfl) (by decide) (fun _ _ _ h => h) (by rfl) ?yr7 ?nr7
            case yr7 => intro W; go_simp; try with_reducible rfl
            try simp only [Act.put, List.setIfInBounds_toArray, List.set_cons_zero, List.set_cons_succ]
            refine stepE_any 8 (some 20) (v := ?vr8) (fun _ => Keep.refl _ _) rfl (by rfl) (by kernel_rfl) (by kernel_rfl) (by kernel_rfl) (by decide) (fun _ _ _ h => h) (by rfl) ?yr8 ?nr8
            case yr8 => intro W; go_simp; try with_reducible rfl
            try simp only [Act.put, List.setIfInBounds_toArray, List.set_cons_zero, List.set_cons_succ]
            refine stepE_read 9 24 (some 21) (v := ?vr9) (Keep.refl _ _) rfl (by rfl) (by kernel_rfl) (by kernel_rfl) (by kernel_rfl) (by kernel_rfl) (by kernel_rfl) (fun _ _ _ h => h) (by rfl) ?yr9 ?nr9
            case yr9 => intro W hW; have q := HSQ.out W hW; go_simp; try with_reducible rfl
            try simp only [Act.put, List.setIfInBounds_toArray, List.set_cons_zero, List.set_cons_succ]
            refine stepE_any 10 (some 22) (v := ?vr10) (fun _ => Keep.refl _ _) rfl (by rfl) (by kernel_rfl) (by kernel_rfl) (by kernel_rfl) (by decide) (fun _ _ _ h => h) (by rfl) ?yr10 ?nr10
            case yr10 => intro W; go_simp; try with_reducible rfl
            try simp only [Act.put, List.setIfInBounds_toArray, List.set_cons_zero, List.set_cons_succ]
            refine stepE_any 11 (some 23) (v := ?vr11) (fun _ => Keep.refl _ _) rfl (by rfl) (by kernel_rfl) (by kernel_rfl) (by kernel_rfl) (by decide) (fun _ _ _ h => h) (by rfl) ?yr11 ?nr11
            case yr11 => intro W; go_simp; try with_reducible rfl
            try simp only [Act.put, List.setIfInBounds_toArray, List.set_cons_zero, List.set_cons_succ]
            refine stepE_any 12 (some 24) (v := ?vr12) (fun _ => Keep.refl _ _) rfl (by rfl) (by kernel_rfl) (by kernel_rfl) (by kernel_rfl) (by decide) (fun _ _ _ h => h) (by rfl) ?yr12 ?nr12
            case yr12 => intro W; go_simp; try with_reducible rfl
            try simp only [Act.put, List.setIfInBounds_toArray, List.set_cons_zero, List.set_cons_succ]
            refine stepE_any 13 (some 25) (v := ?vr13) (fun _ => Keep.refl _ _) rfl (by rfl) (by kernel_rfl) (by kernel_rfl) (by kernel_rfl) (by decide) (fun _ _ _ h => h) (by rfl) ?yr13 ?nr13
            case yr13 => intro W; go_simp; try with_reducible rfl
            try simp only [Act.put, List.setIfInBounds_toArray, List.set_cons_zero, List.set_cons_succ]
            refine stepE_any 14 (some 26) (v := ?vr14) (fun _ => Keep.refl _ _) rfl (by rfl) (by kernel_rfl) (by kernel_rfl) (by kernel_rfl) (by decide) (fun _ _ _ h => h) (by rfl) ?yr14 ?nr14
            case yr14 => intro W; go_simp; try with_reducible rfl
            try simp only [Act.put, List.setIfInBounds_toArray, List.set_cons_zero, List.set_cons_succ]
            refine stepE_read 15 24 (some 27) (v := ?vr15) (Keep.refl _ _) rfl (by rfl) (by kernel_rfl) (by kernel_rfl) (by kernel_rfl) (by kernel_rfl) (by kernel_rfl) (fun _ _ _ h => h) (by rfl) ?yr15 ?nr15
            case yr15 => intro W hW; have q := HS4.out W hW; go_simp; try with_reducible rfl
            try simp only [Act.put, List.setIfInBounds_toArray, List.set_cons_zero, List.set_cons_succ]
            refine stepE_any 16 (some 28) (v := ?vr16) (fun _ => Keep.refl _ _) rfl (by rfl) (by kernel_rfl) (by kernel_rfl) (by kernel_rfl) (by decide) (fun _ _ _ h => h) (by rfl) ?yr16 ?nr16
            case yr16 => intro W; go_simp; try with_reducible rfl
            try simp only [Act.put, List.setIfInBounds_toArray, List.set_cons_zero, List.set_cons_succ]
            refine stepE_any 17 (some 29) (v := ?vr17) (fun _ => Keep.refl _ _) rfl (by rfl) (by kernel_rfl) (by kernel_rfl) (by kernel_rfl) (by decide) (fun _ _ _ h => h) (by rfl) ?yr17 ?nr17
            case yr17 => intro W; go_simp; try with_reducible rfl
            try simp only [Act.put, List.setIfInBounds_toArray, List.set_cons_zero, List.set_cons_succ]
            -- 18: pick -> 30
            refine stepE_end 18 rfl (by kernel_rfl) (by rfl) (by rfl) (fun K' hK => ?_)
            go_simp
            refine hK _ _ ?_
            clear hK K'
            refine wpAnyE_done (by kernel_rfl) ?_ _
            go_wp2
            go_roundw
            case rel => exact ⟨j + 1 + 1, by omega, fun i hi => (by
              by_cases e : i = j + 1
              · subst e
                exact ⟨by rw [HSS.out]; exact ⟨hs1', hs2'⟩, fun j' h => (by have e : j' = j := (by omega); subst e; rw [HSS.out, HSJ.out]; omega)⟩
              · exact HI.out i (by omega)), by go_num, HBL.out.trans ((HBL2.out.mono HBL.out.size).trans ⟨rfl, rfl, rfl, Nat.le_refl _, fun _ _ => rfl⟩)⟩
            case measure => simp [intOf]; omega
      · go_wp2_with fail
        refine regionE_begin 18 (fun W => Keep (fun _ => False) w2.drew W) (by kernel_rfl) ?_
        refine stepE_any 0 (some 12) (v := ?vz0) (fun _ => Keep.refl _ _) rfl (by rfl) (by kernel_rfl) (by kernel_rfl) (by kernel_rfl) (by decide) (fun _ _ _ h => h) (by rfl) ?yz0 ?nz0
        case yz0 => intro W; go_simp; try with_reducible rfl
        try simp only [Act.put, List.setIfInBounds_toArray, List.set_cons_zero, List.set_cons_succ]
        refine stepE_read 1 24 (some 13) (v := ?vz1) (Keep.refl _ _) rfl (by rfl) (by kernel_rfl) (by kernel_rfl) (by kernel_rfl) (by kernel_rfl) (by kernel_rfl) (fun _ _ _ h => h) (by rfl) ?yz1 ?nz1
        case yz1 => intro W hW; have q := HSQ.out W hW; go_simp; try with_reducible rfl
        try simp only [Act.put, List.setIfInBounds_toArray, List.set_cons_zero, List.set_cons_succ]
        -- 2: call:50 -> 14
        refine stepE_only 2 rfl (by kernel_rfl) (by rfl) (fun K' hK => ?_)
        go_simp
        refine (right_no' s _ hw).mono ?_
        rintro e w9 ⟨rfl, rfl⟩
        refine hK _ _ (Keep.refl _ _) ?_
        clear hK K'
        try simp only [Act.put, List.setIfInBounds_toArray, List.set_cons_zero, List.set_cons_succ]
        refine stepE_any 3 (some 15) (v := ?vz3) (fun _ => Keep.refl _ _) rfl (by rfl) (by kernel_rfl) (by kernel_rfl) (by kernel_rfl) (by decide) (fun _ _ _ h => h) (by rfl) ?yz3 ?nz3
        case yz3 => intro W; go_simp; try with_reducible rfl
        try simp only [Act.put, List.setIfInBounds_toArray, List.set_cons_zero, List.set_cons_succ]
        refine stepE_any 4 (some 16) (v := ?vz4) (fun _ => Keep.refl _ _) rfl (by rfl) (by kernel_rfl) (by kernel_rfl) (by kernel_rfl) (by decide) (fun _ _ _ h => h) (by rfl) ?yz4 ?nz4
        case yz4 => intro W; go_simp; try with_reducible rfl
        try simp only [Act.put, List.setIfInBounds_toArray, List.set_cons_zero, List.set_cons_succ]
        refine stepE_skip 5 (some 17) (fun _ => Keep.refl _ _) rfl (by rfl) (by kernel_rfl) (by kernel_rfl) (by kernel_rfl) (by decide) (fun _ _ _ h => h) (by rfl) ?_
        try simp only [Act.put, List.setIfInBounds_toArray, List.set_cons_zero, List.set_cons_succ]
        refine stepE_skip 6 (some 18) (fun _ => Keep.refl _ _) rfl (by rfl) (by kernel_rfl) (by kernel_rfl) (by kernel_rfl) (by decide) (fun _ _ _ h => h) (by rfl) ?_
        try simp only [Act.put, List.setIfInBounds_toArray, List.set_cons_zero, List.set_cons_succ]
        refine stepE_skip 7 (some 19) (fun _ => Keep.refl _ _) rfl (by rfl) (by kernel_rfl) (by kernel_rfl) (by kernel_rfl) (by decide) (fun _ _ _ h => h) (by rfl) ?_
        try simp only [Act.put, List.setIfInBounds_toArray, List.set_cons_zero, List.set_cons_succ]
        refine stepE_skip 8 (some 20) (fun _ => Keep.refl _ _) rfl (by rfl) (by kernel_rfl) (by kernel_rfl) (by kernel_rfl) (by decide) (fun _ _ _ h => h) (by rfl) ?_
        try simp only [Act.put, List.setIfInBounds_toArray, List.set_cons_zero, List.set_cons_succ]
        refine stepE_skip 9 (some 21) (fun _ => Keep.refl _ _) rfl (by rfl) (by kernel_rfl) (by kernel_rfl) (by kernel_rfl) (by decide) (fun _ _ _ h => h) (by rfl) ?_
        try simp only [Act.put, List.setIfInBounds_toArray, List.set_cons_zero, List.set_cons_succ]
        refine stepE_skip 10 (some 22) (fun _ => Keep.refl _ _) rfl (by rfl) (by kernel_rfl) (by kernel_rfl) (by kernel_rfl) (by decide) (fun _ _ _ h => h) (by rfl) ?_
        try simp only [Act.put, List.setIfInBounds_toArray, List.set_cons_zero, List.set_cons_succ]
        refine stepE_skip 11 (some 23) (fun _ => Keep.refl _ _) rfl (by rfl) (by kernel_rfl) (by kernel_rfl) (by kernel_rfl) (by decide) (fun _ _ _ h => h) (by rfl) ?_
        try simp only [Act.put, List.setIfInBounds_toArray, List.set_cons_zero, List.set_cons_succ]
        refine stepE_skip 12 (some 24) (fun _ => Keep.refl _ _) rfl (by rfl) (by kernel_rfl) (by kernel_rfl) (by kernel_rfl) (by decide) (fun _ _ _ h => h) (by rfl) ?_
        try simp only [Act.put, List.setIfInBounds_toArray, List.set_cons_zero, List.set_cons_succ]
        refine stepE_skip 13 (some 25) (fun _ => Keep.refl _ _) rfl (by rfl) (by kernel_rfl) (by kernel_rfl) (by kernel_rfl) (by decide) (fun _ _ _ h => h) (by rfl) ?_
        try simp only [Act.put, List.setIfInBounds_toArray, List.set_cons_zero, List.set_cons_succ]
        refine stepE_skip 14 (some 26) (fun _ => Keep.refl _ _) rfl (by rfl) (by kernel_rfl) (by kernel_rfl) (by kernel_rfl) (by decide) (fun _ _ _ h => h) (by rfl) ?_
        try simp only [Act.put, List.setIfInBounds_toArray, List.set_cons_zero, List.set_cons_succ]
        refine stepE_skip 15 (some 27) (fun _ => Keep.refl _ _) rfl (by rfl) (by kernel_rfl) (by kernel_rfl) (by kernel_rfl) (by decide) (fun _ _ _ h => h) (by rfl) ?_
        try simp only [Act.put, List.setIfInBounds_toArray, List.set_cons_zero, List.set_cons_succ]
        refine stepE_skip 16 (some 28) (fun _ => Keep.refl _ _) rfl (by rfl) (by kernel_rfl) (by kernel_rfl) (by kernel_rfl) (by decide) (fun _ _ _ h => h) (by rfl) ?_
        try simp only [Act.put, List.setIfInBounds_toArray, List.set_cons_zero, List.set_cons_succ]
        refine stepE_skip 17 (some 29) (fun _ => Keep.refl _ _) rfl (by rfl) (by kernel_rfl) (by kernel_rfl) (by kernel_rfl) (by decide) (fun _ _ _ h => h) (by rfl) ?_
        try simp only [Act.put, List.setIfInBounds_toArray, List.set_cons_zero, List.set_cons_succ]
        -- 18: pick -> 30
        refine stepE_end 18 rfl (by kernel_rfl) (by rfl) (by rfl) (fun K' hK => ?_)
        go_simp
        refine hK _ _ ?_
        clear hK K'
        refine wpAnyE_done (by kernel_rfl) ?_ _
        go_wp2
        go_ret
        exact ⟨false, rfl, RightK.no (i := k) (by rw [seqs_len]; exact hlt) (fun h => hw (by have := h.1; rwa [HSS.out] at this)), HBL.out.trans ((HBL2.out.mono HBL.out.size).trans ⟨rfl, rfl, rfl, Nat.le_refl _, fun _ _ => rfl⟩)⟩
    · obtain rfl : k = ks.length := by omega
      go_wp2
      go_ret
      exact ⟨true, rfl, RightK.yes (by rw [seqs_len]; exact Nat.le_refl _) HI.out, hbel⟩
end Go.Proofs.Ytnjmlkohgbbafaa.K
