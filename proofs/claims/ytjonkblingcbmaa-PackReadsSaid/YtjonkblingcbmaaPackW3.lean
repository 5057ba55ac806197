/- The walk of PackParts: it returns true, and writes nothing that was there. -/
import Derived.Test.YtjonkblingcbmaaPackE
import Derived.Test.YtjonkblingcbmaaRegion
namespace Go.Proofs.Ytjonkblingcbmaa.K
open Go.ChangeShapes Go.WideShapes Go.ChangeAt Go.RowKit
set_option linter.unusedVariables false

theorem getD_u64 {ys : List Int} (h : ∀ n ∈ ys, (Lit.int .u64 n).wf = true) (j : Nat) (hj : j < ys.length) : 0 ≤ ys.getD j 0 ∧ ys.getD j 0 ≤ 18446744073709551615 := by
  have := bounds_u64 (h (ys.getD j 0) (by simp [List.getD, hj]))
  omega

theorem info_u64 : (Try.prog.info? 30).map (fun i => (i.zero, i.size, i.bytes)) = some (some (.int .u64 0), 1, 8) := by kernel_rfl

theorem IsNums.drew {k : IntKind} {w : World} {v : Value} {zs : List Int} (h : IsNums k w v zs) : IsNums k w.drew v zs := h.below (Below.refl w.heap.size w).drew (Nat.le_refl _)

theorem conv_at {w W : World} {v : Value} {bs : List Int} (h : IsNums .u8 w v bs) (hW : Below w.heap.size w W) : (convert 22 9 v).run Try.prog W = .ok (.string (strOfNums bs)) W :=
  conv_str (h.below hW (Nat.le_refl _)) 22 5 Try.underlying22 Try.underlying5 9 Try.underlying9

theorem put_is (v : Value) (ns : List Int) (w : World) (hv : IsNums .u64 w v ns) (hb : ∀ j, j < ns.length → 0 ≤ ns.getD j 0 ∧ ns.getD j 0 ≤ 18446744073709551615) (hl : ns.length ≤ 1000) (S : List Int) (n : Nat) (hS : encs ns = S) (hn : S.length = n) :
    Calls Try.prog 12 #[v] w fun e w' => ∃ p c, e = .returned (.slice p n c) ∧ IsNums .u8 w' (.slice p n c) S ∧ Below w.heap.size w w' := by
  subst hS; subst hn
  refine (put_any v ns w hv hb hl).mono fun e w' h => ?_
  obtain ⟨u, rfl, hown, hbel⟩ := h
  have hN := IsNums.ofOwn hown
  obtain ⟨p, c, rfl, -⟩ := id hN
  exact ⟨p, c, rfl, hN, hbel⟩

theorem join_is (v : Value) (ls : List (List Int)) (w : World) (hv : IsLists w v ls) (hl : ls.length ≤ 1000) (hs : sumLen ls ≤ 1000000) (S : List Int) (n : Nat) (hS : ls.flatten = S) (hn : S.length = n) :
    Calls Try.prog 11 #[v] w fun e w' => ∃ p c, e = .returned (.slice p n c) ∧ IsNums .u8 w' (.slice p n c) S ∧ Below w.heap.size w w' := by
  subst hS; subst hn
  refine (join_any v ls w hv hl hs).mono fun e w' h => ?_
  obtain ⟨u, rfl, hown, hbel⟩ := h
  have hN := IsNums.ofOwn hown
  obtain ⟨p, c, rfl, -⟩ := id hN
  exact ⟨p, c, rfl, hN, hbel⟩

theorem IsLists.nil (w : World) (a : Option Addr) (c : Nat) : IsLists w (.slice a 0 c) [] := ⟨a, c, rfl, .inl rfl⟩

theorem IsNums.after {k : IntKind} {w w' : World} {v : Value} {zs : List Int} {o : Obj} (h : IsNums k w v zs) (hb : Below (w.alloc o).heap.size (w.alloc o) w') : IsNums k w' v zs := (h.alloc o).below hb (Nat.le_refl _)

theorem lists2 {w : World} {p q : Option Addr} {n m c d : Nat} {S1 S2 : List Int} {T : TypeId} (h1 : IsNums .u8 w (.slice p n c) S1) (h2 : IsNums .u8 w (.slice q m d) S2) :
    IsLists (w.alloc (.cells #[.slice p n c, .slice q m d] T)) (.slice (some ⟨w.heap.size, 0, none⟩) 2 2) [S1, S2] :=
  IsLists.lit w [.slice p n c, .slice q m d] [S1, S2] _ T 2 2 rfl rfl rfl (fun j hj => by
    match j, hj with
    | 0, _ => exact h1
    | 1, _ => exact h2)

set_option maxRecDepth 100000 in
set_option maxHeartbeats 4000000 in
theorem parts_walk (v0 v1 : Value) (a b : List Int) (w : World) (h0 : IsNums .u64 w v0 a) (h1 : IsNums .u64 w v1 b) (f0 : ∀ j, j < a.length → 0 ≤ a.getD j 0 ∧ a.getD j 0 ≤ 18446744073709551615) (f1 : ∀ j, j < b.length → 0 ≤ b.getD j 0 ∧ b.getD j 0 ≤ 18446744073709551615) (m0 : a.length ≤ maxLen) (m1 : b.length ≤ maxLen) :
    Calls Try.prog 7 #[v0, v1] w fun e w' => e = .returned (.bool true) ∧ Below w.heap.size w w' := by
  unfold maxLen at m0 m1
  obtain ⟨p0, c0, rfl, -⟩ := id h0
  obtain ⟨p1, c1, rfl, -⟩ := id h1
  have H0 := Lib.hid h0
  have H1 := Lib.hid h1
  have F0 := Lib.hid f0
  have F1 := Lib.hid f1
  clear h0 h1 f0 f1
  by_cases q : 20 < a.length ∨ 20 < b.length
  · by_cases q1 : 20 < a.length <;> by_cases q2 : 20 < b.length <;> (first | (exfalso; omega) | (clear q; go_enter Try.func7, Try.ntmps7; go_wp2_with (go_at_call 8; refine (known_true _).mono ?_; rintro e v ⟨rfl, hb⟩); go_ret; exact ⟨rfl, hb⟩))
  have q1 : ¬ 20 < a.length := by omega
  have q2 : ¬ 20 < b.length := by omega
  clear q
  go_enter Try.func7, Try.ntmps7
  go_wp2_with fail
  refine (known_true _).mono ?_
  rintro en w1 ⟨rfl, hb1⟩
  have H01 := Lib.hid (H0.out.below hb1 (Nat.le_refl _))
  have H11 := Lib.hid (H1.out.below hb1 (Nat.le_refl _))
  go_wp2_with (first | (at_builtin; refine wpList_appN rfl _ _ 23 rfl w1.heap.size 30 .u64 8 Try.underlying23 info_u64 (by omega) _ _ _ rfl hown2 _ b rfl (H11.out.below hb2 (Nat.le_refl _)) (by omega) hb2.size ?_; intro v3 w3 hown3 hb3) | (at_builtin; refine wpList_appN rfl _ _ 23 rfl w1.heap.size 30 .u64 8 Try.underlying23 info_u64 (by omega) (.slice none 0 0) 0 [] rfl (World.ownsRow_nil _ _ _ _) _ a rfl H01.out (by omega) (Nat.le_refl _) ?_; intro v2 w2 hown2 hb2))
  have hB3 : Below w.heap.size w w3 := hb1.trans ((hb2.trans hb3).mono hb1.size)
  have hall : IsNums .u64 w3 v3 (a ++ b) := IsNums.ofOwn (B := w1.heap.size) (e := 30) (n := 0 + a.length + b.length) (by simpa using hown3)
  have hw13 : Below w1.heap.size w1 w3 := hb2.trans hb3
  have HA := Lib.hid (H01.out.below hw13 (Nat.le_refl _)).drew
  have HB := Lib.hid (H11.out.below hw13 (Nat.le_refl _)).drew
  have fall : ∀ j, j < (a ++ b).length → 0 ≤ (a ++ b).getD j 0 ∧ (a ++ b).getD j 0 ≤ 18446744073709551615 := by
    intro j hj
    simp only [List.length_append] at hj
    by_cases e : j < a.length
    · have := F0.out j e
      simpa [List.getD, List.getElem?_append, e] using this
    · have := F1.out (j - a.length) (by omega)
      simpa [List.getD, List.getElem?_append, e] using this
  have hE : encs (a ++ b) = encs a ++ encs b := encs_append a b
  have hla : (a ++ b).length ≤ 40 := by simp; omega
  obtain ⟨ab, hab⟩ : ∃ ab, a ++ b = ab := ⟨_, rfl⟩
  rw [hab] at hall fall hE hla
  obtain ⟨pa, ca, rfl, -⟩ := id hall
  have HC := Lib.hid hall.drew
  have hBd := hB3.drew
  have FA := Lib.hid fall
  have hL1 := encs_len a
  have hL2 := encs_len b
  have hL3 := encs_len ab
  have HE := Lib.hid hE
  obtain ⟨S, hS⟩ : ∃ S, encs ab = S := ⟨_, rfl⟩
  obtain ⟨S1, hS1⟩ : ∃ S, encs a = S := ⟨_, rfl⟩
  obtain ⟨S2, hS2⟩ : ∃ S, encs b = S := ⟨_, rfl⟩
  rw [hS1] at hL1
  rw [hS2] at hL2
  rw [hS] at hL3
  have HSS := Lib.hid (show S1 ++ S2 = S by rw [← hS, ← hS1, ← hS2, hE])
  have HS := Lib.hid hS
  have HS1 := Lib.hid hS1
  have HS2 := Lib.hid hS2
  clear hb1 hb2 hb3 hB3 hall hw13 fall hE hS hS1 hS2 hown2 hown3 H0 H1 H01 H11 hab
  go_wp2_with fail
  refine region_begin (by kernel_rfl) ?_
  refine step_read 0 (some 20) (v := ?v0) rfl (by rfl) (by kernel_rfl) (by kernel_rfl) (by kernel_rfl) (fun _ _ _ h => h) (by rfl) ?y0 ?n0
  case y0 => intro W hW; go_simp; try with_reducible rfl
  try simp only [Act.put, List.setIfInBounds_toArray, List.set_cons_zero, List.set_cons_succ]
  refine step_read 3 (some 23) (v := ?v3) rfl (by rfl) (by kernel_rfl) (by kernel_rfl) (by kernel_rfl) (fun _ _ _ h => h) (by rfl) ?y3 ?n3
  case y3 => intro W hW; go_simp; try with_reducible rfl
  try simp only [Act.put, List.setIfInBounds_toArray, List.set_cons_zero, List.set_cons_succ]
  refine step_read 5 (some 25) (v := ?v5) rfl (by rfl) (by kernel_rfl) (by kernel_rfl) (by kernel_rfl) (fun _ _ _ h => h) (by rfl) ?y5 ?n5
  case y5 => intro W hW; go_simp; try with_reducible rfl
  try simp only [Act.put, List.setIfInBounds_toArray, List.set_cons_zero, List.set_cons_succ]
  -- 1: call:12 -> 21
  refine step_only 1 rfl (by kernel_rfl) (by rfl) (fun K' hK => ?_)
  go_simp
  go_at_call 12
  refine (put_is _ ab _ HC.out FA.out (by omega) S S.length HS.out rfl).mono ?_
  rintro e x ⟨p21, c21, rfl, kk, bx⟩
  refine hK _ _ bx ?_
  replace hBd := hBd.trans (bx.mono hBd.size)
  replace HA := Lib.hid (HA.out.below bx (Nat.le_refl _))
  replace HB := Lib.hid (HB.out.below bx (Nat.le_refl _))
  replace HC := Lib.hid (HC.out.below bx (Nat.le_refl _))
  have K21 := Lib.hid kk
  clear kk bx
  clear hK K'
  try simp only [Act.put, List.setIfInBounds_toArray, List.set_cons_zero, List.set_cons_succ]
  refine step_read 2 (some 22) (v := ?v2) rfl (by rfl) (by kernel_rfl) (by kernel_rfl) (by kernel_rfl) (fun _ _ _ h => h) (by rfl) ?y2 ?n2
  case y2 => intro W hW; have ec := conv_at K21.out hW; go_simp; try with_reducible rfl
  try simp only [Act.put, List.setIfInBounds_toArray, List.set_cons_zero, List.set_cons_succ]
  -- 4: call:12 -> 24
  refine step_only 4 rfl (by kernel_rfl) (by rfl) (fun K' hK => ?_)
  go_simp
  go_at_call 12
  refine (put_is _ a _ HA.out F0.out (by omega) S1 S1.length HS1.out rfl).mono ?_
  rintro e x ⟨p24, c24, rfl, kk, bx⟩
  refine hK _ _ bx ?_
  replace hBd := hBd.trans (bx.mono hBd.size)
  replace HA := Lib.hid (HA.out.below bx (Nat.le_refl _))
  replace HB := Lib.hid (HB.out.below bx (Nat.le_refl _))
  replace HC := Lib.hid (HC.out.below bx (Nat.le_refl _))
  have K24 := Lib.hid kk
  clear kk bx
  clear hK K'
  try simp only [Act.put, List.setIfInBounds_toArray, List.set_cons_zero, List.set_cons_succ]
  -- 6: call:12 -> 26
  refine step_only 6 rfl (by kernel_rfl) (by rfl) (fun K' hK => ?_)
  go_simp
  go_at_call 12
  refine (put_is _ b _ HB.out F1.out (by omega) S2 S2.length HS2.out rfl).mono ?_
  rintro e x ⟨p26, c26, rfl, kk, bx⟩
  refine hK _ _ bx ?_
  replace hBd := hBd.trans (bx.mono hBd.size)
  replace HA := Lib.hid (HA.out.below bx (Nat.le_refl _))
  replace HB := Lib.hid (HB.out.below bx (Nat.le_refl _))
  replace HC := Lib.hid (HC.out.below bx (Nat.le_refl _))
  replace K24 := Lib.hid (K24.out.below bx (Nat.le_refl _))
  have K26 := Lib.hid kk
  clear kk bx
  clear hK K'
  try simp only [Act.put, List.setIfInBounds_toArray, List.set_cons_zero, List.set_cons_succ]
  -- 7: buildSlice -> 27
  refine step_only 7 rfl (by kernel_rfl) (by rfl) (fun K' hK => ?_)
  go_simp
  refine hK _ _ ((Below.refl _ _).alloc (Nat.le_refl _) _) ?_
  clear hK K'
  try simp only [Act.put, List.setIfInBounds_toArray, List.set_cons_zero, List.set_cons_succ]
  -- 8: call:11 -> 28
  refine step_only 8 rfl (by kernel_rfl) (by rfl) (fun K' hK => ?_)
  go_simp
  go_at_call 11
  refine (join_is _ [S1, S2] _ (lists2 K24.out K26.out) (by simp) (by simp [sumLen]; omega) S S.length (by simpa using HSS.out) rfl).mono ?_
  rintro e x ⟨p28, c28, rfl, kk, bx⟩
  refine hK _ _ bx ?_
  replace hBd := (hBd.alloc hBd.size _).trans (bx.mono (by have := hBd.size; simp; omega))
  replace HA := Lib.hid (HA.out.after bx)
  replace HB := Lib.hid (HB.out.after bx)
  replace HC := Lib.hid (HC.out.after bx)
  have K28 := Lib.hid kk
  clear kk bx
  clear hK K'
  try simp only [Act.put, List.setIfInBounds_toArray, List.set_cons_zero, List.set_cons_succ]
  refine step_read 9 (some 29) (v := ?v9) rfl (by rfl) (by kernel_rfl) (by kernel_rfl) (by kernel_rfl) (fun _ _ _ h => h) (by rfl) ?y9 ?n9
  case y9 => intro W hW; have ec := conv_at K28.out hW; go_simp; try with_reducible rfl
  try simp only [Act.put, List.setIfInBounds_toArray, List.set_cons_zero, List.set_cons_succ]
  refine step_read 10 (some 30) (v := ?v10) rfl (by rfl) (by kernel_rfl) (by kernel_rfl) (by kernel_rfl) (fun _ _ _ h => h) (by rfl) ?y10 ?n10
  case y10 => intro W hW; go_simp; try with_reducible rfl
  try simp only [Act.put, List.setIfInBounds_toArray, List.set_cons_zero, List.set_cons_succ]
  refine step_read 11 (some 31) (v := ?v11) rfl (by rfl) (by kernel_rfl) (by kernel_rfl) (by kernel_rfl) (fun _ _ _ h => h) (by rfl) ?y11 ?n11
  case y11 => intro W hW; go_simp; try with_reducible rfl
  try simp only [Act.put, List.setIfInBounds_toArray, List.set_cons_zero, List.set_cons_succ]
  refine step_read 12 (some 32) (v := ?v12) rfl (by rfl) (by kernel_rfl) (by kernel_rfl) (by kernel_rfl) (fun _ _ _ h => h) (by rfl) ?y12 ?n12
  case y12 => intro W hW; go_simp; try with_reducible rfl
  try simp only [Act.put, List.setIfInBounds_toArray, List.set_cons_zero, List.set_cons_succ]
  refine step_read 17 (some 37) (v := ?v17) rfl (by rfl) (by kernel_rfl) (by kernel_rfl) (by kernel_rfl) (fun _ _ _ h => h) (by rfl) ?y17 ?n17
  case y17 => intro W hW; go_simp; try with_reducible rfl
  try simp only [Act.put, List.setIfInBounds_toArray, List.set_cons_zero, List.set_cons_succ]
  -- 13: call:12 -> 33
  refine step_only 13 rfl (by kernel_rfl) (by rfl) (fun K' hK => ?_)
  go_simp
  go_at_call 12
  refine (put_is _ ab _ HC.out FA.out (by omega) S S.length HS.out rfl).mono ?_
  rintro e x ⟨p33, c33, rfl, kk, bx⟩
  refine hK _ _ bx ?_
  replace hBd := hBd.trans (bx.mono hBd.size)
  replace HA := Lib.hid (HA.out.below bx (Nat.le_refl _))
  replace HB := Lib.hid (HB.out.below bx (Nat.le_refl _))
  replace HC := Lib.hid (HC.out.below bx (Nat.le_refl _))
  have K33 := Lib.hid kk
  clear kk bx
  clear hK K'
  try simp only [Act.put, List.setIfInBounds_toArray, List.set_cons_zero, List.set_cons_succ]
  -- 14: buildSlice -> 34
  refine step_only 14 rfl (by kernel_rfl) (by rfl) (fun K' hK => ?_)
  go_simp
  refine hK _ _ ((Below.refl _ _).alloc (Nat.le_refl _) _) ?_
  clear hK K'
  try simp only [Act.put, List.setIfInBounds_toArray, List.set_cons_zero, List.set_cons_succ]
  -- 15: call:11 -> 35
  refine step_only 15 rfl (by kernel_rfl) (by rfl) (fun K' hK => ?_)
  go_simp
  go_at_call 11
  refine (join_is _ [S] _ (IsLists.one _ _ _ _ _ rfl K33.out) (by simp) (by simp [sumLen]; omega) S S.length (by simp) rfl).mono ?_
  rintro e x ⟨p35, c35, rfl, kk, bx⟩
  refine hK _ _ bx ?_
  replace hBd := (hBd.alloc hBd.size _).trans (bx.mono (by have := hBd.size; simp; omega))
  replace HA := Lib.hid (HA.out.after bx)
  replace HB := Lib.hid (HB.out.after bx)
  replace HC := Lib.hid (HC.out.after bx)
  have K35 := Lib.hid kk
  clear kk bx
  clear hK K'
  try simp only [Act.put, List.setIfInBounds_toArray, List.set_cons_zero, List.set_cons_succ]
  refine step_read 16 (some 36) (v := ?v16) rfl (by rfl) (by kernel_rfl) (by kernel_rfl) (by kernel_rfl) (fun _ _ _ h => h) (by rfl) ?y16 ?n16
  case y16 => intro W hW; have ec := conv_at K35.out hW; go_simp; try with_reducible rfl
  try simp only [Act.put, List.setIfInBounds_toArray, List.set_cons_zero, List.set_cons_succ]
  -- 18: call:12 -> 38
  refine step_only 18 rfl (by kernel_rfl) (by rfl) (fun K' hK => ?_)
  go_simp
  go_at_call 12
  refine (put_is _ ab _ HC.out FA.out (by omega) S S.length HS.out rfl).mono ?_
  rintro e x ⟨p38, c38, rfl, kk, bx⟩
  refine hK _ _ bx ?_
  replace hBd := hBd.trans (bx.mono hBd.size)
  replace HA := Lib.hid (HA.out.below bx (Nat.le_refl _))
  replace HB := Lib.hid (HB.out.below bx (Nat.le_refl _))
  replace HC := Lib.hid (HC.out.below bx (Nat.le_refl _))
  replace K35 := Lib.hid (K35.out.below bx (Nat.le_refl _))
  have K38 := Lib.hid kk
  clear kk bx
  clear hK K'
  try simp only [Act.put, List.setIfInBounds_toArray, List.set_cons_zero, List.set_cons_succ]
  refine step_read 19 (some 39) (v := ?v19) rfl (by rfl) (by kernel_rfl) (by kernel_rfl) (by kernel_rfl) (fun _ _ _ h => h) (by rfl) ?y19 ?n19
  case y19 => intro W hW; have ec := conv_at K38.out hW; go_simp; try with_reducible rfl
  try simp only [Act.put, List.setIfInBounds_toArray, List.set_cons_zero, List.set_cons_succ]
  refine step_read 20 (some 40) (v := ?v20) rfl (by rfl) (by kernel_rfl) (by kernel_rfl) (by kernel_rfl) (fun _ _ _ h => h) (by rfl) ?y20 ?n20
  case y20 => intro W hW; go_simp; try with_reducible rfl
  try simp only [Act.put, List.setIfInBounds_toArray, List.set_cons_zero, List.set_cons_succ]
  refine step_read 21 (some 41) (v := ?v21) rfl (by rfl) (by kernel_rfl) (by kernel_rfl) (by kernel_rfl) (fun _ _ _ h => h) (by rfl) ?y21 ?n21
  case y21 => intro W hW; go_simp; try with_reducible rfl
  try simp only [Act.put, List.setIfInBounds_toArray, List.set_cons_zero, List.set_cons_succ]
  refine step_read 22 (some 42) (v := ?v22) rfl (by rfl) (by kernel_rfl) (by kernel_rfl) (by kernel_rfl) (fun _ _ _ h => h) (by rfl) ?y22 ?n22
  case y22 => intro W hW; go_simp; try with_reducible rfl
  try simp only [Act.put, List.setIfInBounds_toArray, List.set_cons_zero, List.set_cons_succ]
  -- 23: call:11 -> 43
  refine step_only 23 rfl (by kernel_rfl) (by rfl) (fun K' hK => ?_)
  go_simp
  go_at_call 11
  refine (join_is _ [] _ (IsLists.nil _ _ _) (by simp) (by simp [sumLen]) [] 0 rfl rfl).mono ?_
  rintro e x ⟨p43, c43, rfl, kk, bx⟩
  refine hK _ _ bx ?_
  replace hBd := hBd.trans (bx.mono hBd.size)
  replace HA := Lib.hid (HA.out.below bx (Nat.le_refl _))
  replace HB := Lib.hid (HB.out.below bx (Nat.le_refl _))
  replace HC := Lib.hid (HC.out.below bx (Nat.le_refl _))
  have K43 := Lib.hid kk
  clear kk bx
  clear hK K'
  try simp only [Act.put, List.setIfInBounds_toArray, List.set_cons_zero, List.set_cons_succ]
  refine step_read 24 (some 44) (v := ?v24) rfl (by rfl) (by kernel_rfl) (by kernel_rfl) (by kernel_rfl) (fun _ _ _ h => h) (by rfl) ?y24 ?n24
  case y24 => intro W hW; go_simp; try with_reducible rfl
  try simp only [Act.put, List.setIfInBounds_toArray, List.set_cons_zero, List.set_cons_succ]
  refine step_read 25 (some 45) (v := ?v25) rfl (by rfl) (by kernel_rfl) (by kernel_rfl) (by kernel_rfl) (fun _ _ _ h => h) (by rfl) ?y25 ?n25
  case y25 => intro W hW; go_simp; try with_reducible rfl
  try simp only [Act.put, List.setIfInBounds_toArray, List.set_cons_zero, List.set_cons_succ]
  refine step_read 26 (some 46) (v := ?v26) rfl (by rfl) (by kernel_rfl) (by kernel_rfl) (by kernel_rfl) (fun _ _ _ h => h) (by rfl) ?y26 ?n26
  case y26 => intro W hW; go_simp; try with_reducible rfl
  try simp only [Act.put, List.setIfInBounds_toArray, List.set_cons_zero, List.set_cons_succ]
  refine step_read 27 (some 4) (v := ?v27) rfl (by rfl) (by kernel_rfl) (by kernel_rfl) (by kernel_rfl) (fun _ _ _ h => h) (by rfl) ?y27 ?n27
  case y27 => intro W hW; go_simp; try with_reducible rfl
  try simp only [Act.put, List.setIfInBounds_toArray, List.set_cons_zero, List.set_cons_succ]
  refine wpAnyH_done (by kernel_rfl) ?_ _
  go_wp2
  go_ret
  exact ⟨rfl, hBd⟩

end Go.Proofs.Ytjonkblingcbmaa.K
