/- The walk of CrcParts: it returns true, and writes nothing that was there. -/
import Derived.Test.YtgilcneebkmmhaaDoorCrcM
import Derived.Test.YtgilcneebkmmhaaDoorFork
namespace Go.Proofs.YtgilcneebkmmhaaDoor.K
open Go.ChangeShapes Go.WideShapes Go.ChangeAt Go.RowKit
set_option linter.unusedVariables false

theorem lists1 {w W : World} {v : Value} {bs : List Int} (h : IsNums .u8 w v bs) (hW : Ext w W) (T : TypeId) (N : Nat) (hN : N = W.heap.size) : IsLists (W.alloc (.cells #[v] T)) (.slice (some ⟨N, 0, none⟩) 1 1) [bs] :=
  IsLists.one (h.below hW (Nat.le_refl _)) N hN T
theorem lists3 {w W : World} {a b c : Value} {A B C : List Int} (ha : IsNums .u8 w a A) (hb : IsNums .u8 w b B) (hc : IsNums .u8 w c C) (hW : Ext w W) (T : TypeId) (N : Nat) (hN : N = W.heap.size) : IsLists (W.alloc (.cells #[a, b, c] T)) (.slice (some ⟨N, 0, none⟩) 3 3) [A, B, C] :=
  IsLists.lit W [a, b, c] [A, B, C] N T 3 3 hN rfl rfl (fun j hj => by
    match j, hj with
    | 0, _ => exact ha.below hW (Nat.le_refl _)
    | 1, _ => exact hb.below hW (Nat.le_refl _)
    | 2, _ => exact hc.below hW (Nat.le_refl _))
theorem IsLists.below {B : Nat} {w w' : World} {v : Value} {ls : List (List Int)} (h : IsLists w v ls) (hb : Below B w w') (hB : w.heap.size ≤ B) : IsLists w' v ls := by
  obtain ⟨a, c, rfl, h | ⟨b, off, rfl, h1, h2⟩⟩ := h
  · exact ⟨a, c, rfl, .inl h⟩
  · refine ⟨_, c, rfl, .inr ⟨b, off, rfl, by have := hb.size; omega, fun j hj => ?_⟩⟩
    obtain ⟨u, hu, hn⟩ := h2 j hj
    exact ⟨u, by rw [hb.cell (by show b < B; omega)]; exact hu, hn.below hb hB⟩
theorem extAlloc (W : World) (o : Obj) : Ext W (W.alloc o) := (Below.refl _ W).alloc (Nat.le_refl _) o
theorem bytes_sub {bs l : List Int} (h : Bytes bs) (hs : ∀ x ∈ l, x ∈ bs) : Bytes l := fun j hj => h.mem (l.getD j 0) (hs _ (by simp [List.getD, hj]))
theorem small1 {bs : List Int} (h : Bytes bs) (hl : bs.length ≤ 200) : Small [bs] := by
  intro j hj
  obtain rfl : j = 0 := by simpa using hj
  exact ⟨h, by show bs.length ≤ _; omega⟩
theorem small3 {a b c : List Int} (ha : Bytes a) (hb : Bytes b) (hc : Bytes c) (la : a.length ≤ 200) (lb : b.length ≤ 200) (lc : c.length ≤ 200) : Small [a, b, c] := by
  intro j hj
  match j, hj with
  | 0, _ => exact ⟨ha, by show a.length ≤ _; omega⟩
  | 1, _ => exact ⟨hb, by show b.length ≤ _; omega⟩
  | 2, _ => exact ⟨hc, by show c.length ≤ _; omega⟩

set_option maxRecDepth 100000 in
set_option maxHeartbeats 4000000 in
theorem parts_walk (p : Option Addr) (n cc : Nat) (bs : List Int) (i j : Int) (w : World) (hT : TabOk w) (hw : 1 ≤ w.heap.size) (h0 : IsNums .u8 w (.slice p n cc) bs) (hl : bs.length = n) (hcc : n ≤ cc) (hb : Bytes bs) (hm : n ≤ maxLen) (hi : 0 ≤ i ∧ i ≤ 255) (hj : 0 ≤ j ∧ j ≤ 255) :
    Calls Tryd.prog 5 #[.slice p n cc, .int .u8 i, .int .u8 j] w fun e w' => e = .returned (.bool true) ∧ Below w.heap.size w w' := by
  unfold maxLen at hm
  have HT := Lib.hid hT
  have H0 := Lib.hid h0
  have HB := Lib.hid hb
  clear hT h0 hb
  by_cases q : 200 < n
  · go_enter Tryd.func5, Tryd.ntmps5
    go_wp2_with fail
    refine (known_true _ HT.out hw).mono ?_
    rintro en w1 ⟨rfl, hb1⟩
    go_wp2
    go_ret
    exact ⟨rfl, hb1⟩
  go_enter Tryd.func5, Tryd.ntmps5
  go_wp2_with fail
  refine (known_true _ HT.out hw).mono ?_
  rintro en w1 ⟨rfl, hb1⟩
  obtain ⟨X, hX⟩ : ∃ X : Nat, i % ((n : Int) + 1) = (X : Int) := ⟨(i % ((n : Int) + 1)).toNat, by have := Int.emod_nonneg i (show (n : Int) + 1 ≠ 0 by omega); omega⟩
  have hXn : X ≤ n := by have := Int.emod_lt_of_pos i (show (0 : Int) < (n : Int) + 1 by omega); omega
  obtain ⟨Z, hZ⟩ : ∃ Z : Nat, j % ((n : Int) - (X : Int) + 1) = (Z : Int) := ⟨(j % ((n : Int) - (X : Int) + 1)).toNat, by have := Int.emod_nonneg j (show (n : Int) - (X : Int) + 1 ≠ 0 by omega); omega⟩
  have hZn : X + Z ≤ n := by have := Int.emod_lt_of_pos j (show (0 : Int) < (n : Int) - (X : Int) + 1 by omega); omega
  obtain ⟨Y, hY⟩ : ∃ Y, X + Z = Y := ⟨_, rfl⟩
  have HU := Lib.hid (H0.out.below (hb1.trans ((Below.refl _ w1).drew.mono hb1.size)) (Nat.le_refl _))
  have HTU := Lib.hid (HT.out.below (hb1.trans ((Below.refl _ w1).drew.mono hb1.size)) hw)
  have hBd : Below w.heap.size w w1.drew := hb1.drew
  have hs1 : 1 ≤ w1.drew.heap.size := by have := hBd.size; omega
  have NA := Lib.hid (slice_take HU.out X hXn cc)
  have NB := Lib.hid (slice_part HU.out hcc X Y (by omega) (by omega) (cc - X) (Y - X) rfl)
  have NC := Lib.hid (show IsNums .u8 w1.drew (.slice (if cc = Y then p else Option.map (fun x => x.add Y) p) (n - Y) (cc - Y)) (bs.drop Y) from by
    have h := slice_part HU.out hcc Y n (by omega) (by omega) (cc - Y) (n - Y) rfl
    rw [← hl, List.take_length] at h; rw [← hl]; exact h)
  have ND := Lib.hid (show IsNums .u8 w1.drew (.slice (if cc = X then p else Option.map (fun x => x.add X) p) (n - X) (cc - X)) (bs.drop X) from by
    have h := slice_part HU.out hcc X n (by omega) (by omega) (cc - X) (n - X) rfl
    rw [← hl, List.take_length] at h; rw [← hl]; exact h)
  have BA := Lib.hid (bytes_sub HB.out (fun x hx => List.mem_of_mem_take hx) : Bytes (bs.take X))
  have BB := Lib.hid (bytes_sub HB.out (fun x hx => List.mem_of_mem_take (List.mem_of_mem_drop hx)) : Bytes ((bs.take Y).drop X))
  have BC := Lib.hid (bytes_sub HB.out (fun x hx => List.mem_of_mem_drop hx) : Bytes (bs.drop Y))
  have BD := Lib.hid (bytes_sub HB.out (fun x hx => List.mem_of_mem_drop hx) : Bytes (bs.drop X))
  have S3 := Lib.hid (small3 BA.out BB.out BC.out (by simp; omega) (by simp; omega) (by simp; omega))
  have S1 := Lib.hid (small1 HB.out (by omega))
  have SA := Lib.hid (small1 BA.out (by simp; omega))
  have SN := Lib.hid (small3 HB.out (fun j hj => by simp at hj : Bytes []) (fun j hj => by simp at hj : Bytes []) (by omega) (by simp) (by simp))
  obtain ⟨S, hS⟩ : ∃ S, sumC [bs] = S := ⟨_, rfl⟩
  have E1 := Lib.hid hS
  have E3 := Lib.hid ((sum_parts bs X Y (by omega)).trans hS)
  have EN := Lib.hid ((sum_nils bs).trans hS)
  have EM := Lib.hid ((more_sum bs X).trans hS)
  clear hS
  go_wp2_with fail
  rw [hX, hZ, show (X : Int) + (Z : Int) = (Y : Int) by omega]
  clear hX hZ H0 HT hb1
  refine region_begin (by kernel_rfl) ?_
  refine step_read 0 (some 30) (v := ?v0) rfl (by rfl) (by kernel_rfl) (by kernel_rfl) (by kernel_rfl) (fun _ _ _ h => h) (by rfl) ?y0 ?n0
  case y0 => intro W hW; go_simp; try with_reducible rfl
  try simp only [Act.put, List.setIfInBounds_toArray, List.set_cons_zero, List.set_cons_succ]
  refine step_read 3 (some 33) (v := ?v3) rfl (by rfl) (by kernel_rfl) (by kernel_rfl) (by kernel_rfl) (fun _ _ _ h => h) (by rfl) ?y3 ?n3
  case y3 => intro W hW; go_simp; try with_reducible rfl
  try simp only [Act.put, List.setIfInBounds_toArray, List.set_cons_zero, List.set_cons_succ]
  refine step_read 4 (some 34) (v := ?v4) rfl (by rfl) (by kernel_rfl) (by kernel_rfl) (by kernel_rfl) (fun _ _ _ h => h) (by rfl) ?y4 ?n4
  case y4 => intro W hW; go_simp; try with_reducible rfl
  try simp only [Act.put, List.setIfInBounds_toArray, List.set_cons_zero, List.set_cons_succ]
  refine step_read 5 (some 35) (v := ?v5) rfl (by rfl) (by kernel_rfl) (by kernel_rfl) (by kernel_rfl) (fun _ _ _ h => h) (by rfl) ?y5 ?n5
  case y5 => intro W hW; go_simp; rw [if_pos (by omega)]; try with_reducible rfl
  try simp only [Act.put, List.setIfInBounds_toArray, List.set_cons_zero, List.set_cons_succ]
  refine step_read 6 (some 36) (v := ?v6) rfl (by rfl) (by kernel_rfl) (by kernel_rfl) (by kernel_rfl) (fun _ _ _ h => h) (by rfl) ?y6 ?n6
  case y6 => intro W hW; go_simp; try with_reducible rfl
  try simp only [Act.put, List.setIfInBounds_toArray, List.set_cons_zero, List.set_cons_succ]
  refine step_read 7 (some 37) (v := ?v7) rfl (by rfl) (by kernel_rfl) (by kernel_rfl) (by kernel_rfl) (fun _ _ _ h => h) (by rfl) ?y7 ?n7
  case y7 => intro W hW; go_simp; try with_reducible rfl
  try simp only [Act.put, List.setIfInBounds_toArray, List.set_cons_zero, List.set_cons_succ]
  refine step_read 8 (some 38) (v := ?v8) rfl (by rfl) (by kernel_rfl) (by kernel_rfl) (by kernel_rfl) (fun _ _ _ h => h) (by rfl) ?y8 ?n8
  case y8 => intro W hW; go_simp; try with_reducible rfl
  try simp only [Act.put, List.setIfInBounds_toArray, List.set_cons_zero, List.set_cons_succ]
  refine step_read 9 (some 39) (v := ?v9) rfl (by rfl) (by kernel_rfl) (by kernel_rfl) (by kernel_rfl) (fun _ _ _ h => h) (by rfl) ?y9 ?n9
  case y9 => intro W hW; go_simp; rw [if_pos (by omega), if_pos (by omega)]; try with_reducible rfl
  try simp only [Act.put, List.setIfInBounds_toArray, List.set_cons_zero, List.set_cons_succ]
  refine step_read 10 (some 40) (v := ?v10) rfl (by rfl) (by kernel_rfl) (by kernel_rfl) (by kernel_rfl) (fun _ _ _ h => h) (by rfl) ?y10 ?n10
  case y10 => intro W hW; go_simp; try with_reducible rfl
  try simp only [Act.put, List.setIfInBounds_toArray, List.set_cons_zero, List.set_cons_succ]
  refine step_read 11 (some 41) (v := ?v11) rfl (by rfl) (by kernel_rfl) (by kernel_rfl) (by kernel_rfl) (fun _ _ _ h => h) (by rfl) ?y11 ?n11
  case y11 => intro W hW; go_simp; try with_reducible rfl
  try simp only [Act.put, List.setIfInBounds_toArray, List.set_cons_zero, List.set_cons_succ]
  refine step_read 12 (some 42) (v := ?v12) rfl (by rfl) (by kernel_rfl) (by kernel_rfl) (by kernel_rfl) (fun _ _ _ h => h) (by rfl) ?y12 ?n12
  case y12 => intro W hW; go_simp; rw [if_pos (by omega)]; try with_reducible rfl
  try simp only [Act.put, List.setIfInBounds_toArray, List.set_cons_zero, List.set_cons_succ]
  refine step_fork 1 2 13 31 32 43 (Ri := fun v W => IsLists W v [bs]) (Rk := fun v W => IsLists W v [bs.take X, (bs.take Y).drop X, bs.drop Y]) (vj := .int .u32 S) rfl rfl rfl (by decide) (by decide) (by decide) (by decide) (by decide) (by decide) (by kernel_rfl) (by kernel_rfl) (by kernel_rfl) (by kernel_rfl) (by kernel_rfl) (by rfl) (fun _ => by rfl) (fun _ => by rfl) (fun _ _ => by rfl) (by rfl) (fun _ => by rfl) (fun _ => by rfl) (fun v W W' hb h => h.below hb (Nat.le_refl _)) (fun v W W' hb h => h.below hb (Nat.le_refl _)) ?Ei1 ?Ej1 ?Ek1 ?n1
  case Ei1 =>
    intro W x hx hb K' hK
    rcases hx with rfl | ⟨vk, rfl⟩
    all_goals
      go_simp
      exact hK _ _ (extAlloc _ _) (lists1 HU.out hb 22 _ rfl)
  case Ej1 =>
    intro W x vi hx hb hR K' hK
    have hTW := HTU.out.below hb hs1
    rcases hx with rfl | ⟨vk, rfl⟩
    all_goals
      go_simp
      go_at_call 10
      refine (sum_is vi [bs] W hTW hR S1.out (by simp) S E1.out).mono ?_
      rintro e W' ⟨rfl, hb'⟩
      exact hK W' hb'
  case Ek1 =>
    intro W x hx hb K' hK
    rcases hx with rfl | ⟨vi, rfl⟩ | ⟨vi, rfl⟩
    all_goals
      go_simp
      exact hK _ _ (extAlloc _ _) (lists3 NA.out NB.out NC.out hb 22 _ rfl)
  intro v31 v43 w2 hbw2 hRw2
  try simp only [Act.put, List.setIfInBounds_toArray, List.set_cons_zero, List.set_cons_succ]
  clear NB NC
  replace hBd := hBd.trans (hbw2.mono hBd.size)
  replace HTU := Lib.hid (HTU.out.below hbw2 hs1)
  replace hs1 := Nat.le_trans hs1 hbw2.size
  replace HU := Lib.hid (HU.out.below hbw2 (Nat.le_refl _))
  replace NA := Lib.hid (NA.out.below hbw2 (Nat.le_refl _))
  replace ND := Lib.hid (ND.out.below hbw2 (Nat.le_refl _))
  refine step_only 14 rfl (by kernel_rfl) (by rfl) (fun K' hK => ?_)
  go_simp
  go_at_call 10
  refine (sum_is v43 [bs.take X, (bs.take Y).drop X, bs.drop Y] _ HTU.out hRw2 S3.out (by simp) S E3.out).mono ?_
  rintro e w3 ⟨rfl, hb3⟩
  refine hK _ _ hb3 ?_
  clear hK K'
  try simp only [Act.put, List.setIfInBounds_toArray, List.set_cons_zero, List.set_cons_succ]
  clear hRw2 hbw2
  replace hBd := hBd.trans (hb3.mono hBd.size)
  replace HTU := Lib.hid (HTU.out.below hb3 hs1)
  replace hs1 := Nat.le_trans hs1 hb3.size
  replace HU := Lib.hid (HU.out.below hb3 (Nat.le_refl _))
  replace NA := Lib.hid (NA.out.below hb3 (Nat.le_refl _))
  replace ND := Lib.hid (ND.out.below hb3 (Nat.le_refl _))
  clear hb3
  refine step_read 15 (some 45) (v := ?v15) rfl (by rfl) (by kernel_rfl) (by kernel_rfl) (by kernel_rfl) (fun _ _ _ h => h) (by rfl) ?y15 ?n15
  case y15 => intro W hW; go_simp; try with_reducible rfl
  try simp only [Act.put, List.setIfInBounds_toArray, List.set_cons_zero, List.set_cons_succ]
  refine step_read 16 (some 46) (v := ?v16) rfl (by rfl) (by kernel_rfl) (by kernel_rfl) (by kernel_rfl) (fun _ _ _ h => h) (by rfl) ?y16 ?n16
  case y16 => intro W hW; go_simp; try with_reducible rfl
  try simp only [Act.put, List.setIfInBounds_toArray, List.set_cons_zero, List.set_cons_succ]
  refine step_read 17 (some 47) (v := ?v17) rfl (by rfl) (by kernel_rfl) (by kernel_rfl) (by kernel_rfl) (fun _ _ _ h => h) (by rfl) ?y17 ?n17
  case y17 => intro W hW; go_simp; try with_reducible rfl
  try simp only [Act.put, List.setIfInBounds_toArray, List.set_cons_zero, List.set_cons_succ]
  refine step_read 20 (some 50) (v := ?v20) rfl (by rfl) (by kernel_rfl) (by kernel_rfl) (by kernel_rfl) (fun _ _ _ h => h) (by rfl) ?y20 ?n20
  case y20 => intro W hW; go_simp; try with_reducible rfl
  try simp only [Act.put, List.setIfInBounds_toArray, List.set_cons_zero, List.set_cons_succ]
  refine step_read 21 (some 51) (v := ?v21) rfl (by rfl) (by kernel_rfl) (by kernel_rfl) (by kernel_rfl) (fun _ _ _ h => h) (by rfl) ?y21 ?n21
  case y21 => intro W hW; go_simp; try with_reducible rfl
  try simp only [Act.put, List.setIfInBounds_toArray, List.set_cons_zero, List.set_cons_succ]
  refine step_read 22 (some 52) (v := ?v22) rfl (by rfl) (by kernel_rfl) (by kernel_rfl) (by kernel_rfl) (fun _ _ _ h => h) (by rfl) ?y22 ?n22
  case y22 => intro W hW; go_simp; rw [if_pos (by omega)]; try with_reducible rfl
  try simp only [Act.put, List.setIfInBounds_toArray, List.set_cons_zero, List.set_cons_succ]
  refine step_read 25 (some 55) (v := ?v25) rfl (by rfl) (by kernel_rfl) (by kernel_rfl) (by kernel_rfl) (fun _ _ _ h => h) (by rfl) ?y25 ?n25
  case y25 => intro W hW; go_simp; try with_reducible rfl
  try simp only [Act.put, List.setIfInBounds_toArray, List.set_cons_zero, List.set_cons_succ]
  refine step_read 26 (some 56) (v := ?v26) rfl (by rfl) (by kernel_rfl) (by kernel_rfl) (by kernel_rfl) (fun _ _ _ h => h) (by rfl) ?y26 ?n26
  case y26 => intro W hW; go_simp; try with_reducible rfl
  try simp only [Act.put, List.setIfInBounds_toArray, List.set_cons_zero, List.set_cons_succ]
  refine step_read 27 (some 57) (v := ?v27) rfl (by rfl) (by kernel_rfl) (by kernel_rfl) (by kernel_rfl) (fun _ _ _ h => h) (by rfl) ?y27 ?n27
  case y27 => intro W hW; go_simp; try with_reducible rfl
  try simp only [Act.put, List.setIfInBounds_toArray, List.set_cons_zero, List.set_cons_succ]
  refine step_fork 18 19 23 48 49 53 (Ri := fun v W => IsLists W v [bs]) (Rk := fun v W => IsLists W v [bs.take X]) (vj := .int .u32 S) rfl rfl rfl (by decide) (by decide) (by decide) (by decide) (by decide) (by decide) (by kernel_rfl) (by kernel_rfl) (by kernel_rfl) (by kernel_rfl) (by kernel_rfl) (by rfl) (fun _ => by rfl) (fun _ => by rfl) (fun _ _ => by rfl) (by rfl) (fun _ => by rfl) (fun _ => by rfl) (fun v W W' hb h => h.below hb (Nat.le_refl _)) (fun v W W' hb h => h.below hb (Nat.le_refl _)) ?Ei18 ?Ej18 ?Ek18 ?n18
  case Ei18 =>
    intro W x hx hb K' hK
    rcases hx with rfl | ⟨vk, rfl⟩
    all_goals
      go_simp
      exact hK _ _ (extAlloc _ _) (lists1 HU.out hb 22 _ rfl)
  case Ej18 =>
    intro W x vi hx hb hR K' hK
    have hTW := HTU.out.below hb hs1
    rcases hx with rfl | ⟨vk, rfl⟩
    all_goals
      go_simp
      go_at_call 10
      refine (sum_is vi [bs] W hTW hR S1.out (by simp) S E1.out).mono ?_
      rintro e W' ⟨rfl, hb'⟩
      exact hK W' hb'
  case Ek18 =>
    intro W x hx hb K' hK
    rcases hx with rfl | ⟨vi, rfl⟩ | ⟨vi, rfl⟩
    all_goals
      go_simp
      exact hK _ _ (extAlloc _ _) (lists1 NA.out hb 22 _ rfl)
  intro v48 v53 w4 hbw4 hRw4
  try simp only [Act.put, List.setIfInBounds_toArray, List.set_cons_zero, List.set_cons_succ]
  replace hBd := hBd.trans (hbw4.mono hBd.size)
  replace HTU := Lib.hid (HTU.out.below hbw4 hs1)
  replace hs1 := Nat.le_trans hs1 hbw4.size
  replace HU := Lib.hid (HU.out.below hbw4 (Nat.le_refl _))
  replace NA := Lib.hid (NA.out.below hbw4 (Nat.le_refl _))
  replace ND := Lib.hid (ND.out.below hbw4 (Nat.le_refl _))
  refine step_only 24 rfl (by kernel_rfl) (by rfl) (fun K' hK => ?_)
  go_simp
  go_at_call 10
  refine (sum_is v53 [bs.take X] _ HTU.out hRw4 SA.out (by simp) _ rfl).mono ?_
  rintro e w5 ⟨rfl, hb5⟩
  refine hK _ _ hb5 ?_
  clear hK K'
  try simp only [Act.put, List.setIfInBounds_toArray, List.set_cons_zero, List.set_cons_succ]
  clear hRw4 hbw4
  replace hBd := hBd.trans (hb5.mono hBd.size)
  replace HTU := Lib.hid (HTU.out.below hb5 hs1)
  replace hs1 := Nat.le_trans hs1 hb5.size
  replace HU := Lib.hid (HU.out.below hb5 (Nat.le_refl _))
  replace NA := Lib.hid (NA.out.below hb5 (Nat.le_refl _))
  replace ND := Lib.hid (ND.out.below hb5 (Nat.le_refl _))
  clear hb5
  refine step_only 28 rfl (by kernel_rfl) (by rfl) (fun K' hK => ?_)
  go_simp
  go_at_call 12
  refine (more_any (sumC [bs.take X]) _ (bs.drop X) _ (sumC_range _) HTU.out ND.out BD.out (by simp; omega)).mono ?_
  rw [EM.out]
  rintro e w6 ⟨rfl, rfl⟩
  refine hK _ _ (Below.refl _ _) ?_
  clear hK K'
  try simp only [Act.put, List.setIfInBounds_toArray, List.set_cons_zero, List.set_cons_succ]
  refine step_read 29 (some 59) (v := ?v29) rfl (by rfl) (by kernel_rfl) (by kernel_rfl) (by kernel_rfl) (fun _ _ _ h => h) (by rfl) ?y29 ?n29
  case y29 => intro W hW; go_simp; try with_reducible rfl
  try simp only [Act.put, List.setIfInBounds_toArray, List.set_cons_zero, List.set_cons_succ]
  refine step_read 30 (some 60) (v := ?v30) rfl (by rfl) (by kernel_rfl) (by kernel_rfl) (by kernel_rfl) (fun _ _ _ h => h) (by rfl) ?y30 ?n30
  case y30 => intro W hW; go_simp; try with_reducible rfl
  try simp only [Act.put, List.setIfInBounds_toArray, List.set_cons_zero, List.set_cons_succ]
  refine step_read 31 (some 61) (v := ?v31) rfl (by rfl) (by kernel_rfl) (by kernel_rfl) (by kernel_rfl) (fun _ _ _ h => h) (by rfl) ?y31 ?n31
  case y31 => intro W hW; go_simp; try with_reducible rfl
  try simp only [Act.put, List.setIfInBounds_toArray, List.set_cons_zero, List.set_cons_succ]
  refine step_read 32 (some 62) (v := ?v32) rfl (by rfl) (by kernel_rfl) (by kernel_rfl) (by kernel_rfl) (fun _ _ _ h => h) (by rfl) ?y32 ?n32
  case y32 => intro W hW; go_simp; try with_reducible rfl
  try simp only [Act.put, List.setIfInBounds_toArray, List.set_cons_zero, List.set_cons_succ]
  refine step_read 35 (some 65) (v := ?v35) rfl (by rfl) (by kernel_rfl) (by kernel_rfl) (by kernel_rfl) (fun _ _ _ h => h) (by rfl) ?y35 ?n35
  case y35 => intro W hW; go_simp; try with_reducible rfl
  try simp only [Act.put, List.setIfInBounds_toArray, List.set_cons_zero, List.set_cons_succ]
  refine step_fork 33 34 36 63 64 66 (Ri := fun v W => IsLists W v [bs, [], []]) (Rk := fun v W => IsLists W v [bs]) (vj := .int .u32 S) rfl rfl rfl (by decide) (by decide) (by decide) (by decide) (by decide) (by decide) (by kernel_rfl) (by kernel_rfl) (by kernel_rfl) (by kernel_rfl) (by kernel_rfl) (by rfl) (fun _ => by rfl) (fun _ => by rfl) (fun _ _ => by rfl) (by rfl) (fun _ => by rfl) (fun _ => by rfl) (fun v W W' hb h => h.below hb (Nat.le_refl _)) (fun v W W' hb h => h.below hb (Nat.le_refl _)) ?Ei33 ?Ej33 ?Ek33 ?n33
  case Ei33 =>
    intro W x hx hb K' hK
    rcases hx with rfl | ⟨vk, rfl⟩
    all_goals
      go_simp
      exact hK _ _ (extAlloc _ _) (lists3 HU.out (IsNums.nil _ _ _ _) (IsNums.nil _ _ _ _) hb 22 _ rfl)
  case Ej33 =>
    intro W x vi hx hb hR K' hK
    have hTW := HTU.out.below hb hs1
    rcases hx with rfl | ⟨vk, rfl⟩
    all_goals
      go_simp
      go_at_call 10
      refine (sum_is vi [bs, [], []] W hTW hR SN.out (by simp) S EN.out).mono ?_
      rintro e W' ⟨rfl, hb'⟩
      exact hK W' hb'
  case Ek33 =>
    intro W x hx hb K' hK
    rcases hx with rfl | ⟨vi, rfl⟩ | ⟨vi, rfl⟩
    all_goals
      go_simp
      exact hK _ _ (extAlloc _ _) (lists1 HU.out hb 22 _ rfl)
  intro v63 v66 w7 hbw7 hRw7
  try simp only [Act.put, List.setIfInBounds_toArray, List.set_cons_zero, List.set_cons_succ]
  replace hBd := hBd.trans (hbw7.mono hBd.size)
  replace HTU := Lib.hid (HTU.out.below hbw7 hs1)
  replace hs1 := Nat.le_trans hs1 hbw7.size
  replace HU := Lib.hid (HU.out.below hbw7 (Nat.le_refl _))
  replace NA := Lib.hid (NA.out.below hbw7 (Nat.le_refl _))
  replace ND := Lib.hid (ND.out.below hbw7 (Nat.le_refl _))
  refine step_only 37 rfl (by kernel_rfl) (by rfl) (fun K' hK => ?_)
  go_simp
  go_at_call 10
  refine (sum_is v66 [bs] _ HTU.out hRw7 S1.out (by simp) S E1.out).mono ?_
  rintro e w8 ⟨rfl, hb8⟩
  refine hK _ _ hb8 ?_
  clear hK K'
  try simp only [Act.put, List.setIfInBounds_toArray, List.set_cons_zero, List.set_cons_succ]
  clear hRw7 hbw7
  replace hBd := hBd.trans (hb8.mono hBd.size)
  replace HTU := Lib.hid (HTU.out.below hb8 hs1)
  replace hs1 := Nat.le_trans hs1 hb8.size
  replace HU := Lib.hid (HU.out.below hb8 (Nat.le_refl _))
  replace NA := Lib.hid (NA.out.below hb8 (Nat.le_refl _))
  replace ND := Lib.hid (ND.out.below hb8 (Nat.le_refl _))
  clear hb8
  refine step_read 38 (some 68) (v := ?v38) rfl (by rfl) (by kernel_rfl) (by kernel_rfl) (by kernel_rfl) (fun _ _ _ h => h) (by rfl) ?y38 ?n38
  case y38 => intro W hW; go_simp; try with_reducible rfl
  try simp only [Act.put, List.setIfInBounds_toArray, List.set_cons_zero, List.set_cons_succ]
  refine step_read 39 (some 69) (v := ?v39) rfl (by rfl) (by kernel_rfl) (by kernel_rfl) (by kernel_rfl) (fun _ _ _ h => h) (by rfl) ?y39 ?n39
  case y39 => intro W hW; go_simp; try with_reducible rfl
  try simp only [Act.put, List.setIfInBounds_toArray, List.set_cons_zero, List.set_cons_succ]
  refine step_read 40 (some 6) (v := ?v40) rfl (by rfl) (by kernel_rfl) (by kernel_rfl) (by kernel_rfl) (fun _ _ _ h => h) (by rfl) ?y40 ?n40
  case y40 => intro W hW; go_simp; try with_reducible rfl
  try simp only [Act.put, List.setIfInBounds_toArray, List.set_cons_zero, List.set_cons_succ]
  refine wpAnyH_done (by kernel_rfl) ?_ _
  go_wp2
  all_goals (go_ret; exact ⟨rfl, hBd⟩)
end Go.Proofs.YtgilcneebkmmhaaDoor.K
