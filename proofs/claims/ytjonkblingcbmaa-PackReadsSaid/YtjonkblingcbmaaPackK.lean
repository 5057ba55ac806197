/- mementolaw1.known returns true; what mementolaw1.edge returns. -/
import Derived.Test.YtjonkblingcbmaaPack5
import Derived.Lib.SlBytesConst
namespace Go.Proofs.Ytjonkblingcbmaa.K
open Go.ChangeShapes Go.WideShapes Go.ChangeAt Go.RowKit
set_option linter.unusedVariables false

theorem IsNums.litF (k : IntKind) (w : World) (zs : List Int) (N : Nat) (e : TypeId) (fr : Nat × Nat) (n c : Nat) (hN : N = w.heap.size) (hn : n = zs.length) : IsNums k (w.alloc (.cells (zs.map (Value.int k)).toArray e fr)) (.slice (some ⟨N, 0, none⟩) n c) zs := by
  subst hN; subst hn
  refine ⟨_, c, rfl, .inr ⟨_, 0, rfl, by simp, fun j hj => ?_⟩⟩
  unfold World.cell? World.alloc
  simp [hj, List.getD]

theorem own_kept {w w' : World} {B base : Nat} {e : TypeId} {s : Nat} {v : Value} {n : Nat} {xs : List Value} (h : w.ownsRow base e s v n xs) (ho : Only B w w') (hB : B < base) : w'.ownsRow base e s v n xs := by
  refine h.kept ho ?_
  cases hb : v.ownBlock with
  | none => exact .inl rfl
  | some k => right; have := (h.lt k hb).1; intro e; injection e with e; omega

theorem bytes_of (l : List Int) (h : l.all fun x => decide (0 ≤ x ∧ x ≤ 255)) : ∀ x ∈ l, 0 ≤ x ∧ x ≤ 255 := by
  intro x hx
  have := List.all_eq_true.1 h x hx
  simpa using this

set_option maxRecDepth 100000 in
set_option maxHeartbeats 4000000 in
theorem known_true (w : World) : Calls Try.prog 8 #[] w fun e w' => e = .returned (.bool true) ∧ Below w.heap.size w w' := by
  go_enter Try.func8, Try.ntmps8
  go_wp2_with fail
  refine (put_any _ [300, 1] _ (IsNums.lit .u64 w [300, 1] _ _ _ _ rfl rfl) (by intro j hj; match j, hj with | 0, _ => simp | 1, _ => simp) (by simp)).mono ?_
  rintro en w1 ⟨u1, rfl, hown1, hb1⟩
  have hb1' : Below w.heap.size w w1 := ((Below.refl _ w).alloc (Nat.le_refl _) _).trans (hb1.mono (by simp))
  rw [show encs [300, 1] = [172, 2, 1] by decide] at hown1
  have hN1 := IsNums.ofOwn hown1
  obtain ⟨p1, c1, rfl, -⟩ := id hN1
  have HN1 := Lib.hid hN1
  clear hb1 hown1 hN1
  have kc := fun (w : World) (C : Array Value) (n c : Nat) => Lib.run_convert_bytes_const (P := Try.prog) w 22 5 C n c Try.underlying22 Try.underlying5
  go_wp2_with fail
  refine (lump_any _ [97, 98] _ (IsNums.litF .u8 w1 [97, 98] _ _ (2, 3) _ _ rfl rfl) (by simp)).mono ?_
  rintro en w2 ⟨u2, rfl, hown2, hb2⟩
  have hb2' : Below w1.heap.size w1 w2 := ((Below.refl _ w1).alloc (Nat.le_refl _) _).trans (hb2.mono (by simp))
  rw [show enc (([97, 98] : List Int).length : Nat) ++ [97, 98] = [2, 97, 98] by decide] at hown2
  have hN2 := IsNums.ofOwn hown2
  obtain ⟨p2, c2, rfl, -⟩ := id hN2
  have HN2 := Lib.hid hN2
  have HN1' := Lib.hid (HN1.out.below hb2' (Nat.le_refl _))
  have hbB : Below w.heap.size w w2 := hb1'.trans (hb2'.mono hb1'.size)
  clear hb2 hown2 hN2 hb2' hb1'
  go_wp2_with fail
  refine (join_any _ [[172, 2, 1], [2, 97, 98], [128]] _ (IsLists.lit _ [.slice p1 3 c1, .slice p2 3 c2, .slice (some ⟨w2.heap.size, 0, none⟩) 1 1] [[172, 2, 1], [2, 97, 98], [128]] _ _ _ _ (by simp) rfl rfl ?_) (by simp) (by simp [sumLen])).mono ?_
  · intro j hj
    match j, hj with
    | 0, _ => exact HN1'.out.alloc _
    | 1, _ => exact HN2.out.alloc _
    | 2, _ => exact IsNums.lit .u8 w2 [128] _ _ _ _ rfl rfl
  rintro en w3 ⟨u3, rfl, hown3, hb3⟩
  have hb3' : Below w.heap.size w w3 := ((hbB.alloc hbB.size _).alloc (by have := hbB.size; simp; omega) _).trans (hb3.mono (by have := hbB.size; simp; omega))
  rw [show ([[172, 2, 1], [2, 97, 98], [128]] : List (List Int)).flatten = [172, 2, 1, 2, 97, 98, 128] by decide] at hown3
  have hN3 := IsNums.ofOwn hown3
  obtain ⟨p3, c3, rfl, -⟩ := id hN3
  have HN3 := Lib.hid hN3
  clear hown3 hb3 hN3 HN1' HN2 HN1 hbB
  go_wp2_with fail
  refine (new_any _ [172, 2, 1, 2, 97, 98, 128] _ HN3.out (bytes_of _ (by decide)) (by simp)).mono ?_
  rintro en w4 ⟨B, u4, rfl, hBs, hr, hb4⟩
  have hb4' : Below w.heap.size w w4 := hb3'.trans (hb4.mono hb3'.size)
  have hBz : w.heap.size ≤ B := by have := hb3'.size; omega
  clear hb4 hb3' HN3 hBs
  go_wp2_with fail
  refine (num_any B _ _ _ 300 _ hr (by omega)).mono ?_
  rintro en w5 ⟨rfl, v5, hr5, ho5⟩
  rw [show numR [172, 2, 1, 2, 97, 98, 128] 0 300 = (300, [1, 2, 97, 98, 128], 0) by decide] at hr5 ⊢
  have hb5 := hb4'.trans (ho5.below hBz hb4'.size)
  clear hr hb4' ho5
  go_wp2_with fail
  refine (num_any B _ _ _ 9 _ hr5 (by omega)).mono ?_
  rintro en w6 ⟨rfl, v6, hr6, ho6⟩
  rw [show numR [1, 2, 97, 98, 128] 0 9 = (1, [2, 97, 98, 128], 0) by decide] at hr6 ⊢
  have hb6 := hb5.trans (ho6.below hBz hb5.size)
  clear hr5 hb5 ho6
  go_wp2_with fail
  refine (rlump_any B _ _ _ 2 _ hr6 (by omega) (by omega) (by simp)).mono ?_
  rintro en w7 ⟨u7, rfl, hown7, v7, hr7, ho7⟩
  rw [show lumpR [2, 97, 98, 128] 0 2 = ([97, 98], [128], 0) by decide] at hown7 hr7
  have hb7 := hb6.trans (ho7.below hBz hb6.size)
  have hB6 := hr6.lt
  obtain ⟨p7, c7, rfl, -⟩ := id (IsNums.ofOwn hown7)
  clear hr6 hb6 ho7
  go_wp2_with fail
  refine (left_any B _ _ _ _ hr7).mono ?_
  rintro en w7' ⟨rfl, rfl⟩
  go_wp2_with fail
  refine (num_any B _ _ _ 9 _ hr7 (by omega)).mono ?_
  rintro en w8 ⟨rfl, v8, hr8, ho8⟩
  rw [show numR [128] 0 9 = (0, [], 21) by decide] at hr8 ⊢
  have hb8 := hb7.trans (ho8.below hBz hb7.size)
  have hown8 := own_kept hown7 ho8 hB6
  clear hr7 hb7 ho8 hown7
  go_wp2_with fail
  refine (put_any _ [300, 1] _ (IsNums.lit .u64 w8 [300, 1] _ _ _ _ rfl rfl) (by intro j hj; match j, hj with | 0, _ => simp | 1, _ => simp) (by simp)).mono ?_
  rintro en w9 ⟨u9, rfl, hown9, hb9⟩
  have hb9' : Below w8.heap.size w8 w9 := ((Below.refl _ w8).alloc (Nat.le_refl _) _).trans (hb9.mono (by simp))
  rw [show encs [300, 1] = [172, 2, 1] by decide] at hown9
  have hr9 := hr8.later hb9'
  have hc7 := (IsNums.ofOwn hown8).below hb9' (Nat.le_refl _)
  have hb10 := hb8.trans (hb9'.mono hb8.size)
  have hc9 := IsNums.ofOwn hown9
  obtain ⟨p9, c9, rfl, -⟩ := id hc9
  have e7 := conv_str hc7 22 5 Try.underlying22 Try.underlying5 9 Try.underlying9
  have e9 := conv_str hc9 22 5 Try.underlying22 Try.underlying5 9 Try.underlying9
  replace e7 : (convert 22 9 (.slice p7 2 c7)).run Try.prog w9 = .ok (.string ⟨#[97, 98]⟩) w9 := e7
  replace e9 : (convert 22 9 (.slice p9 3 c9)).run Try.prog w9 = .ok (.string ⟨#[172, 2, 1]⟩) w9 := e9
  clear hr8 hb8 hb9 hb9' hown9 hown8 hc7 hc9
  go_wp2_with (first | (go_at_call 20; ((with_reducible refine (err_any B _ _ _ _ hr9).mono ?_); rintro en w' ⟨rfl, rfl⟩)) | (go_at_call 21; ((with_reducible refine (left_any B _ _ _ _ hr9).mono ?_); rintro en w' ⟨rfl, rfl⟩)))
  refine (put_any _ [] _ (IsNums.nil .u64 w9 none 0) (by simp) (by simp)).mono ?_
  rintro en w10 ⟨u10, rfl, hown10, hb11⟩
  have hb12 := hb10.trans (hb11.mono hb10.size)
  rw [show encs [] = [] by rfl] at hown10
  obtain ⟨p10, c10, rfl, -⟩ := id (IsNums.ofOwn hown10)
  clear hown10 hb11 hr9 hb10 e7 e9
  go_wp2
  go_ret
  exact ⟨rfl, hb12⟩

end Go.Proofs.Ytjonkblingcbmaa.K
