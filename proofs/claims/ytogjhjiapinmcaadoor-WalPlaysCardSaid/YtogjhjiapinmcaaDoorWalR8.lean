/- One record, sector by sector. -/
import Derived.Test.YtogjhjiapinmcaaDoorWalR6
namespace Go.Proofs.YtogjhjiapinmcaaDoor.K
open Go.ChangeShapes Go.WideShapes Go.ChangeAt Go.RowKit
set_option linter.unusedVariables false
set_option linter.unusedSimpArgs false

theorem partsK_head {V : List (List Int)} {f gn : Int} : ∀ {k : Nat} {x : List Int}, partsK V f gn (k + 1) = some x → ∃ b0 t, partV V f gn = some b0 ∧ x = b0 ++ t
 | 0, x, h => by
   simp only [partsK, Option.bind_some] at h
   rw [show f + ((0 : Nat) : Int) = f by omega] at h
   cases hp : partV V f gn with
   | none => rw [hp] at h; cases h
   | some b => rw [hp] at h; injection h with h; exact ⟨b, [], rfl, by rw [← h]; simp⟩
 | k + 1, x, h => by
   rw [partsK] at h
   cases hk : partsK V f gn (k + 1) with
   | none => rw [hk] at h; cases h
   | some a =>
     cases hp : partV V (f + ((k + 1 : Nat) : Int)) gn with
     | none => rw [hk, hp] at h; cases h
     | some b =>
       rw [hk, hp] at h
       injection h with h
       obtain ⟨b0, t, h1, h2⟩ := partsK_head hk
       exact ⟨b0, t ++ b, h1, by rw [← h, h2]; exact List.append_assoc _ _ _⟩
theorem part_num {V : List (List Int)} {i : Nat} {gn : Int} (hi : i < V.length) (hs : Sec (V.getD i [])) (g0 : 0 ≤ gn) (g1 : gn ≤ 18446744073709551615) : partV V (i : Int) gn = if ((num8 (V.getD i []) 8 : Nat) : Int) = gn ∧ ((num8 ((V.getD i []).drop 56) 8 : Nat) : Int) = gn then some (((V.getD i []).take 56).drop 8) else none := by
 have h64 := hs.1
 have hd : ((V.getD i []).drop 56).length = 8 := by rw [List.length_drop]; omega
 have e1 := num_gen (s := V.getD i []) (g := gn) (by omega) hs.2 g0 g1
 have e2 := num_gen (s := (V.getD i []).drop 56) (g := gn) (by omega) (fun x hx => hs.2 x (List.mem_of_mem_drop hx)) g0 g1
 rw [List.take_of_length_le (by omega)] at e2
 unfold partV
 rw [Int.toNat_natCast]
 by_cases hc : ((num8 (V.getD i []) 8 : Nat) : Int) = gn ∧ ((num8 ((V.getD i []).drop 56) 8 : Nat) : Int) = gn
 · rw [if_pos hc, if_pos ⟨by omega, by omega, e1.1 hc.1, e2.1 hc.2⟩]
 · rw [if_neg hc, if_neg (fun h => hc ⟨e1.2 h.2.2.1, e2.2 h.2.2.2⟩)]
theorem one_num {V : List (List Int)} {f gn : Int} {k : Nat} {xs z y : List Int} {n er2 : Int} (hs : ∀ s ∈ V, Sec s) (hK : partsK V f gn k = some xs) (hP : partV V (f + k) gn = some z) (hN : numR (xs ++ z) 0 65535 = (n, y, er2)) (hm : k = 0 ∨ ∃ b0 n0 y0, partV V f gn = some b0 ∧ numR b0 0 65535 = (n0, y0, 0)) :
   ∃ b0 y0, partV V f gn = some b0 ∧ numR b0 0 65535 = (n, y0, er2) ∧ y0.length ≤ 48 ∧ (er2 = 0 → 48 - y0.length = (xs ++ z).length - y.length) := by
 cases k with
 | zero =>
   injection hK with hK
   subst hK
   rw [show f + ((0 : Nat) : Int) = f by omega] at hP
   rw [List.nil_append] at hN ⊢
   obtain ⟨h48, hb⟩ := partV_ok hP hs
   have hy := numR_len z 0 65535
   rw [hN] at hy
   exact ⟨z, y, hP, hN, by dsimp only at hy; omega, fun _ => by rw [h48]⟩
 | succ j =>
   obtain ⟨b0, t, h1, h2⟩ := partsK_head hK
   rcases hm with hm | ⟨b1, n0, y0, h3, h4⟩
   · omega
   · rw [h1] at h3
     injection h3 with h3
     subst h3
     have h5 := numR_more h4 (t ++ z)
     rw [← List.append_assoc, ← h2, hN] at h5
     injection h5 with e1 h5
     injection h5 with e2 e3
     obtain ⟨h48, hb⟩ := partV_ok h1 hs
     have hy := numR_len b0 0 65535
     rw [h4] at hy
     dsimp only at hy
     refine ⟨b0, y0, h1, by rw [h4, e1, e3], by omega, fun _ => ?_⟩
     rw [e2, h2]
     simp only [List.length_append]
     omega
theorem readV_one {V : List (List Int)} {f to gn : Int} {k n : Nat} {b0 y0 b : List Int} (hs : ∀ s ∈ V, Sec s) (h0 : partV V f gn = some b0) (hN : numR b0 0 65535 = ((n : Int), y0, 0)) (hy : y0.length ≤ 48) (hK : partsK V f gn (k + 1) = some b) (h1 : 48 * k < 48 - y0.length + n + 4) (h2 : 48 - y0.length + n + 4 ≤ 48 * (k + 1)) (hto : f + k < to) :
   readV V f to gn = if openB (b.take (48 - y0.length + n + 4)) = true then some ((openC (b.take (48 - y0.length + n + 4))).drop (48 - y0.length), k + 1) else none := by
 have e : secN (48 - y0.length + n + 4) = k + 1 := by unfold secN; omega
 rw [readV_some h0 hN (partV_ok h0 hs).1, if_neg (by decide), e, if_neg (by omega), hK]
theorem readV_short {V : List (List Int)} {f to gn : Int} {k n : Nat} {b0 y0 : List Int} (hs : ∀ s ∈ V, Sec s) (h0 : partV V f gn = some b0) (hN : numR b0 0 65535 = ((n : Int), y0, 0)) (hy : y0.length ≤ 48) (h1 : 48 * k < 48 - y0.length + n + 4) (hE : to ≤ f + k ∨ partV V (f + k) gn = none) : readV V f to gn = none := by
 have e : k + 1 ≤ secN (48 - y0.length + n + 4) := by unfold secN; omega
 rw [readV_some h0 hN (partV_ok h0 hs).1, if_neg (by decide)]
 rcases hE with hE | hE
 · rw [if_pos (by omega)]
 · split
   · rfl
   · rw [partsK_none (k := k) (by omega) hE]
end Go.Proofs.YtogjhjiapinmcaaDoor.K
