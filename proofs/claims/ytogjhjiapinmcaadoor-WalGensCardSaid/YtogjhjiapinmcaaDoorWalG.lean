/- Lists of records written one behind another. -/
import Derived.Test.YtogjhjiapinmcaaDoorWal6
namespace Go.Proofs.YtogjhjiapinmcaaDoor.K
open Go.ChangeShapes Go.WideShapes Go.ChangeAt Go.RowKit
set_option linter.unusedVariables false
set_option linter.unusedSimpArgs false

def putRs (secs : List (List Int)) (gn : Int) : Nat → List (List Int) → List (List Int)
 | _, [] => secs
 | f, b :: t => putRs (putK secs f gn (recV b) (secN (recN b.length))) gn (f + secN (recN b.length)) t
theorem putRs_len {gn : Int} : ∀ {bs : List (List Int)} {secs : List (List Int)} {f : Nat}, (putRs secs gn f bs).length = secs.length
 | [], _, _ => rfl
 | b :: t, secs, f => by rw [putRs, putRs_len, putK_len]
theorem putRs_snoc {gn : Int} {b : List Int} : ∀ {bs : List (List Int)} {secs : List (List Int)} {f : Nat}, putRs secs gn f (bs ++ [b]) = putK (putRs secs gn f bs) (f + needN bs) gn (recV b) (secN (recN b.length))
 | [], _, _ => rfl
 | c :: t, secs, f => by rw [List.cons_append, putRs, putRs_snoc, putRs, needN, Nat.add_assoc]
theorem putRs_take {gn : Int} {ls : List (List Int)} {secs : List (List Int)} {f k : Nat} (hk : k < ls.length) : putRs secs gn f (ls.take (k + 1)) = putK (putRs secs gn f (ls.take k)) (f + needN (ls.take k)) gn (recV (ls.getD k [])) (secN (recN (ls.getD k []).length)) := by
 rw [List.take_succ_eq_append_getElem hk, putRs_snoc, List.getD, List.getElem?_eq_getElem hk]; rfl
theorem putRs_out {gn : Int} {i : Nat} : ∀ {bs : List (List Int)} {secs : List (List Int)} {f : Nat}, i < f ∨ f + needN bs ≤ i → (putRs secs gn f bs).getD i [] = secs.getD i []
 | [], _, _, _ => rfl
 | b :: t, secs, f, h => by
   rw [needN] at h
   rw [putRs, putRs_out (by omega), putK_out (by omega)]
theorem putRs_at {gn : Int} {i : Nat} : ∀ {bs : List (List Int)} {secs : List (List Int)} {f : Nat}, f ≤ i → i < f + needN bs → f + needN bs ≤ secs.length → ∃ r k, (putRs secs gn f bs).getD i [] = chunkP gn r k
 | [], _, _, h1, h2, _ => by rw [needN] at h2; omega
 | b :: t, secs, f, h1, h2, h3 => by
   rw [needN] at h2 h3
   rw [putRs]
   rcases Nat.lt_or_ge i (f + secN (recN b.length)) with h | h
   · obtain ⟨j, rfl⟩ : ∃ j, i = f + j := ⟨i - f, by omega⟩
     exact ⟨recV b, j, by rw [putRs_out (by omega), putK_in (by omega) (by omega)]⟩
   · exact putRs_at h (by omega) (by rw [putK_len]; omega)
theorem recsAt_put {gn : Int} : ∀ {bs : List (List Int)} {secs : List (List Int)} {f : Nat}, f + needN bs ≤ secs.length → recsAt (putRs secs gn f bs) gn f bs
 | [], _, _, _ => trivial
 | b :: t, secs, f, h => by
   rw [needN] at h
   refine ⟨fun k hk => ?_, ?_⟩
   · rw [putRs, putRs_len, putRs_out (by omega)]
     exact recAt_put (by omega) k hk
   · rw [putRs]; exact recsAt_put (by rw [putK_len]; omega)
theorem gens_scan {a b : List (List Int)} {x y : Int} (hx : 0 ≤ x ∧ x ≤ 18446744073709551615) (hy : 0 ≤ y ∧ y ≤ 18446744073709551615) (hxy : x ≠ y) (ha : needN a ≤ 59) (hb : needN b ≤ 59) (hal : ∀ l ∈ a, l.length ≤ 65535) (hbl : ∀ l ∈ b, l.length ≤ 65535) {s1 s2 : List (List Int)} (h1 : s1 = putRs (List.replicate 60 zeros) x 0 a) (h2 : s2 = putRs s1 y 0 b) :
   scanF s2 60 y ((60 : Int) - 0).toNat 0 = (b, (needN b : Int)) ∧ scanF s2 60 x ((60 : Int) - 0).toNat 0 = if b = [] then (a, (needN a : Int)) else ([], 0) := by
 have hg : genB x ≠ genB y := fun h => hxy (genB_inj hx.1 hx.2 hy.1 hy.2 h)
 have l1 : s1.length = 60 := by rw [h1, putRs_len, List.length_replicate]
 have hz : ∀ i, needN a ≤ i → i < 60 → s1.getD i [] = zeros := fun i hi hi2 => by
   rw [h1, putRs_out (.inr (by omega)), List.getD, List.getElem?_replicate, if_pos hi2]; rfl
 have hend : readV s2 ((0 + needN b : Nat) : Int) 60 y = none := by
   rw [Nat.zero_add]
   have e : s2.getD (needN b) [] = s1.getD (needN b) [] := by rw [h2, putRs_out (.inr (by omega))]
   rcases Nat.lt_or_ge (needN b) (needN a) with h | h
   · obtain ⟨r, k, hc⟩ := putRs_at (gn := x) (secs := List.replicate 60 zeros) (f := 0) (bs := a) (i := needN b) (Nat.zero_le _) (by omega) (by rw [List.length_replicate]; omega)
     exact readV_pnone (partV_other (by rw [e, h1]; exact hc) hg)
   · exact readV_zero (by rw [e]; exact hz _ h (by omega))
 constructor
 · have h := scan_recs (secs := s2) (gn := y) (to := 60) (bs := b) (f := 0) (m := 60) (by rw [h2]; exact recsAt_put (by rw [l1]; omega)) hbl (by omega) (by omega) (.inl hend)
   rw [Nat.zero_add] at h
   exact h
 · by_cases hb0 : b = []
   · rw [if_pos hb0]
     subst hb0
     have e2 : s2 = s1 := h2
     rw [e2]
     have h := scan_recs (secs := s1) (gn := x) (to := 60) (bs := a) (f := 0) (m := 60) (by rw [h1]; exact recsAt_put (by rw [List.length_replicate]; omega)) hal (by omega) (by omega) (.inl (readV_zero (by rw [Nat.zero_add]; exact hz _ (Nat.le_refl _) (by omega))))
     rw [Nat.zero_add] at h
     exact h
   · rw [if_neg hb0]
     have hn : 0 < needN b := by
       cases b with
       | nil => exact absurd rfl hb0
       | cons c t =>
         have := recN_ge (n := c.length)
         rw [needN]; unfold secN; omega
     obtain ⟨r, k, hc⟩ := putRs_at (gn := y) (secs := s1) (f := 0) (bs := b) (i := 0) (Nat.le_refl _) (by omega) (by rw [l1]; omega)
     exact scanF_none (by omega) (readV_pnone (partV_other (i := 0) (by rw [h2]; exact hc) (fun h => hg h.symm)))
end Go.Proofs.YtogjhjiapinmcaaDoor.K
