/- Lists of records written one behind another. -/
import Derived.Test.YtogjhjiapinmcaaDoorWal6
namespace Go.Proofs.YtogjhjiapinmcaaDoor.K
open Go.ChangeShapes Go.WideShapes Go.ChangeAt Go.RowKit
set_option linter.unusedVariables false
set_option linter.unusedSimpArgs false

def putRs (secs : List (List Int)) (gn : Int) : Nat → List (List Int) → List (List Int)
 | _, [] => secs
 | f, b :: t => putRs (putK secs f gn (recV b) (secN (recN b.length))) gn (f + secN (recN b.length)) t
theorem putRs_len {gn : Int} : ∀ {bs : List (List Int)} {secs : List (List Int)} {f : Nat}, (putRs secs gn f bs).length = secs.length
 | [], _, _ => rfl
 | b :: t, secs, f => by rw [putRs, putRs_len, putK_len]
theorem putRs_snoc {gn : Int} {b : List Int} : ∀ {bs : List (List Int)} {secs : List (List Int)} {f : Nat}, putRs secs gn f (bs ++ [b]) = putK (putRs secs gn f bs) (f + needN bs) gn (recV b) (secN (recN b.length))
 | [], _, _ => rfl
 | c :: t, secs, f => by rw [List.cons_append, putRs, putRs_snoc, putRs, needN, Nat.add_assoc]
theorem putRs_take {gn : Int} {ls : List (List Int)} {secs : List (List Int)} {f k : Nat} (hk : k < ls.length) : putRs secs gn f (ls.take (k + 1)) = putK (putRs secs gn f (ls.take k)) (f + needN (ls.take k)) gn (recV (ls.getD k [])) (secN (recN (ls.getD k []).length)) := by
 rw [List.take_succ_eq_append_getElem hk, putRs_snoc, List.getD, List.getElem?_eq_getElem hk]; rfl
theorem putRs_out {gn : Int} {i : Nat} : ∀ {bs : List (List Int)} {secs : List (List Int)} {f : Nat}, i < f ∨ f + needN bs ≤ i → (putRs secs gn f bs).getD i [] = secs.getD i []
 | [], _, _, _ => rfl
 | b :: t, secs, f, h => by
   rw [needN] at h
   rw [putRs, putRs_out (by omega), putK_out (by omega)]
theorem recsAt_put {gn : Int} : ∀ {bs : List (List Int)} {secs : List (List Int)} {f : Nat}, f + needN bs ≤ secs.length → recsAt (putRs secs gn f bs) gn f bs
 | [], _, _, _ => trivial
 | b :: t, secs, f, h => by
   rw [needN] at h
   refine ⟨fun k hk => ?_, ?_⟩
   · rw [putRs, putRs_len, putRs_out (by omega)]
     exact recAt_put (by omega) k hk
   · rw [putRs]; exact recsAt_put (by rw [putK_len]; omega)
end Go.Proofs.YtogjhjiapinmcaaDoor.K
