/- Records behind a crash. -/
import Derived.Test.YtogjhjiapinmcaaDoorWalG
namespace Go.Proofs.YtogjhjiapinmcaaDoor.K
open Go.ChangeShapes Go.WideShapes Go.ChangeAt Go.RowKit
set_option linter.unusedVariables false
set_option linter.unusedSimpArgs false

theorem undo_snoc (u : Un) : ∀ (l : List Un) (s : List (List Int)), undo (l ++ [u]) s = undo l (s.set u.pos u.was)
 | [], _ => rfl
 | c :: t, s => by rw [List.cons_append, undo, undo_snoc, undo]
theorem set_back {s : List (List Int)} {i : Nat} (h : i < s.length) (x : List Int) : (s.set i x).set i (s.getD i []) = s := by
 rw [List.set_set]
 apply List.ext_getElem (by simp)
 intro j h1 h2
 by_cases hj : i = j
 · subst hj
   rw [List.getElem_set_self, List.getD, List.getElem?_eq_getElem h]; rfl
 · rw [List.getElem_set_ne hj]
structure Uns (secs : List (List Int)) (uns : List Un) (base : List (List Int)) (F f : Nat) : Prop where
 und : undo uns secs = base
 mem : ∀ u ∈ uns, u.new = secs.getD u.pos [] ∧ F ≤ u.pos ∧ u.pos < f
theorem Uns.put {secs base : List (List Int)} {uns : List Un} {F f : Nat} {gn : Int} {r : List Int} (h : Uns secs uns base F f) (hF : F ≤ f) : ∀ {N : Nat}, f + N ≤ secs.length → Uns (putK secs f gn r N) (unsK secs uns f gn r N) base F (f + N)
 | 0, _ => h
 | N + 1, hN => by
   have ih := Uns.put (gn := gn) (r := r) h hF (N := N) (by omega)
   have hl : f + N < (putK secs f gn r N).length := by rw [putK_len]; omega
   refine ⟨?_, fun u hu => ?_⟩
   · rw [unsK, putK, undo_snoc]
     dsimp only
     rw [set_back hl]
     exact ih.und
   · rw [unsK] at hu
     rw [putK]
     rcases List.mem_append.1 hu with hu | hu
     · obtain ⟨h1, h2, h3⟩ := ih.mem u hu
       exact ⟨by rw [getD_set_ne (by omega)]; exact h1, h2, by omega⟩
     · obtain rfl := List.mem_singleton.1 hu
       exact ⟨(getD_set_eq hl _).symm, by dsimp only; omega, by dsimp only; omega⟩
def recsGood (secs : List (List Int)) (gn : Int) : Nat → List (List Int) → Prop
 | _, [] => True
 | f, b :: t => (∀ k, k < secN (recN b.length) → f + k < secs.length ∧ (secs.getD (f + k) [] = chunkP gn (recV b) k ∨ partV secs ((f + k : Nat) : Int) gn = none)) ∧ recsGood secs gn (f + secN (recN b.length)) t
end Go.Proofs.YtogjhjiapinmcaaDoor.K
