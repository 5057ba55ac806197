/- chain: parts of a chain, some merged with the one ahead. -/
import Derived.Test.YtflcgpajodfkoaaDoorCha5m
import Derived.Test.YtflcgpajodfkoaaDoorG2
namespace Go.Proofs.YtflcgpajodfkoaaDoor.K
open Go.ChangeShapes Go.WideShapes Go.ChangeAt Go.RowKit
set_option linter.unusedVariables false
set_option linter.unusedSimpArgs false
theorem endT_last {fr : Int} {l : List StrV} {s : StrV} {n : Nat} (hn : l.length = n + 1) (h : l[n]? = some s) : endT fr l = s.to := by
 have := endT_take (fr := fr) h
 rwa [← hn, List.take_length] at this
theorem set_last {pi : List StrV} {x q : StrV} : ((pi ++ [x]).map strD).set pi.length (strD q) = (pi ++ [q]).map strD := by
 rw [List.map_append, List.map_append, List.set_append_right _ _ (by simp), List.length_map, Nat.sub_self]; rfl
theorem lt_snoc9 (pi : List StrV) (x : StrV) : pi.length < ((pi ++ [x]).map strD).length := by simp
theorem last_get (pi : List StrV) (x : StrV) : (pi ++ [x])[pi.length]? = some x := by
 rw [List.getElem?_append_right (Nat.le_refl _), Nat.sub_self]; rfl
theorem endT_full {fr : Int} {l : List StrV} {i : Nat} (h : i = l.length) : endT fr (l.take i) = endT fr l := by rw [h, List.take_length]
theorem endT_next {y : VolV} {fr : Int} {l : List StrV} {i t : Nat} {a : Int} (h : l[i]? = some (seg y a t)) : endT fr (l.take (i + 1)) = (t : Int) := endT_take h
theorem part_last {y : VolV} {pi : List StrV} {x : StrV} (h : SegCh y (-1) (pi ++ [x])) : ∃ b : Nat, SegCh y (-1) pi ∧ -1 ≤ endT (-1) pi ∧ (endT (-1) pi).toNat ≤ b ∧ b ≤ y.ws.length ∧ x = seg y (endT (-1) pi) b ∧ endT (-1) (pi ++ [x]) = (b : Int) := by
 obtain ⟨c1, b, h1, h2, h3, _⟩ := SegCh.app.1 h
 have hb := c1.end_bd (by omega) (by omega)
 exact ⟨b, c1, hb.2.1, h1, h2, h3, by rw [endT_snoc, h3]; rfl⟩
theorem part_next {y : VolV} {pi : List StrV} {b t : Nat} (c1 : SegCh y (-1) pi) (h1 : (endT (-1) pi).toNat ≤ b) (h2 : b ≤ t) (h3 : t ≤ y.ws.length) : mergeV (seg y (endT (-1) pi) b) (seg y (b : Int) t) = seg y (endT (-1) pi) t ∧ SegCh y (-1) (pi ++ [seg y (endT (-1) pi) t]) :=
 ⟨seg_merge h1 h2, SegCh.app.2 ⟨c1, t, Nat.le_trans h1 h2, h3, rfl, trivial⟩⟩
end Go.Proofs.YtflcgpajodfkoaaDoor.K
