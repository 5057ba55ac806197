/- chunk: the reference's prune, and what is told as changed. -/
import Derived.Test.YteglmahnkfgelaaGreatChuO
namespace Go.Proofs.YteglmahnkfgelaaGreat.K
open Go.ChangeShapes Go.WideShapes Go.ChangeAt Go.RowKit
set_option linter.unusedVariables false
set_option linter.unusedSimpArgs false
def rpr (h : List Ver) (f : Int) (i : Nat) : List Ver := (h.take i).drop (upN h f - 1)
theorem rpr_zero (h : List Ver) (f : Int) : rpr h f 0 = [] := by unfold rpr; rw [List.take_zero, List.drop_nil]
theorem rpr_all (h : List Ver) (f : Int) : rpr h f h.length = pruneF h f := by unfold rpr pruneF; rw [List.take_length]
theorem rpr_yes {h : List Ver} {f : Int} {i : Nat} {v : Ver} (hi : h[i]? = some v) (hu : upN h f ≤ i + 1) : rpr h f (i + 1) = rpr h f i ++ [v] := by
 unfold rpr
 rw [take_snoc hi, List.drop_append_of_le_length]
 have := (List.getElem?_eq_some_iff.1 hi).1
 rw [List.length_take]; omega
theorem rpr_no {h : List Ver} {f : Int} {i : Nat} (hu : i + 1 < upN h f) : rpr h f (i + 1) = rpr h f i := by
 unfold rpr
 rw [List.drop_eq_nil_of_le (by rw [List.length_take]; omega), List.drop_eq_nil_of_le (by rw [List.length_take]; omega)]
theorem rpr_gt {h : List Ver} (hr : Rise h) {f : Int} {i : Nat} (hi : i < h.length) : f < (h.getD i v0).1 ↔ upN h f ≤ i := by
 constructor
 · intro hg
   rcases Nat.lt_or_ge i (upN h f) with h1 | h1
   · have := upN_below h1; omega
   exact h1
 intro hu
 exact hr.above hi hu
def chgF (h : List Ver) (a b : Int) : Bool := decide (upN h a < h.length) && decide ((h.getD (upN h a) v0).1 ≤ b)
theorem chg_no {h : List Ver} (hr : Rise h) {a b : Int} (hab : a ≤ b) (hc : chgF h a b = false) : atF h a = atF h b := by
 have hu : upN h b = upN h a := by
   have h1 := upN_mono (h := h) hab
   have h2 := upN_le h a
   have h3 := upN_le h b
   rcases Nat.lt_or_ge (upN h a) h.length with h4 | h4
   · rcases Nat.lt_or_ge (upN h a) (upN h b) with h5 | h5
     · have h6 := upN_below h5
       unfold chgF at hc
       rw [decide_eq_true h4, decide_eq_true h6] at hc
       cases hc
     omega
   omega
 unfold atF
 rw [hu]
theorem chg_self {h : List Ver} (a : Int) : chgF h a a = false := by
 unfold chgF
 rcases Nat.lt_or_ge (upN h a) h.length with h4 | h4
 · have := upN_at h4
   rw [decide_eq_false (by omega : ¬ (h.getD (upN h a) v0).1 ≤ a), Bool.and_false]
 rw [decide_eq_false (by omega : ¬ upN h a < h.length), Bool.false_and]
def chgL (H : List (List Ver)) (a b : Int) (k : Nat) : List Int := ((List.range k).filter fun i => chgF (H.getD i []) a b).map fun (i : Nat) => (i : Int)
theorem chgL_yes {H : List (List Ver)} {a b : Int} {k : Nat} (h : chgF (H.getD k []) a b = true) : chgL H a b (k + 1) = chgL H a b k ++ [(k : Int)] := by
 unfold chgL; rw [List.range_succ, List.filter_append, List.map_append, List.filter_cons_of_pos (by exact h), List.filter_nil]; rfl
theorem chgL_no {H : List (List Ver)} {a b : Int} {k : Nat} (h : chgF (H.getD k []) a b = false) : chgL H a b (k + 1) = chgL H a b k := by
 unfold chgL; rw [List.range_succ, List.filter_append, List.map_append, List.filter_cons_of_neg (by show ¬ chgF (H.getD k []) a b = true; rw [h]; simp), List.filter_nil, List.map_nil, List.append_nil]
theorem chgL_len (H : List (List Ver)) (a b : Int) (k : Nat) : (chgL H a b k).length ≤ k := by
 unfold chgL; rw [List.length_map]; exact Nat.le_trans (List.length_filter_le _ _) (Nat.le_of_eq List.length_range)
theorem chgL_mem {H : List (List Ver)} {a b : Int} {k i : Nat} (hi : i < k) (hn : (i : Int) ∉ chgL H a b k) : chgF (H.getD i []) a b = false := by
 cases h : chgF (H.getD i []) a b with
 | false => rfl
 | true => exact absurd (List.mem_map.2 ⟨i, List.mem_filter.2 ⟨List.mem_range.2 hi, h⟩, rfl⟩) hn
theorem chgL_self (H : List (List Ver)) (a : Int) (k : Nat) : chgL H a a k = [] := by
 unfold chgL
 rw [List.filter_eq_nil_iff.2 (fun i _ => by rw [chg_self]; simp), List.map_nil]
end Go.Proofs.YteglmahnkfgelaaGreat.K
