/- chunk: histories of blocks, the mathematics. -/
import Derived.Test.YteglmahnkfgelaaGreatG1
namespace Go.Proofs.YteglmahnkfgelaaGreat.K
open Go.ChangeShapes Go.WideShapes Go.ChangeAt Go.RowKit
set_option linter.unusedVariables false
set_option linter.unusedSimpArgs false
abbrev Ver := Int × List Int
abbrev v0 : Ver := (0, [])
def upN (h : List Ver) (t : Int) : Nat := (h.takeWhile fun v => decide (v.1 ≤ t)).length
def Rise (h : List Ver) : Prop := h.Pairwise fun a b => a.1 < b.1
def pruneF (h : List Ver) (f : Int) : List Ver := h.drop (upN h f - 1)
def addF (h : List Ver) (s : Int) (d : List Int) : List Ver := if (1 ≤ s ∧ s ≤ 1099511627776) ∧ (h = [] ∨ (h.getD (h.length - 1) v0).1 < s) then h ++ [(s, d)] else h
def atF (h : List Ver) (t : Int) : Option (List Int) := if upN h t = 0 then none else some (h.getD (upN h t - 1) v0).2
theorem upN_nil (t : Int) : upN [] t = 0 := rfl
theorem upN_cons (v : Ver) (h : List Ver) (t : Int) : upN (v :: h) t = if v.1 ≤ t then upN h t + 1 else 0 := by
 unfold upN
 rw [List.takeWhile_cons]
 by_cases hv : v.1 ≤ t
 · rw [if_pos hv, if_pos (by simpa using hv)]; rfl
 rw [if_neg hv, if_neg (by simpa using hv)]; rfl
theorem upN_le : ∀ (h : List Ver) (t : Int), upN h t ≤ h.length
 | [], _ => Nat.le_refl _
 | v :: h, t => by
   rw [upN_cons, List.length_cons]
   split
   · have := upN_le h t; omega
   omega
theorem upN_eq {t : Int} : ∀ {h : List Ver} {i : Nat}, (∀ q, q < i → (h.getD q v0).1 ≤ t) → (i < h.length → t < (h.getD i v0).1) → i ≤ h.length → upN h t = i
 | [], i, _, _, hi => by simp at hi; subst hi; rfl
 | v :: h, 0, _, h2, _ => by
   have := h2 (by simp)
   rw [upN_cons, if_neg (by simpa using this)]
 | v :: h, i + 1, h1, h2, hi => by
   have hv : v.1 ≤ t := by simpa using h1 0 (by omega)
   rw [upN_cons, if_pos hv, upN_eq (i := i) (fun q hq => by have := h1 (q + 1) (by omega); simpa using this) (fun hq => by have := h2 (by rw [List.length_cons]; omega); simpa using this) (by rw [List.length_cons] at hi; omega)]
theorem upN_below {t : Int} : ∀ {h : List Ver} {q : Nat}, q < upN h t → (h.getD q v0).1 ≤ t
 | [], q, hq => by rw [upN_nil] at hq; omega
 | v :: h, q, hq => by
   rw [upN_cons] at hq
   split at hq
   · rename_i hv
     cases q with
     | zero => simpa using hv
     | succ q => have := upN_below (t := t) (h := h) (q := q) (by omega); simpa using this
   omega
theorem upN_at {t : Int} : ∀ {h : List Ver}, upN h t < h.length → t < (h.getD (upN h t) v0).1
 | [], hq => by simp at hq
 | v :: h, hq => by
   rw [upN_cons] at hq ⊢
   split
   · rename_i hv
     rw [if_pos hv] at hq
     have := upN_at (t := t) (h := h) (by rw [List.length_cons] at hq; omega)
     simpa using this
   rename_i hv
   simpa using hv
theorem Rise.lt {h : List Ver} (hr : Rise h) {i j : Nat} (hij : i < j) (hj : j < h.length) : (h.getD i v0).1 < (h.getD j v0).1 := by
 have := List.pairwise_iff_getElem.1 hr i j (by omega) hj hij
 rw [List.getD, List.getD, List.getElem?_eq_getElem hj, List.getElem?_eq_getElem (by omega)]
 exact this
theorem Rise.above {h : List Ver} (hr : Rise h) {t : Int} {j : Nat} (hj : j < h.length) (hu : upN h t ≤ j) : t < (h.getD j v0).1 := by
 have h1 := upN_at (h := h) (t := t) (by omega)
 rcases Nat.lt_or_ge (upN h t) j with h2 | h2
 · have := hr.lt h2 hj; omega
 obtain rfl : upN h t = j := by omega
 exact h1
theorem upN_app {h n : List Ver} {t : Int} (hn : ∀ v ∈ n, t < v.1) : upN (h ++ n) t = upN h t := by
 induction h with
 | nil =>
   cases n with
   | nil => rfl
   | cons v n => rw [List.nil_append, upN_cons, if_neg (by have := hn v (by simp); omega), upN_nil]
 | cons v h ih => rw [List.cons_append, upN_cons, upN_cons, ih]
theorem upN_all {h : List Ver} {t : Int} (hh : ∀ v ∈ h, v.1 ≤ t) (n : List Ver) : upN (h ++ n) t = h.length + upN n t := by
 induction h with
 | nil => simp
 | cons v h ih =>
   rw [List.cons_append, upN_cons, if_pos (hh v (by simp)), ih (fun x hx => hh x (by simp [hx])), List.length_cons]; omega
theorem upN_drop {h : List Ver} {t : Int} : ∀ {k : Nat}, k ≤ upN h t → upN (h.drop k) t = upN h t - k := by
 intro k
 induction k generalizing h with
 | zero => intro _; rfl
 | succ k ih =>
   intro hk
   cases h with
   | nil => rw [upN_nil] at hk; omega
   | cons v h =>
     rw [upN_cons] at hk ⊢
     split at hk
     · rename_i hv
       rw [List.drop_succ_cons, ih (by omega), if_pos hv]; omega
     omega
theorem upN_mono {h : List Ver} {s t : Int} (hst : s ≤ t) : upN h s ≤ upN h t := by
 induction h with
 | nil => exact Nat.le_refl _
 | cons v h ih =>
   rw [upN_cons, upN_cons]
   split
   · rw [if_pos (by omega)]; omega
   omega
theorem prune_prune {h n : List Ver} {f g : Int} (hfg : f ≤ g) : pruneF (pruneF h f ++ n) g = pruneF (h ++ n) g := by
 unfold pruneF
 have h1 : upN h f - 1 ≤ h.length := by have := upN_le h f; omega
 have h2 : upN h f ≤ upN (h ++ n) g := by
   have : upN h f ≤ upN (h ++ n) f := by
     clear h1
     induction h with
     | nil => rw [upN_nil]; omega
     | cons v h ih => rw [List.cons_append, upN_cons, upN_cons]; split <;> omega
   exact Nat.le_trans this (upN_mono hfg)
 rw [← List.drop_append_of_le_length h1, upN_drop (by omega), List.drop_drop]
 congr 1
 omega
theorem prune_rise {h : List Ver} {f : Int} (hr : Rise h) : Rise (pruneF h f) := List.Pairwise.drop hr
theorem mem_getD {h : List Ver} {j : Nat} (hj : j < h.length) : h.getD j v0 ∈ h := by
 rw [List.getD, List.getElem?_eq_getElem hj]; exact List.getElem_mem hj
theorem at_prune {h : List Ver} {f t : Int} (hft : f ≤ t) : atF (pruneF h f) t = atF h t := by
 unfold atF pruneF
 have h0 := upN_mono (h := h) hft
 rw [upN_drop (by omega)]
 by_cases hz : upN h t = 0
 · rw [if_pos hz, if_pos (by omega)]
 rw [if_neg hz, if_neg (by omega)]
 congr 2
 rw [List.getD, List.getD, List.getElem?_drop]
 congr 2
 omega
theorem at_app {h n : List Ver} {t : Int} (hn : ∀ v ∈ n, t < v.1) : atF (h ++ n) t = atF h t := by
 unfold atF
 rw [upN_app hn]
 by_cases hz : upN h t = 0
 · rw [if_pos hz, if_pos hz]
 rw [if_neg hz, if_neg hz]
 have := upN_le h t
 congr 2
 rw [List.getD, List.getD, List.getElem?_append_left (by omega)]
theorem at_last {h : List Ver} {t : Int} (hh : ∀ v ∈ h, v.1 ≤ t) : atF h t = (h.getLast?).map (·.2) := by
 unfold atF
 have e := upN_all hh []
 rw [List.append_nil, upN_nil, Nat.add_zero] at e
 rw [e]
 by_cases hz : h.length = 0
 · obtain rfl := List.length_eq_zero_iff.1 hz
   rfl
 rw [if_neg hz, List.getLast?_eq_getElem?, List.getD, List.getElem?_eq_getElem (by omega)]
 rfl
theorem add_yes {h : List Ver} {s : Int} {d : List Int} (h1 : 1 ≤ s ∧ s ≤ 1099511627776) (hh : ∀ v ∈ h, v.1 < s) : addF h s d = h ++ [(s, d)] := by
 have hc : h = [] ∨ (h.getD (h.length - 1) v0).1 < s := by
   by_cases hz : h = []
   · exact .inl hz
   exact .inr (hh _ (mem_getD (by have := List.length_pos_iff.2 hz; omega)))
 unfold addF
 rw [if_pos ⟨h1, hc⟩]
end Go.Proofs.YteglmahnkfgelaaGreat.K
