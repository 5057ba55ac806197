/- Plain facts on lists of members: filtered, sorted, each once. -/
import Derived.Test.YtmdckdhogbbhlaaNums
import Derived.Test.YtmdckdhogbbhlaaShelf
import Derived.Sort.OwnSortedInts
import Derived.Lib.SlicesCompact
namespace Go.Proofs.Ytmdckdhogbbhlaa.K
open Go.ChangeShapes Go.WideShapes Go.ChangeAt Go.RowKit
set_option linter.unusedVariables false

theorem strict_ext : ∀ (a b : List Int), a.Pairwise (· < ·) → b.Pairwise (· < ·) → (∀ x, x ∈ a ↔ x ∈ b) → a = b
  | [], [], _, _, _ => rfl
  | [], y :: b, _, _, h => absurd ((h y).2 (by simp)) (by simp)
  | x :: a, [], _, _, h => absurd ((h x).1 (by simp)) (by simp)
  | x :: a, y :: b, ha, hb, h => by
    have ha' := List.pairwise_cons.1 ha
    have hb' := List.pairwise_cons.1 hb
    have e : x = y := by
      rcases List.mem_cons.1 ((h x).1 (by simp)) with e | h1
      · exact e
      · rcases List.mem_cons.1 ((h y).2 (by simp)) with e | h2
        · exact e.symm
        · have := ha'.1 y h2; have := hb'.1 x h1; omega
    subst e
    congr 1
    refine strict_ext a b ha'.2 hb'.2 (fun z => ⟨fun hz => ?_, fun hz => ?_⟩)
    · rcases List.mem_cons.1 ((h z).1 (by simp [hz])) with e | h1
      · have := ha'.1 z hz; omega
      · exact h1
    · rcases List.mem_cons.1 ((h z).2 (by simp [hz])) with e | h1
      · have := hb'.1 z hz; omega
      · exact h1

theorem compact_mem (zs : List Int) (x : Int) : x ∈ Lib.compact zs ↔ x ∈ zs := by
  unfold Lib.compact Lib.compactUpTo
  simp only [List.mem_map, List.mem_filter, List.mem_range]
  constructor
  · rintro ⟨j, ⟨hj, _⟩, rfl⟩
    have : zs.toArray[j]! = zs[j] := by simp [hj]
    rw [this]; exact List.getElem_mem hj
  · intro hx
    obtain ⟨j, hj, rfl⟩ := List.getElem_of_mem hx
    clear hx
    induction j with
    | zero => exact ⟨0, ⟨hj, by simp [Lib.keeps]⟩, by simp [hj]⟩
    | succ j ih =>
      by_cases hk : Lib.keeps zs.toArray (j + 1) = true
      · exact ⟨j + 1, ⟨hj, hk⟩, by simp [hj]⟩
      · have he : zs[j + 1] = zs[j] := by
          simp [Lib.keeps, hj, show j < zs.length by omega] at hk
          exact hk
        rw [he]
        exact ih (by omega)

theorem compact_strict (zs : List Int) (hs : zs.Pairwise (· ≤ ·)) : (Lib.compact zs).Pairwise (· < ·) := by
  unfold Lib.compact Lib.compactUpTo
  rw [List.pairwise_map]
  have hidx := List.pairwise_iff_getElem.1 hs
  have hr : ((List.range zs.length).filter (Lib.keeps zs.toArray)).Pairwise (· < ·) := List.Pairwise.filter _ List.pairwise_lt_range
  refine List.Pairwise.imp_of_mem ?_ hr
  intro i j hi hj hij
  simp only [List.mem_filter, List.mem_range] at hi hj
  obtain ⟨hi1, _⟩ := hi
  obtain ⟨hj1, hk⟩ := hj
  rcases j with _ | j
  · omega
  · have h1 : zs[j + 1] ≠ zs[j] := by
      simp [Lib.keeps, hj1, show j < zs.length by omega] at hk
      exact hk
    have h2 := hidx j (j + 1) (by omega) hj1 (by omega)
    have h3 : zs[i] ≤ zs[j] := by
      by_cases e : i = j
      · subst e; omega
      · exact hidx i j hi1 (by omega) (by omega)
    have e1 : zs.toArray[i]! = zs[i] := by simp [hi1]
    have e2 : zs.toArray[j + 1]! = zs[j + 1] := by simp [hj1]
    rw [e1, e2]; omega

/-- May there be a node n? -/
def okB (n : Int) : Bool := decide (0 ≤ n ∧ n < 7)
/-- Those of l that may be, rising, each once: as the program makes it. -/
def ofL (l : List Int) : List Int := Lib.compact ((l.filter okB).mergeSort fun x y => decide (x ≤ y))
/-- The same, told plainly. -/
def canon (l : List Int) : List Int := [0, 1, 2, 3, 4, 5, 6].filter fun n => l.contains n

theorem canon_mem (l : List Int) (x : Int) : x ∈ canon l ↔ x ∈ l ∧ 0 ≤ x ∧ x < 7 := by
  unfold canon
  simp only [List.mem_filter, List.contains_iff_mem, List.mem_cons, List.not_mem_nil, or_false]
  constructor
  · rintro ⟨h, hl⟩; exact ⟨hl, by omega, by omega⟩
  · rintro ⟨hl, h0, h1⟩; exact ⟨by omega, hl⟩
theorem canon_strict (l : List Int) : (canon l).Pairwise (· < ·) := List.Pairwise.filter _ (by decide)
theorem ofL_canon (l : List Int) : ofL l = canon l := by
  refine strict_ext _ _ (compact_strict _ ?_) (canon_strict l) (fun x => ?_)
  · have := List.pairwise_mergeSort (le := fun x y : Int => decide (x ≤ y)) (by intro a b c h1 h2; simp at *; omega) (by intro a b; simp; omega) (l.filter okB)
    exact this.imp (by intro a b h; simpa using h)
  · unfold ofL
    rw [compact_mem, canon_mem, List.mem_mergeSort, List.mem_filter]
    simp [okB]
theorem canon_len (l : List Int) : (canon l).length ≤ 7 := List.length_filter_le _ _

end Go.Proofs.Ytmdckdhogbbhlaa.K
