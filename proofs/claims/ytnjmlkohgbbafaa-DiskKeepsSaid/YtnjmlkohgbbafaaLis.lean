/- Slices of slices of bytes that came in. -/
import Derived.Test.YtnjmlkohgbbafaaBytes
import Derived.Deep.Matrix
namespace Go.Proofs.Ytnjmlkohgbbafaa.K
open Go.ChangeShapes Go.WideShapes Go.ChangeAt Go.RowKit
set_option linter.unusedVariables false

/-- A slice of slices of bytes, as lists. -/
def IsLists (w : World) (v : Value) (ls : List (List Int)) : Prop :=
  ∃ a c, v = .slice a ls.length c ∧ (ls.length = 0 ∨ ∃ b off, a = some ⟨b, off, none⟩ ∧ b < w.heap.size ∧ ∀ j, j < ls.length → ∃ u, w.cell? ⟨b, off + j, none⟩ = some u ∧ IsNums .u8 w u (ls.getD j []))

theorem IsLists.below' {B : Nat} {w w' : World} {v : Value} {ls : List (List Int)} (h : IsLists w v ls) (hb : Below B w w') (hB : w.heap.size ≤ B) : IsLists w' v ls := by
  obtain ⟨a, c, rfl, h | ⟨b, off, rfl, h1, h2⟩⟩ := h
  · exact ⟨a, c, rfl, .inl h⟩
  · refine ⟨_, c, rfl, .inr ⟨b, off, rfl, by have := hb.size; omega, fun j hj => ?_⟩⟩
    obtain ⟨u, hu, hn⟩ := h2 j hj
    exact ⟨u, by rw [hb.cell (by show b < B; omega)]; exact hu, hn.below hb hB⟩

/-- A slice of slices of bytes that came in, as a list of lists. -/
theorem IsLists.ofTrod {H : Type} {enc : TypeId × Value → H} {W : World} {base : Nat} {held : Bool} {fuel : Nat} {a : Option Addr} {len cap : Nat} {x : DataW H × List MemPlace}
    (h : DataW.trod enc Try.prog W base (fun _ => true) held fuel 22 [.slice a len cap] = some x) (ce : Try.prog.cellsOf 27 = 1) (cq : Try.prog.cellsOf 5 = 1) :
    ∃ ls, IsLists W (.slice a len cap) ls ∧ ls.length = len ∧ len ≤ cap ∧ cap ≤ maxLen ∧ ∀ j, j < ls.length → ∀ y ∈ ls.getD j [], 0 ≤ y ∧ y ≤ 255 := by
  rcases Deep.open_int_rows Try.underlying22 Try.underlying27 Try.underlying5 ce cq h with ⟨hcs, -⟩ | ⟨b, l, c, A, L, C, Z, hcs, -, hl, hm, -, hr⟩
  · simp only [List.cons.injEq, Value.slice.injEq, and_true] at hcs
    obtain ⟨rfl, rfl, rfl⟩ := hcs
    exact ⟨[], ⟨none, 0, rfl, .inl rfl⟩, rfl, Nat.le_refl _, Nat.zero_le _, by simp⟩
  · simp only [List.cons.injEq, Value.slice.injEq, and_true] at hcs
    obtain ⟨rfl, rfl, rfl⟩ := hcs
    refine ⟨(List.range len).map fun r => (Z r).take (L r), ?_, by simp, hl, hm, fun j hj => ?_⟩
    · refine ⟨some b, cap, by simp, ?_⟩
      by_cases h0 : len = 0
      · left; simp [h0]
      obtain ⟨bb, bo, spot⟩ := b
      have hc0 := (hr 0 (by omega)).1
      have hspot : spot = none := by simpa [Addr.add] using World.cell?_spot hc0
      subst hspot
      refine .inr ⟨bb, bo, rfl, World.block_lt_of_cell? W _ hc0, fun j hj => ?_⟩
      simp only [List.length_map, List.length_range] at hj
      obtain ⟨c1, c2, c3, c4, c5, c6, c7⟩ := hr j (by omega)
      rw [Addr.add_lit] at c1
      refine ⟨_, c1, ?_⟩
      have e : ((List.range len).map fun r => (Z r).take (L r)).getD j [] = (Z j).take (L j) := by simp [List.getD, hj]
      rw [e]
      have hlen : ((Z j).take (L j)).length = L j := by simp; omega
      refine ⟨A j, C j, by rw [hlen], ?_⟩
      by_cases hL : L j = 0
      · left; rw [hlen]; exact hL
      obtain ⟨a', ha'⟩ : ∃ a', A j = some a' := by
        cases hA : A j with
        | none => have := c6 hA; omega
        | some a' => exact ⟨a', rfl⟩
      obtain ⟨ab, ao, asp⟩ := a'
      have c8 := (c7 _ ha').2
      have hc1 := c8 0 (by omega)
      have hsp : asp = none := by simpa [Addr.add] using World.cell?_spot hc1
      subst hsp
      refine .inr ⟨ab, ao, ha', World.block_lt_of_cell? W _ hc1, fun q hq => ?_⟩
      rw [hlen] at hq
      have := c8 q (by omega)
      rw [Addr.add_lit] at this
      rw [this]
      simp only [List.getD, List.getElem?_take]
      rw [if_pos hq]
    · simp only [List.length_map, List.length_range] at hj
      obtain ⟨c1, c2, c3, c4, c5, c6, c7⟩ := hr j (by omega)
      have e : ((List.range len).map fun r => (Z r).take (L r)).getD j [] = (Z j).take (L j) := by simp [List.getD, hj]
      rw [e]
      intro y hy
      have := bounds_u8 (c5 y (List.mem_of_mem_take hy))
      omega
end Go.Proofs.Ytnjmlkohgbbafaa.K
