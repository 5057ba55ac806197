/- Versions that came in. -/
import Derived.Test.YtnjmlkohgbbafaaVers
import Derived.Deep.SlicePairs
namespace Go.Proofs.Ytnjmlkohgbbafaa.K
open Go.ChangeShapes Go.WideShapes Go.ChangeAt Go.RowKit
set_option linter.unusedVariables false

/-- A slice of bytes that is one cell of a datum. -/
theorem IsNums.ofTrod {H : Type} {enc : TypeId × Value → H} {W : World} {base : Nat} {held : Bool} {fuel : Nat} {v : Value} {x : DataW H × List MemPlace}
    (h : DataW.trod enc Try.prog W base (fun _ => true) held fuel 27 [v] = some x) : ∃ ys, IsNums .u8 W v ys ∧ ∀ y ∈ ys, 0 ≤ y ∧ y ≤ 255 := by
  rcases open_ints Try.underlying27 Try.underlying5 (by kernel_rfl) h with ⟨hcs, _⟩ | ⟨x, l, c, zs, hcs, _, hl, hm, hz, _, hcell, hwz⟩
  · obtain rfl : v = .slice none 0 0 := by simpa using hcs
    exact ⟨[], IsNums.nil _ _ _ _, by simp⟩
  · obtain rfl : v = .slice (some x) l c := by simpa using hcs
    obtain ⟨ys, h1, -, -, h4⟩ := IsNums.ofRow (k := .u8) (w := W) (a := some x) (len := l) (cap := c) (zs := zs) (.inr ⟨x, rfl, hl, hm, by simpa using hz, hcell, hwz⟩)
    exact ⟨ys, h1, fun y hy => by have := bounds_u8 (h4 y hy); omega⟩

theorem Vers.ofTrod {H : Type} {enc : TypeId × Value → H} {W : World} {base : Nat} {held : Bool} {fuel : Nat} {a : Option Addr} {len cap : Nat} {x : DataW H × List MemPlace}
    (h : DataW.trod enc Try.prog W base (fun _ => true) held fuel 41 [.slice a len cap] = some x) :
    ∃ ks, Vers W (.slice a len cap) ks ∧ ks.length = len := by
  rcases Deep.open_slice_pairs Try.underlying41 Try.underlying54 (by kernel_rfl) rfl rfl (by kernel_rfl) (by kernel_rfl) h with ⟨hcs, -⟩ | ⟨b, l, c, m, n, V0, V1, D0, D1, P0, P1, hcs, -, hl, hm, hmm, -, hr⟩
  · simp only [List.cons.injEq, Value.slice.injEq, and_true] at hcs
    obtain ⟨rfl, rfl, rfl⟩ := hcs
    exact ⟨[], Vers.nil _, rfl⟩
  · simp only [List.cons.injEq, Value.slice.injEq, and_true] at hcs
    obtain ⟨rfl, rfl, rfl⟩ := hcs
    have hmc : m = cap := by simpa using hmm
    subst hmc
    have each : ∀ i, i < len → ∃ r : VR, W.cell? (b.add (i * 2)) = some (.int .i64 r.seq) ∧ W.cell? (b.add (i * 2 + 1)) = some r.val ∧ IsNums .u8 W r.val r.data := by
      intro i hi
      obtain ⟨h1, h2, h3, h4⟩ := hr i (by omega)
      obtain ⟨k, hk, -⟩ := DataW.trod_int Try.underlying2 h3
      obtain ⟨ys, h5, -⟩ := IsNums.ofTrod h4
      have hk' : V0 i = .int .i64 k := by simpa using hk
      exact ⟨⟨k, ys, V1 i⟩, by rw [← hk']; exact h1, h2, h5⟩
    haveI : Inhabited VR := ⟨⟨0, [], .slice none 0 0⟩⟩
    obtain ⟨R, hR⟩ := Deep.choose_lt each
    have hget : ∀ j, j < len → ((List.range len).map R).getD j ⟨0, [], .slice none 0 0⟩ = R j := fun j hj => by simp [List.getD, hj]
    refine ⟨((List.range len).map R).map VR.key, ⟨(List.range len).map R, rfl, ⟨some b, m, by simp, by simpa using hl, ?_⟩, ?_⟩, by simp⟩
    · by_cases h0 : len = 0
      · exact .inl ⟨by simp [h0], fun h => by cases h⟩
      obtain ⟨bb, bo, spot⟩ := b
      have hc0 := (hR 0 (by omega)).1
      have hspot : spot = none := by simpa [Addr.add] using World.cell?_spot hc0
      subst hspot
      refine .inr ⟨bb, bo, rfl, World.block_lt_of_cell? W _ hc0, fun k hk j u hj => ?_⟩
      simp only [List.length_map, List.length_range] at hk
      rw [hget k hk] at hj
      obtain ⟨h1, h2, -⟩ := hR k hk
      rw [Addr.add_lit] at h1 h2
      match j, hj with
      | 0, hj => simp [VR.cells] at hj; subst hj; exact h1
      | 1, hj => simp [VR.cells] at hj; subst hj; rw [← Nat.add_assoc] at h2; exact h2
    · intro r hr
      obtain ⟨i, hi, rfl⟩ := List.mem_map.1 hr
      exact (hR i (by simpa using hi)).2.2
end Go.Proofs.Ytnjmlkohgbbafaa.K
