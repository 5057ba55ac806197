/- Appending slices to a slice of slices of the call's own; lists of bytes as values; lemmas for any program that has []byte and [][]byte. -/
import Derived.Test.YtkbehdjaegomgaaDoorCrcK
import Derived.Test.YtkbehdjaegomgaaDoorSide
import Derived.Deep.Matrix
namespace Go.Proofs.YtkbehdjaegomgaaDoor.K
open Go.ChangeShapes Go.WideShapes Go.ChangeAt Go.RowKit
set_option linter.unusedVariables false

/-- The value is a slice whose cells are us. -/
def IsVals (w : World) (v : Value) (us : List Value) : Prop :=
  ∃ a c, v = .slice a us.length c ∧ (us.length = 0 ∨ ∃ b off, a = some ⟨b, off, none⟩ ∧ b < w.heap.size ∧ ∀ j, j < us.length → w.cell? ⟨b, off + j, none⟩ = some (us.getD j default))

theorem IsVals.below {B : Nat} {w w' : World} {v : Value} {us : List Value} (h : IsVals w v us) (hb : Below B w w') (hB : w.heap.size ≤ B) : IsVals w' v us := by
  obtain ⟨a, c, rfl, h | ⟨b, off, rfl, h1, h2⟩⟩ := h
  · exact ⟨a, c, rfl, .inl h⟩
  · refine ⟨_, c, rfl, .inr ⟨b, off, rfl, by have := hb.size; omega, fun j hj => ?_⟩⟩
    rw [hb.cell (by show b < B; omega)]
    exact h2 j hj

theorem IsLists.below' {B : Nat} {w w' : World} {v : Value} {ls : List (List Int)} (h : IsLists w v ls) (hb : Below B w w') (hB : w.heap.size ≤ B) : IsLists w' v ls := by
  obtain ⟨a, c, rfl, h | ⟨b, off, rfl, h1, h2⟩⟩ := h
  · exact ⟨a, c, rfl, .inl h⟩
  · refine ⟨_, c, rfl, .inr ⟨b, off, rfl, by have := hb.size; omega, fun j hj => ?_⟩⟩
    obtain ⟨u, hu, hn⟩ := h2 j hj
    exact ⟨u, by rw [hb.cell (by show b < B; omega)]; exact hu, hn.below hb hB⟩

/-- A list of slices has its cells. -/
theorem IsLists.vals {w : World} {v : Value} {ls : List (List Int)} (h : IsLists w v ls) :
    ∃ us, IsVals w v us ∧ us.length = ls.length ∧ (∀ j, j < us.length → IsNums .u8 w (us.getD j default) (ls.getD j [])) := by
  obtain ⟨a, c, rfl, h | ⟨b, off, rfl, h1, h2⟩⟩ := h
  · obtain rfl := List.length_eq_zero_iff.1 h
    exact ⟨[], ⟨a, c, rfl, .inl rfl⟩, rfl, by simp⟩
  · refine ⟨(List.range ls.length).map fun j => (w.cell? ⟨b, off + j, none⟩).getD default, ⟨_, c, by simp, .inr ⟨b, off, rfl, h1, fun j hj => ?_⟩⟩, by simp, fun j hj => ?_⟩
    · simp only [List.length_map, List.length_range] at hj
      obtain ⟨u, hu, hn⟩ := h2 j hj
      simp [List.getD, hj, hu]
    · simp only [List.length_map, List.length_range] at hj
      obtain ⟨u, hu, hn⟩ := h2 j hj
      simp only [List.getD, List.getElem?_map, List.getElem?_range hj, Option.map_some, Option.getD_some, hu]
      exact hn

theorem IsNums.one {k : IntKind} {w : World} {u : Value} {zs : List Int} (h : IsNums k w u zs) : u.oneCell' = true := by
  obtain ⟨a, c, rfl, _⟩ := h; rfl

/-- What one owns as a row of slices is a list of slices. -/
theorem IsLists.ofOwn {w : World} {B : Nat} {e : TypeId} {v : Value} {n : Nat} {us : List Value} {ls : List (List Int)} (h : w.ownsRow B e 1 v n us) (hl : us.length = ls.length) (hu : ∀ j, j < us.length → IsNums .u8 w (us.getD j default) (ls.getD j [])) : IsLists w v ls := by
  have hn : n = us.length := by have := h.1; omega
  subst hn
  rcases h.2 with ⟨rfl, h0⟩ | ⟨g, cap, cur, rfl, hg, hb, h1, h2, h3, h4⟩
  · obtain rfl := List.length_eq_zero_iff.1 h0
    obtain rfl : ls = [] := List.length_eq_zero_iff.1 (by simpa using hl.symm)
    exact ⟨none, 0, rfl, .inl rfl⟩
  · refine ⟨_, cap, by rw [hl], .inr ⟨g, 0, rfl, (Array.getElem?_eq_some_iff.1 hb).1, fun j hj => ⟨us.getD j default, ?_, hu j (by omega)⟩⟩⟩
    have := h.cellAt j (by omega)
    rw [Nat.zero_add, this]
    simp [List.getD, show j < us.length by omega]

theorem info_bytes : (Tryd.prog.info? 22).map (fun i => (i.zero, i.size, i.bytes)) = some (some (.slice none 0 0), 1, 24) := by kernel_rfl

/-- 'append(v, x...)' of slices, v the call's own. -/
theorem wp_appV {o : Oper} {a : Act} {w : World} {K : Act → World → Prop} {Q : Exit → Act → World → Prop} (s x : Operand)
    (ho : o.op = .call { callee := .builtin .append, args := #[s, x], argTypes := #[23, 23] })
    (base : Nat) (v : Value) (n : Nat) (xs : List Value) (hs : a.eval s = v) (hown : w.ownsRow base 22 1 v n xs)
    (u : Value) (us : List Value) (hx : a.eval x = u) (hu : IsVals w u us) (h1 : ∀ j, j < us.length → (us.getD j default).oneCell' = true) (hn : n + us.length ≤ 1000000000) (hbase : base ≤ w.heap.size)
    (h : ∀ v' w', w'.ownsRow base 22 1 v' (n + us.length) (xs ++ us) → Below base w w' → K (a.put o.dst v') w') : o.wp Tryd.prog a w K Q := by
  obtain ⟨i0, hi, hz0, hz1, hz2⟩ := info_parts info_bytes
  obtain ⟨p, c, rfl, hp⟩ := hu
  have main : ∀ ad : Addr, p = some ad → (∀ j v, us[j]? = some v → w.cell? (ad.add j) = some v) → o.wp Tryd.prog a w K Q := by
    intro ad hpa hcells
    refine wp_append_own w s x 23 ho base 22 i0 (.slice none 0 0) 1 24 Tryd.underlying23 hi hz0 hz1 hz2 rfl (by decide) v n xs hs hown ad us.length c us (by rw [hx, hpa]) (by simp) hcells ?_ (by unfold maxLen; omega) (by omega) hbase ?_
    · intro y hy
      obtain ⟨j, hj, rfl⟩ := List.getElem_of_mem hy
      have := h1 j hj
      simpa [List.getD, hj] using this
    · intro v' w' h2 h3 _
      exact h v' w' h2 ((Below.refl _ w).grown h3 hbase (fun j hj => (hown.lt j hj).1))
  by_cases h0 : us.length = 0
  · obtain rfl := List.length_eq_zero_iff.1 h0
    cases p with
    | none => exact Lib.wp_append_run w s x 23 23 ho v _ hs hx v w (run_app_none Tryd.underlying23 hi hown c) (h v w (by simpa using hown) (Below.refl _ _))
    | some ad => exact main ad rfl (by simp)
  · rcases hp with hp | ⟨b, off, rfl, hblk, hc⟩
    · exact absurd hp h0
    · refine main _ rfl ?_
      intro j y hj
      have hjn : j < us.length := (List.getElem?_eq_some_iff.1 hj).1
      rw [Addr.add_lit, hc j hjn]
      simp [List.getD, hj]

/-- A slice of slices of bytes that came in, as a list of lists. -/
theorem IsLists.ofTrod {H : Type} {enc : TypeId × Value → H} {W : World} {base : Nat} {held : Bool} {fuel : Nat} {a : Option Addr} {len cap : Nat} {x : DataW H × List MemPlace}
    (h : DataW.trod enc Tryd.prog W base (fun _ => true) held fuel 23 [.slice a len cap] = some x) (ce : Tryd.prog.cellsOf 22 = 1) (cq : Tryd.prog.cellsOf 5 = 1) :
    ∃ ls, IsLists W (.slice a len cap) ls ∧ ls.length = len ∧ len ≤ cap ∧ cap ≤ maxLen ∧ ∀ j, j < ls.length → Bytes (ls.getD j []) := by
  rcases Deep.open_int_rows Tryd.underlying23 Tryd.underlying22 Tryd.underlying5 ce cq h with ⟨hcs, -⟩ | ⟨b, l, c, A, L, C, Z, hcs, -, hl, hm, -, hr⟩
  · simp only [List.cons.injEq, Value.slice.injEq, and_true] at hcs
    obtain ⟨rfl, rfl, rfl⟩ := hcs
    exact ⟨[], ⟨none, 0, rfl, .inl rfl⟩, rfl, Nat.le_refl _, Nat.zero_le _, by simp⟩
  · simp only [List.cons.injEq, Value.slice.injEq, and_true] at hcs
    obtain ⟨rfl, rfl, rfl⟩ := hcs
    refine ⟨(List.range len).map fun r => (Z r).take (L r), ?_, by simp, hl, hm, fun j hj => ?_⟩
    · refine ⟨some b, cap, by simp, ?_⟩
      by_cases h0 : len = 0
      · left; simp [h0]
      obtain ⟨bb, bo, spot⟩ := b
      have hc0 := (hr 0 (by omega)).1
      have hspot : spot = none := by simpa [Addr.add] using World.cell?_spot hc0
      subst hspot
      refine .inr ⟨bb, bo, rfl, World.block_lt_of_cell? W _ hc0, fun j hj => ?_⟩
      simp only [List.length_map, List.length_range] at hj
      obtain ⟨c1, c2, c3, c4, c5, c6, c7⟩ := hr j (by omega)
      rw [Addr.add_lit] at c1
      refine ⟨_, c1, ?_⟩
      have e : ((List.range len).map fun r => (Z r).take (L r)).getD j [] = (Z j).take (L j) := by simp [List.getD, hj]
      rw [e]
      have hlen : ((Z j).take (L j)).length = L j := by simp; omega
      refine ⟨A j, C j, by rw [hlen], ?_⟩
      by_cases hL : L j = 0
      · left; rw [hlen]; exact hL
      obtain ⟨a', ha'⟩ : ∃ a', A j = some a' := by
        cases hA : A j with
        | none => have := c6 hA; omega
        | some a' => exact ⟨a', rfl⟩
      obtain ⟨ab, ao, asp⟩ := a'
      have c8 := (c7 _ ha').2
      have hc1 := c8 0 (by omega)
      have hsp : asp = none := by simpa [Addr.add] using World.cell?_spot hc1
      subst hsp
      refine .inr ⟨ab, ao, ha', World.block_lt_of_cell? W _ hc1, fun q hq => ?_⟩
      rw [hlen] at hq
      have := c8 q (by omega)
      rw [Addr.add_lit] at this
      rw [this]
      simp only [List.getD, List.getElem?_take]
      rw [if_pos hq]
    · simp only [List.length_map, List.length_range] at hj
      obtain ⟨c1, c2, c3, c4, c5, c6, c7⟩ := hr j (by omega)
      have e : ((List.range len).map fun r => (Z r).take (L r)).getD j [] = (Z j).take (L j) := by simp [List.getD, hj]
      rw [e]
      exact fun i hi => getD_u8 (fun n hn => c5 n (List.mem_of_mem_take hn)) i hi
end Go.Proofs.YtkbehdjaegomgaaDoor.K
