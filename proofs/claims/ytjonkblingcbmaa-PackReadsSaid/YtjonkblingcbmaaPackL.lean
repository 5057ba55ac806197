/- Slices of slices of bytes that came in; what Lump and Put return, as slices; items that stand one behind another. -/
import Derived.Test.YtjonkblingcbmaaPackW1
import Derived.Test.YtjonkblingcbmaaPackW3
import Derived.Test.YtjonkblingcbmaaRegionB
import Derived.Deep.Matrix
namespace Go.Proofs.Ytjonkblingcbmaa.K
open Go.ChangeShapes Go.WideShapes Go.ChangeAt Go.RowKit
set_option linter.unusedVariables false

theorem IsLists.below' {B : Nat} {w w' : World} {v : Value} {ls : List (List Int)} (h : IsLists w v ls) (hb : Below B w w') (hB : w.heap.size ≤ B) : IsLists w' v ls := by
  obtain ⟨a, c, rfl, h | ⟨b, off, rfl, h1, h2⟩⟩ := h
  · exact ⟨a, c, rfl, .inl h⟩
  · refine ⟨_, c, rfl, .inr ⟨b, off, rfl, by have := hb.size; omega, fun j hj => ?_⟩⟩
    obtain ⟨u, hu, hn⟩ := h2 j hj
    exact ⟨u, by rw [hb.cell (by show b < B; omega)]; exact hu, hn.below hb hB⟩

/-- A slice of slices of bytes that came in, as a list of lists. -/
theorem IsLists.ofTrod {H : Type} {enc : TypeId × Value → H} {W : World} {base : Nat} {held : Bool} {fuel : Nat} {a : Option Addr} {len cap : Nat} {x : DataW H × List MemPlace}
    (h : DataW.trod enc Try.prog W base (fun _ => true) held fuel 24 [.slice a len cap] = some x) (ce : Try.prog.cellsOf 22 = 1) (cq : Try.prog.cellsOf 5 = 1) :
    ∃ ls, IsLists W (.slice a len cap) ls ∧ ls.length = len ∧ len ≤ cap ∧ cap ≤ maxLen ∧ ∀ j, j < ls.length → ∀ y ∈ ls.getD j [], 0 ≤ y ∧ y ≤ 255 := by
  rcases Deep.open_int_rows Try.underlying24 Try.underlying22 Try.underlying5 ce cq h with ⟨hcs, -⟩ | ⟨b, l, c, A, L, C, Z, hcs, -, hl, hm, -, hr⟩
  · simp only [List.cons.injEq, Value.slice.injEq, and_true] at hcs
    obtain ⟨rfl, rfl, rfl⟩ := hcs
    exact ⟨[], ⟨none, 0, rfl, .inl rfl⟩, rfl, Nat.le_refl _, Nat.zero_le _, by simp⟩
  · simp only [List.cons.injEq, Value.slice.injEq, and_true] at hcs
    obtain ⟨rfl, rfl, rfl⟩ := hcs
    refine ⟨(List.range len).map fun r => (Z r).take (L r), ?_, by simp, hl, hm, fun j hj => ?_⟩
    · refine ⟨some b, cap, by simp, ?_⟩
      by_cases h0 : len = 0
      · left; simp [h0]
      obtain ⟨bb, bo, spot⟩ := b
      have hc0 := (hr 0 (by omega)).1
      have hspot : spot = none := by simpa [Addr.add] using World.cell?_spot hc0
      subst hspot
      refine .inr ⟨bb, bo, rfl, World.block_lt_of_cell? W _ hc0, fun j hj => ?_⟩
      simp only [List.length_map, List.length_range] at hj
      obtain ⟨c1, c2, c3, c4, c5, c6, c7⟩ := hr j (by omega)
      rw [Addr.add_lit] at c1
      refine ⟨_, c1, ?_⟩
      have e : ((List.range len).map fun r => (Z r).take (L r)).getD j [] = (Z j).take (L j) := by simp [List.getD, hj]
      rw [e]
      have hlen : ((Z j).take (L j)).length = L j := by simp; omega
      refine ⟨A j, C j, by rw [hlen], ?_⟩
      by_cases hL : L j = 0
      · left; rw [hlen]; exact hL
      obtain ⟨a', ha'⟩ : ∃ a', A j = some a' := by
        cases hA : A j with
        | none => have := c6 hA; omega
        | some a' => exact ⟨a', rfl⟩
      obtain ⟨ab, ao, asp⟩ := a'
      have c8 := (c7 _ ha').2
      have hc1 := c8 0 (by omega)
      have hsp : asp = none := by simpa [Addr.add] using World.cell?_spot hc1
      subst hsp
      refine .inr ⟨ab, ao, ha', World.block_lt_of_cell? W _ hc1, fun q hq => ?_⟩
      rw [hlen] at hq
      have := c8 q (by omega)
      rw [Addr.add_lit] at this
      rw [this]
      simp only [List.getD, List.getElem?_take]
      rw [if_pos hq]
    · simp only [List.length_map, List.length_range] at hj
      obtain ⟨c1, c2, c3, c4, c5, c6, c7⟩ := hr j (by omega)
      have e : ((List.range len).map fun r => (Z r).take (L r)).getD j [] = (Z j).take (L j) := by simp [List.getD, hj]
      rw [e]
      intro y hy
      have := bounds_u8 (c5 y (List.mem_of_mem_take hy))
      omega

theorem lump_is (v : Value) (bs : List Int) (w : World) (h : IsNums .u8 w v bs) (hl : bs.length ≤ 100000) (S : List Int) (n : Nat) (hS : enc bs.length ++ bs = S) (hn : S.length = n) :
    Calls Try.prog 9 #[v] w fun e w' => ∃ p c, e = .returned (.slice p n c) ∧ IsNums .u8 w' (.slice p n c) S ∧ Below w.heap.size w w' := by
  subst hS; subst hn
  refine (lump_any v bs w h hl).mono fun e w' h => ?_
  obtain ⟨u, rfl, hown, hbel⟩ := h
  have hN := IsNums.ofOwn hown
  obtain ⟨p, c, rfl, -⟩ := id hN
  exact ⟨p, c, rfl, hN, hbel⟩

theorem lumpR_ok (l rest : List Int) (most : Int) (h0 : (l.length : Int) ≤ most) (h1 : l.length ≤ 100000) : lumpR (enc l.length ++ (l ++ rest)) 0 most = (l, rest, 0) := by
  unfold lumpR
  rw [numR_ok (l.length : Int) (by omega) (by omega) (l ++ rest) (max most 0) (by omega)]
  simp only []
  rw [if_pos trivial, if_neg (by simp; omega)]
  simp

/-- The j-th number at an edge, the number, the lump. -/
def itemB (z : Int) (k : Int) (l : List Int) : List Int := encs [edgeF z k, z] ++ (enc l.length ++ l)
def itemsB (zs : List Int) (k : Int) (ls : List (List Int)) : List (List Int) := (List.range ls.length).map fun j => itemB (zs.getD j 0) k (ls.getD j [])
theorem itemsB_len (zs : List Int) (k : Int) (ls : List (List Int)) : (itemsB zs k ls).length = ls.length := by simp [itemsB]
theorem itemsB_at (zs : List Int) (k : Int) (ls : List (List Int)) (j : Nat) (h : j < ls.length) : (itemsB zs k ls).getD j [] = itemB (zs.getD j 0) k (ls.getD j []) := by simp [itemsB, List.getD, h]
theorem itemB_len (z k : Int) (l : List Int) : (itemB z k l).length ≤ 30 + l.length := by
  have h1 := encs_len [edgeF z k, z]
  have h2 := (enc_len (l.length : Int)).1
  simp only [itemB, List.length_append, List.length_cons, List.length_nil] at h1 ⊢
  omega
theorem flatten_len (L : List (List Int)) (m : Nat) (h : ∀ l ∈ L, l.length ≤ m) : L.flatten.length ≤ L.length * m := by
  induction L with
  | nil => simp
  | cons l L ih =>
    have h1 := ih (fun x hx => h x (by simp [hx]))
    have h2 := h l (by simp)
    rw [List.flatten_cons, List.length_append, List.length_cons, Nat.succ_mul]
    omega
theorem itemB_bytes (z k : Int) (l : List Int) (z0 : 0 ≤ z) (z1 : z ≤ 18446744073709551615) (hl : ∀ y ∈ l, 0 ≤ y ∧ y ≤ 255) (hn : l.length ≤ 100000) : ∀ y ∈ itemB z k l, 0 ≤ y ∧ y ≤ 255 := by
  intro y hy
  have he := edge_bd z k z0 z1
  simp only [itemB, encs, List.flatMap_cons, List.flatMap_nil, List.append_nil, List.mem_append] at hy
  rcases hy with (h | h) | (h | h)
  · exact enc_bytes _ he.2 y h
  · exact enc_bytes _ z1 y h
  · exact enc_bytes _ (by omega) y h
  · exact hl y h
theorem drop_flat (L : List (List Int)) (j : Nat) (h : j < L.length) : (L.drop j).flatten = L.getD j [] ++ (L.drop (j + 1)).flatten := by
  rw [List.drop_eq_getElem_cons h, List.flatten_cons]
  simp [List.getD, h]
end Go.Proofs.Ytjonkblingcbmaa.K
