/- export: a volume's chunks in order, the blocks of a stream of them. -/
import Derived.Test.YtamjnimaeecmoaaGreatG6
namespace Go.Proofs.YtamjnimaeecmoaaGreat.K
open Go.ChangeShapes Go.WideShapes Go.ChangeAt Go.RowKit
set_option linter.unusedVariables false
set_option linter.unusedSimpArgs false
def fnY (y : VolV) (k : Nat) : Nat := ((k : Int) * y.pe).toNat
def cnY (y : VolV) (k : Nat) : Nat := (min y.pe (y.bl - (k : Int) * y.pe)).toNat
theorem ckY {y : VolV} {n k : Nat} (hS : VolS n y) (hk : k < y.place.length) : CkOk y k (fnY y k) (cnY y k) := by
 obtain ⟨v1, -⟩ := hS.1
 obtain ⟨n1, n2, n3, n4, n5, n6, n7, n8, n9, n10, n11⟩ := v1
 have h := chunk_math n7 n8 n4 n9.2 (ch := (k : Int)) ⟨by omega, by omega⟩
 have hkb : (k : Int) ≤ (k : Int) * y.pe := by
   have := Int.mul_le_mul_of_nonneg_left n7 (show (0 : Int) ≤ k by omega)
   omega
 unfold fnY cnY
 exact ⟨hk, by omega, by omega, by omega, by omega, by omega, by omega, by omega⟩
def enY (y : VolV) (k : Nat) : Nat := (min ((k : Int) * y.pe) y.bl).toNat
theorem vol_len {y : VolV} {n : Nat} (hS : VolS n y) : 1 ≤ y.pe ∧ 1 ≤ y.bl ∧ y.bl ≤ 256 ∧ (y.place.length : Int) * y.pe ≤ y.bl + y.pe - 1 ∧ y.bl ≤ (y.place.length : Int) * y.pe := by
 obtain ⟨v1, -⟩ := hS.1
 obtain ⟨n1, n2, n3, n4, n5, n6, n7, n8, n9, n10, n11⟩ := v1
 have q1 := Int.ediv_mul_le (y.bl + y.pe - 1) (show y.pe ≠ 0 by omega)
 have q2 := Int.lt_ediv_add_one_mul_self (y.bl + y.pe - 1) (show 0 < y.pe by omega)
 rw [← n9.2] at q1 q2
 rw [Int.add_mul, Int.one_mul] at q2
 exact ⟨n7, n3, n4, q1, by omega⟩
theorem en_zero {y : VolV} {n : Nat} (hS : VolS n y) : enY y 0 = 0 := by
 have := vol_len hS
 unfold enY
 omega
theorem en_all {y : VolV} {n : Nat} (hS : VolS n y) : enY y y.place.length = y.bl.toNat := by
 have := vol_len hS
 unfold enY
 omega
theorem en_fn {y : VolV} {n k : Nat} (hS : VolS n y) (hk : k < y.place.length) : enY y k = fnY y k := by
 have h1 := vol_len hS
 have h2 : ((k : Int) + 1) * y.pe ≤ (y.place.length : Int) * y.pe := Int.mul_le_mul_of_nonneg_right (by omega) (by omega)
 rw [Int.add_mul, Int.one_mul] at h2
 unfold enY fnY
 omega
theorem en_next {y : VolV} {n k : Nat} (hS : VolS n y) (hk : k < y.place.length) : fnY y k + cnY y k = enY y (k + 1) := by
 have h1 := vol_len hS
 have h2 : ((k : Int) + 1) * y.pe ≤ (y.place.length : Int) * y.pe := Int.mul_le_mul_of_nonneg_right (by omega) (by omega)
 have h3 : 0 ≤ (k : Int) * y.pe := Int.mul_nonneg (by omega) (by omega)
 rw [Int.add_mul, Int.one_mul] at h2
 unfold enY fnY cnY
 rw [show ((k + 1 : Nat) : Int) = (k : Int) + 1 by omega, Int.add_mul, Int.one_mul]
 omega
theorem ck_last {y : VolV} {n k : Nat} (hS : VolS n y) (hk : k < y.place.length) : ((k : Int) = (y.place.length : Int) - 1 → y.bl - (fnY y k : Int) = (cnY y k : Int)) ∧ ((k : Int) ≠ (y.place.length : Int) - 1 → (cnY y k : Int) = y.pe) := by
 have h1 := vol_len hS
 have h3 : 0 ≤ (k : Int) * y.pe := Int.mul_nonneg (by omega) (by omega)
 unfold fnY cnY
 constructor
 · intro h
   have h4 : (k : Int) * y.pe = (y.place.length : Int) * y.pe - y.pe := by rw [h, Int.sub_mul, Int.one_mul]
   omega
 intro h
 have h2 : ((k : Int) + 1 + 1) * y.pe ≤ (y.place.length : Int) * y.pe := Int.mul_le_mul_of_nonneg_right (by omega) (by omega)
 rw [Int.add_mul, Int.add_mul, Int.one_mul] at h2
 omega
def ckD (y : VolV) (x : Nat × Nat) : List D := [.v (.int .i64 y.vo), .v (.int .i64 (x.1 : Int)), .v (.int .i64 (cnY y x.1 : Int)), .v (.int .i64 y.sz), .v (.int .i64 (x.2 : Int)), .v (.int .i64 (min y.fl (x.2 : Int))), .l 1 ((chN y (fnY y x.1) (cnY y x.1) x.2).map hD)]
theorem ckD_get {y : VolV} {L : List (Nat × Nat)} {i k m : Nat} (e : L[i]? = some (k, m)) : (L.map (ckD y))[i]? = some [.v (.int .i64 y.vo), .v (.int .i64 (k : Int)), .v (.int .i64 (cnY y k : Int)), .v (.int .i64 y.sz), .v (.int .i64 (m : Int)), .v (.int .i64 (min y.fl (m : Int))), .l 1 ((chN y (fnY y k) (cnY y k) m).map hD)] := by simp [e, ckD]
def PkOk (y : VolV) (k : Nat) (a b : Int) (x : Nat × Nat) : Prop := x.1 = k ∧ min y.fl (x.2 : Int) ≤ a ∧ b ≤ (x.2 : Int)
theorem pk_snoc {y : VolV} {k : Nat} {a b : Int} {L : List (Nat × Nat)} {i : Nat} {x : Nat × Nat} (h : ∀ z ∈ L.take i, ¬ PkOk y k a b z) (hes : L[i]? = some x) (hx : ¬ PkOk y k a b x) : ∀ z ∈ L.take (i + 1), ¬ PkOk y k a b z := by
 rw [take_snoc hes]
 intro z hz
 rcases List.mem_append.1 hz with h1 | h1
 · exact h z h1
 obtain rfl := List.mem_singleton.1 h1
 exact hx
def PkL (y : VolV) (L : List (Nat × Nat)) (a b : Int) (Lp : List (Nat × Nat)) (j : Nat) : Prop := Lp.length = j ∧ ∀ (x : Nat × Nat) (i : Nat), Lp[i]? = some x → PkOk y i a b x ∧ x ∈ L
theorem PkL.snoc {y : VolV} {L : List (Nat × Nat)} {a b : Int} {Lp : List (Nat × Nat)} {j m : Nat} (h : PkL y L a b Lp j) (hm : (j, m) ∈ L) (ha : min y.fl (m : Int) ≤ a) (hb : b ≤ (m : Int)) : PkL y L a b (Lp ++ [(j, m)]) (j + 1) := by
 refine ⟨by rw [List.length_append, h.1]; rfl, fun x i hx => ?_⟩
 rcases Nat.lt_or_ge i Lp.length with h1 | h1
 · rw [List.getElem?_append_left h1] at hx
   exact h.2 x i hx
 rw [List.getElem?_append_right h1] at hx
 have h2 := (List.getElem?_eq_some_iff.1 hx).1
 have h3 : i - Lp.length = 0 := by simp at h2; omega
 rw [h3] at hx
 obtain rfl : (j, m) = x := by simpa using hx
 have := h.1
 exact ⟨⟨by show j = i; omega, ha, hb⟩, hm⟩
def selI (S : List (List Int)) (P : Nat → Bool) (b : Nat) : List (Int × List Int) := ((List.range b).filter P).map fun j : Nat => ((j : Int), S.getD j [])
def ckI (S : List (List Int)) (fn : Nat) (L : List Nat) : List (Int × List Int) := L.map fun i : Nat => (((fn + i : Nat) : Int), S.getD (fn + i) [])
theorem selI_ck (S : List (List Int)) (P : Nat → Bool) (fn c : Nat) : selI S P (fn + c) = selI S P fn ++ ckI S fn ((List.range c).filter fun i => P (fn + i)) := by
 unfold selI ckI
 rw [List.range_add, List.filter_append, List.map_append, List.filter_map, List.map_map]
 rfl
theorem selI_len (S : List (List Int)) (P : Nat → Bool) (b : Nat) : (selI S P b).length ≤ b := by
 unfold selI; rw [List.length_map]; exact Nat.le_trans (List.length_filter_le _ _) (Nat.le_of_eq List.length_range)
theorem ckI_len (S : List (List Int)) (fn : Nat) (L : List Nat) : (ckI S fn L).length = L.length := by unfold ckI; rw [List.length_map]
theorem ckI_snoc {S : List (List Int)} {fn j q : Nat} {L : List Nat} (h : L[j]? = some q) : ckI S fn (L.take (j + 1)) = ckI S fn (L.take j) ++ [(((fn + q : Nat) : Int), S.getD (fn + q) [])] := by
 unfold ckI; rw [take_snoc h, List.map_append]; rfl
theorem selI_all (S : List (List Int)) (b : Nat) : selI S (fun _ => true) b = wholeI S b := by
 unfold selI wholeI; rw [List.filter_eq_self.2 (fun _ _ => rfl)]
def selN (P : Nat → Bool) (fn c : Nat) : List Nat := (List.range c).filter fun i => P (fn + i)
def selJ (P : Nat → Bool) (fn c : Nat) : List Int := (selN P fn c).map fun i : Nat => (i : Int)
theorem selN_len (P : Nat → Bool) (fn c : Nat) : (selN P fn c).length ≤ c := Nat.le_trans (List.length_filter_le _ _) (Nat.le_of_eq List.length_range)
theorem selJ_len (P : Nat → Bool) (fn c : Nat) : (selJ P fn c).length = (selN P fn c).length := by unfold selJ; rw [List.length_map]
theorem selN_at {P : Nat → Bool} {fn c j : Nat} (hj : j < (selN P fn c).length) : ∃ q, (selN P fn c)[j]? = some q ∧ q < c ∧ (selJ P fn c).getD j 0 = (q : Int) := by
 refine ⟨(selN P fn c)[j], List.getElem?_eq_getElem hj, ?_, ?_⟩
 · exact List.mem_range.1 (List.mem_filter.1 (List.getElem_mem hj)).1
 unfold selJ
 rw [List.getD, List.getElem?_map, List.getElem?_eq_getElem hj]; rfl
def chgB (y : VolV) (a t : Int) (b : Nat) : Bool := chgF (pruneF (blkH (y.ws.take y.ws.length) (b : Int)) (min y.fl (y.ws.length : Int))) a t
theorem chgB_ck {y : VolV} {a t : Int} {fn cnt : Nat} : chgL (chN y fn cnt y.ws.length) a t cnt = selJ (chgB y a t) fn cnt := by
 unfold chgL selJ selN
 congr 1
 refine List.filter_congr fun i hi => ?_
 unfold chgB chN
 rw [chuH_at (List.mem_range.1 hi)]
 rfl
end Go.Proofs.YtamjnimaeecmoaaGreat.K
