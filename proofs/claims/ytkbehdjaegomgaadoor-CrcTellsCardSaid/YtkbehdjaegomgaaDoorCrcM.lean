/- A sum hangs on the bytes, not on how they are parted. -/
import Derived.Test.YtkbehdjaegomgaaDoorCrcK
import Derived.Laws.BitsAllLaws
namespace Go.Proofs.YtkbehdjaegomgaaDoor.K
open Go.ChangeShapes Go.WideShapes Go.ChangeAt Go.RowKit
set_option linter.unusedVariables false

theorem turn_range (x : Int) : 0 ≤ turn x ∧ turn x < 4294967296 := range32 .xor _ _
theorem turn_turn (x : Int) (h0 : 0 ≤ x) (h1 : x < 4294967296) : turn (turn x) = x := by
  have hm : IntKind.u32.max = 4294967295 := by decide
  obtain ⟨n, rfl⟩ := Int.eq_ofNat_of_zero_le h0
  unfold turn
  rw [hm, u32_xor 4294967295 (n : Int) (by omega) (by omega) (by omega) (by omega)]
  rw [u32_xor 4294967295 _ (by omega) (by omega) (by omega) (by
    have : (4294967295 : Int).toNat ^^^ (n : Int).toNat < 2 ^ 32 := Nat.xor_lt_two_pow (by decide) (by show n < 2 ^ 32; omega)
    omega)]
  rw [Int.toNat_natCast, Int.toNat_natCast, ← Nat.xor_assoc, Nat.xor_self, Nat.zero_xor]

theorem step_range (d x : Int) : 0 ≤ step d x ∧ step d x < 4294967296 := range32 .xor _ _
theorem fold_range (a : List Int) : ∀ c : Int, (0 ≤ c ∧ c < 4294967296) → 0 ≤ a.foldl step c ∧ a.foldl step c < 4294967296 := by
  induction a with
  | nil => exact fun c h => h
  | cons x a ih => exact fun c h => ih _ (step_range c x)

theorem moreC_append (c : Int) (a b : List Int) : moreC (moreC c a) b = moreC c (a ++ b) := by
  unfold moreC
  have h := fold_range a (turn c) (turn_range c)
  rw [turn_turn _ h.1 h.2, List.foldl_append]

theorem moreC_nil (c : Int) (h0 : 0 ≤ c) (h1 : c < 4294967296) : moreC c [] = c := turn_turn c h0 h1

theorem sum3 (a b c : List Int) : sumC [a, b, c] = sumC [a ++ (b ++ c)] := by
  show moreC (moreC (moreC 0 a) b) c = moreC 0 (a ++ (b ++ c))
  rw [moreC_append, moreC_append]
theorem sum_parts (bs : List Int) (x y : Nat) (h : x ≤ y) : sumC [bs.take x, (bs.take y).drop x, bs.drop y] = sumC [bs] := by
  rw [sum3]
  congr 2
  have h1 : bs.take x = (bs.take y).take x := by rw [List.take_take, Nat.min_eq_left h]
  rw [h1, ← List.append_assoc, List.take_append_drop, List.take_append_drop]
theorem more_sum (bs : List Int) (x : Nat) : moreC (sumC [bs.take x]) (bs.drop x) = sumC [bs] := by
  show moreC (moreC 0 _) _ = moreC 0 bs
  rw [moreC_append, List.take_append_drop]
theorem sum_nils (bs : List Int) : sumC [bs, [], []] = sumC [bs] := by
  rw [sum3]; simp

/-- A part of a slice, as a slice expression gives it. -/
theorem slice_part {k : IntKind} {w : World} {p : Option Addr} {n cc : Nat} {zs : List Int} (h : IsNums k w (.slice p n cc) zs) (hcc : n ≤ cc) (i j : Nat) (hij : i ≤ j) (hj : j ≤ n) (c m : Nat) (hm : m = j - i) :
    IsNums k w (.slice (if cc = i then p else Option.map (fun x => x.add i) p) m c) ((zs.take j).drop i) := by
  subst hm
  have h' := h
  obtain ⟨a, c', hv, h⟩ := h
  simp only [Value.slice.injEq] at hv
  obtain ⟨rfl, hl, rfl⟩ := hv
  have hlen : ((zs.take j).drop i).length = j - i := by simp; omega
  by_cases h0 : j - i = 0
  · have : (zs.take j).drop i = [] := List.length_eq_zero_iff.1 (by omega)
    rw [this, h0]
    exact IsNums.nil _ _ _ _
  rcases h with h | ⟨b, off, rfl, hb, hc⟩
  · omega
  · rw [if_neg (by omega)]
    have h5 := h'.part i j hij hj c _ rfl
    have e : Option.map (fun x : Addr => x.add i) (some ⟨b, off, none⟩) = some ⟨b, off + i, none⟩ := by
      by_cases hi : i = 0
      · subst hi; simp [Addr.add]
      · simp [Addr.add, hi]
    rw [e]; exact h5
theorem slice_take {k : IntKind} {w : World} {p : Option Addr} {n cc : Nat} {zs : List Int} (h : IsNums k w (.slice p n cc) zs) (j : Nat) (hj : j ≤ n) (c : Nat) :
    IsNums k w (.slice p j c) (zs.take j) := by
  have h' := h
  obtain ⟨a, c', hv, h⟩ := h
  simp only [Value.slice.injEq] at hv
  obtain ⟨rfl, hl, rfl⟩ := hv
  have hlen : (zs.take j).length = j := by simp; omega
  by_cases h0 : j = 0
  · subst h0; exact IsNums.nil _ _ _ _
  rcases h with h | ⟨b, off, rfl, hb, hc⟩
  · omega
  · simpa using h'.part 0 j (by omega) hj c j (by omega)
end Go.Proofs.YtkbehdjaegomgaaDoor.K
