/- What mementolaw1.edge returns. -/
import Derived.Test.YtjonkblingcbmaaPackK
namespace Go.Proofs.Ytjonkblingcbmaa.K
open Go.ChangeShapes Go.WideShapes Go.ChangeAt Go.RowKit
set_option linter.unusedVariables false

def edgeL (n : Int) : List Int := [n, n / 4294967296, n / 144115188075855872, 0, 1, 127, 128, 16383, 16384, 9223372036854775807, 9223372036854775808, 18446744073709551615]
def edgeF (n : Int) (k : Int) : Int := (edgeL n).getD (k % 12).toNat 0

theorem edge_bd (n k : Int) (h0 : 0 ≤ n) (h1 : n ≤ 18446744073709551615) : 0 ≤ edgeF n k ∧ edgeF n k ≤ 18446744073709551615 := by
  unfold edgeF
  have hk : (k % 12).toNat < 12 := by omega
  generalize (k % 12).toNat = q at hk
  unfold edgeL
  match q, hk with
  | 0, _ | 1, _ | 2, _ | 3, _ | 4, _ | 5, _ | 6, _ | 7, _ | 8, _ | 9, _ | 10, _ | 11, _ => simp; try omega
  | q + 12, h => omega

set_option maxRecDepth 100000 in
set_option maxHeartbeats 1000000 in
theorem edge_any (n k : Int) (w : World) (h0 : 0 ≤ n) (h1 : n ≤ 18446744073709551615) (k0 : 0 ≤ k) (k1 : k ≤ 255) :
    Calls Try.prog 14 #[.int .u64 n, .int .u8 k] w fun e w' => e = .returned (.int .u64 (edgeF n k)) ∧ Below w.heap.size w w' := by
  obtain ⟨q, hq⟩ : ∃ q : Nat, k % 12 = q := ⟨(k % 12).toNat, by omega⟩
  have hq12 : q < 12 := by omega
  have hval : edgeF n k = (edgeL n).getD q 0 := by unfold edgeF; rw [hq]; rfl
  rw [hval]
  have hc : (w.alloc (.cells ((edgeL n).map (Value.int .u64)).toArray 30)).cell? ⟨w.heap.size, q, none⟩ = some (.int .u64 ((edgeL n).getD q 0)) := by
    unfold World.cell? World.alloc
    have : q < (edgeL n).length := by simp [edgeL]; omega
    simp [this, List.getD]
  generalize (edgeL n).getD q 0 = X at hc
  simp only [edgeL, List.map_cons, List.map_nil] at hc
  clear hval
  go_enter Try.func14, Try.ntmps14
  go_wp2
  go_ret
  exact ⟨rfl, by go_grown⟩

theorem enc_dec (rest : List Int) : ∀ (f n i acc : Nat), i + f = 9 → n * 2 ^ (7 * i) < 2 ^ 64 → (0 < i → n ≠ 0) → dec acc i (encF f n ++ rest) = .ok (acc + n * 2 ^ (7 * i)) (i + (encF f n).length)
  | 0, n, i, acc, hi, hb, hz => by
    obtain rfl : i = 9 := by omega
    have hn : n ≤ 1 := by omega
    have h0 := hz (by omega)
    obtain rfl : n = 1 := by omega
    simp [encF, dec]
  | f + 1, n, i, acc, hi, hb, hz => by
    unfold encF
    by_cases h : n < 128
    · rw [if_pos h]
      have hc : ¬ ((i = 9 ∧ (1 : Int) < (n : Int)) ∨ (0 < i ∧ (n : Int) = 0)) := by omega
      simp only [List.cons_append, List.nil_append, dec]
      rw [if_neg hc, if_pos (by omega)]
      rw [show ((n : Int) % 128).toNat = n by omega]
      simp
    · rw [if_neg h]
      have hc : ¬ ((i = 9 ∧ (1 : Int) < ((n % 128 + 128 : Nat) : Int)) ∨ (0 < i ∧ ((n % 128 + 128 : Nat) : Int) = 0)) := by omega
      simp only [List.cons_append, dec]
      rw [if_neg hc, if_neg (by omega)]
      have hpow : (2 : Nat) ^ (7 * (i + 1)) = 128 * 2 ^ (7 * i) := by rw [show 7 * (i + 1) = 7 + 7 * i by omega, Nat.pow_add]
      have hdm : 128 * (n / 128) + n % 128 = n := Nat.div_add_mod n 128
      have hmul : n / 128 * 2 ^ (7 * (i + 1)) = 128 * (n / 128) * 2 ^ (7 * i) := by rw [hpow]; ac_rfl
      have hle : 128 * (n / 128) * 2 ^ (7 * i) ≤ n * 2 ^ (7 * i) := Nat.mul_le_mul_right _ (by omega)
      rw [enc_dec rest f (n / 128) (i + 1) _ (by omega) (by omega) (by omega)]
      rw [show (((n % 128 + 128 : Nat) : Int) % 128).toNat = n % 128 by omega, hmul]
      have hsum : n * 2 ^ (7 * i) = 128 * (n / 128) * 2 ^ (7 * i) + n % 128 * 2 ^ (7 * i) := by rw [← Nat.add_mul, hdm]
      rw [hsum]
      simp
      constructor <;> omega

theorem dec_enc (x : Int) (h0 : 0 ≤ x) (h1 : x ≤ 18446744073709551615) (rest : List Int) : dec 0 0 (enc x ++ rest) = .ok x.toNat (enc x).length := by
  have := enc_dec rest 9 x.toNat 0 0 (by omega) (by simp; omega) (by omega)
  simpa [enc] using this

theorem short_dec : ∀ (f n i acc j : Nat), i + f = 9 → j < (encF f n).length → dec acc i ((encF f n).take j) = .err 21
  | 0, n, i, acc, j, hi, hj => by
    obtain rfl : j = 0 := by simp [encF] at hj; omega
    simp [dec]
  | f + 1, n, i, acc, j, hi, hj => by
    cases j with
    | zero => simp [dec]
    | succ j =>
      unfold encF at hj ⊢
      by_cases h : n < 128
      · rw [if_pos h] at hj; simp at hj
      · rw [if_neg h] at hj ⊢
        have hc : ¬ ((i = 9 ∧ (1 : Int) < ((n % 128 + 128 : Nat) : Int)) ∨ (0 < i ∧ ((n % 128 + 128 : Nat) : Int) = 0)) := by omega
        simp only [List.take_succ_cons, dec]
        rw [if_neg hc, if_neg (by omega)]
        exact short_dec f (n / 128) (i + 1) _ j (by omega) (by simpa using hj)

theorem enc_bytes (x : Int) (h1 : x ≤ 18446744073709551615) : ∀ b ∈ enc x, 0 ≤ b ∧ b ≤ 255 := by
  have : ∀ (f n : Nat), n < 128 ^ (f + 1) → ∀ b ∈ encF f n, 0 ≤ b ∧ b ≤ 255 := by
    intro f
    induction f with
    | zero => intro n hn b hb; simp [encF] at hb hn; omega
    | succ f ih =>
      intro n hn b hb
      unfold encF at hb
      split at hb
      · simp at hb; omega
      · rcases List.mem_cons.1 hb with rfl | hb
        · omega
        · refine ih (n / 128) ?_ b hb
          rw [Nat.pow_succ] at hn
          exact Nat.div_lt_of_lt_mul (by rw [Nat.mul_comm]; exact hn)
  refine this 9 x.toNat ?_
  have : (128 : Nat) ^ 10 = 1180591620717411303424 := by decide
  omega

end Go.Proofs.Ytjonkblingcbmaa.K
