/- Whatever is turned within 32 bits side by side changes the sum: the sum's step as a linear map over xor. -/
import Derived.Test.YtkbehdjaegomgaaDoorCrcM
namespace Go.Proofs.YtkbehdjaegomgaaDoor.K
open Go.ChangeShapes Go.WideShapes Go.ChangeAt Go.RowKit
set_option linter.unusedVariables false

/-- One bit is turned out. -/
def sh1 (c : Nat) : Nat := (c >>> 1) ^^^ (if c.testBit 0 then 2197175160 else 0)
def shk : Nat → Nat → Nat
  | 0, c => c
  | k + 1, c => shk k (sh1 c)

theorem sh1_xor (a b : Nat) : sh1 (a ^^^ b) = sh1 a ^^^ sh1 b := by
  unfold sh1
  rw [Nat.shiftRight_xor_distrib, Nat.testBit_xor]
  cases ha : a.testBit 0 <;> cases hb : b.testBit 0
  · simp
  · simp [Nat.xor_assoc]
  · simp only [Bool.true_xor, Bool.not_false, if_true, if_false, Nat.xor_zero, Bool.false_eq_true]
    rw [Nat.xor_assoc, Nat.xor_assoc, Nat.xor_comm (b >>> 1)]
  · simp only [Bool.xor_self, if_true, Bool.false_eq_true, if_false, Nat.xor_zero]
    rw [Nat.xor_assoc, ← Nat.xor_assoc 2197175160, Nat.xor_comm 2197175160, Nat.xor_assoc (b >>> 1), Nat.xor_self, Nat.xor_zero]

theorem shk_xor (k : Nat) : ∀ a b : Nat, shk k (a ^^^ b) = shk k a ^^^ shk k b := by
  induction k with
  | zero => exact fun a b => rfl
  | succ k ih => intro a b; show shk k (sh1 _) = _; rw [sh1_xor, ih]; rfl

theorem shk_add (j k : Nat) : ∀ c : Nat, shk (j + k) c = shk k (shk j c) := by
  induction j with
  | zero => intro c; rw [Nat.zero_add]; rfl
  | succ j ih => intro c; rw [Nat.succ_add]; show shk (j + k) (sh1 c) = shk k (shk j (sh1 c)); exact ih _

theorem sh1_shl (n : Nat) : sh1 (n <<< 1) = n := by
  unfold sh1
  have h : (n <<< 1).testBit 0 = false := by rw [Nat.testBit_shiftLeft]; simp
  rw [h]
  simp [Nat.shiftLeft_shiftRight]
theorem shk_shl (k : Nat) : ∀ n : Nat, shk k (n <<< k) = n := by
  induction k with
  | zero => exact fun n => rfl
  | succ k ih =>
    intro n
    show shk k (sh1 (n <<< (k + 1))) = n
    rw [Nat.shiftLeft_add, sh1_shl, ih]

theorem sh1_lt (c : Nat) (h : c < 4294967296) : sh1 c < 4294967296 := by
  unfold sh1
  refine Nat.xor_lt_two_pow (n := 32) ?_ ?_
  · rw [Nat.shiftRight_eq_div_pow]; omega
  · split <;> decide
theorem xor_zero_eq {a b : Nat} (h : a ^^^ b = 0) : a = b := by
  have h1 := congrArg (fun n => n ^^^ b) h
  simpa [Nat.xor_assoc] using h1
theorem sh1_zero (c : Nat) (h : c < 4294967296) (h0 : sh1 c = 0) : c = 0 := by
  unfold sh1 at h0
  have h1 : c >>> 1 = if c.testBit 0 then 2197175160 else 0 := xor_zero_eq h0
  rw [Nat.shiftRight_eq_div_pow] at h1
  rw [Nat.testBit_zero] at h1
  by_cases hc : c % 2 = 1
  · simp only [hc, decide_true, if_true] at h1
    omega
  · simp only [hc, decide_false, Bool.false_eq_true, if_false] at h1
    omega
theorem shk_zero (k : Nat) : ∀ c : Nat, c < 4294967296 → shk k c = 0 → c = 0 := by
  induction k with
  | zero => exact fun c _ h => h
  | succ k ih => intro c h h0; exact sh1_zero c h (ih _ (sh1_lt c h) h0)
theorem shk_nil (k : Nat) : shk k 0 = 0 := by
  induction k with
  | zero => rfl
  | succ k ih => show shk k (sh1 0) = 0; exact ih

/-- The program's step of four bits is four steps of one. -/
theorem tab_shk : ∀ i, i < 16 → (tab.getD i 0) = ((shk 4 i : Nat) : Int) := by decide +kernel
theorem nib_shk (c : Nat) (h : c < 4294967296) : nib (c : Int) = ((shk 4 c : Nat) : Int) := by
  unfold nib
  rw [u32_and15 (c : Int) (by omega) (by omega)]
  have e : ((c : Int) % 16).toNat = c % 16 := by omega
  rw [e, tab_shk (c % 16) (by omega)]
  have h16 : shk 4 (c % 16) < 4294967296 := sh1_lt _ (sh1_lt _ (sh1_lt _ (sh1_lt _ (by omega))))
  rw [show (c : Int) / 16 = ((c / 16 : Nat) : Int) by omega, u32_xor_nat _ _ (by omega) h16]
  congr 1
  have hc : c = ((c / 16) <<< 4) ^^^ (c % 16) := by
    apply Nat.eq_of_testBit_eq
    intro i
    rw [Nat.testBit_xor, Nat.testBit_shiftLeft, show (16 : Nat) = 2 ^ 4 by rfl, Nat.testBit_mod_two_pow, Nat.testBit_div_two_pow]
    by_cases hi : 4 ≤ i
    · simp [hi, show ¬ i < 4 by omega]
    · simp [hi, show i < 4 by omega]
  conv => rhs; rw [hc]
  rw [shk_xor, shk_shl]

/-- The bytes as one number. -/
def numB : List Int → Nat
  | [] => 0
  | x :: xs => x.toNat ^^^ (numB xs <<< 8)

theorem step_shk (c : Nat) (h : c < 4294967296) (x : Int) (h0 : 0 ≤ x) (h1 : x ≤ 255) : step (c : Int) x = ((shk 8 (c ^^^ x.toNat) : Nat) : Int) ∧ shk 8 (c ^^^ x.toNat) < 4294967296 := by
  have hx : c ^^^ x.toNat < 4294967296 := Nat.xor_lt_two_pow (n := 32) h (by omega)
  have h4 : shk 4 (c ^^^ x.toNat) < 4294967296 := sh1_lt _ (sh1_lt _ (sh1_lt _ (sh1_lt _ hx)))
  have h8 : shk 8 (c ^^^ x.toNat) = shk 4 (shk 4 (c ^^^ x.toNat)) := shk_add 4 4 _
  refine ⟨?_, by rw [h8]; exact sh1_lt _ (sh1_lt _ (sh1_lt _ (sh1_lt _ h4)))⟩
  unfold step
  have e : bits .xor .u32 (c : Int) x = ((c ^^^ x.toNat : Nat) : Int) := by
    obtain ⟨n, rfl⟩ := Int.eq_ofNat_of_zero_le h0
    rw [u32_xor_nat c n h (by omega)]; rfl
  rw [e, nib_shk _ hx, nib_shk _ h4, h8]

theorem fold_shk (bs : List Int) : ∀ c : Nat, c < 4294967296 → (∀ x ∈ bs, 0 ≤ x ∧ x ≤ 255) → bs.foldl step (c : Int) = ((shk (8 * bs.length) (c ^^^ numB bs) : Nat) : Int) := by
  induction bs with
  | nil => intro c _ _; simp [shk, numB]
  | cons x xs ih =>
    intro c hc hb
    obtain ⟨h0, h1⟩ := hb x (by simp)
    obtain ⟨hs, hlt⟩ := step_shk c hc x h0 h1
    rw [List.foldl_cons, hs, ih _ hlt (fun y hy => hb y (by simp [hy]))]
    congr 1
    rw [List.length_cons, show 8 * (xs.length + 1) = 8 + 8 * xs.length by omega, shk_add]
    congr 1
    show _ = shk 8 (c ^^^ (x.toNat ^^^ (numB xs <<< 8)))
    rw [← Nat.xor_assoc, shk_xor 8 (c ^^^ x.toNat), shk_shl]

theorem numB_set (bs : List Int) (v : Nat) : ∀ k, k < bs.length → (∀ x ∈ bs, 0 ≤ x ∧ x ≤ 255) → numB (bs.set k (((bs.getD k 0).toNat ^^^ v : Nat) : Int)) = numB bs ^^^ (v <<< (8 * k)) := by
  induction bs with
  | nil => intro k h _; simp at h
  | cons x xs ih =>
    intro k hk hb
    cases k with
    | zero =>
      show _ ^^^ _ = (x.toNat ^^^ _) ^^^ (v <<< 0)
      rw [Nat.shiftLeft_zero]
      show (x.toNat ^^^ v) ^^^ _ = _
      rw [Nat.xor_assoc, Nat.xor_comm v, Nat.xor_assoc]
    | succ k =>
      show x.toNat ^^^ (numB (xs.set k _) <<< 8) = (x.toNat ^^^ (numB xs <<< 8)) ^^^ _
      have := ih k (by simpa using hk) (fun y hy => hb y (by simp [hy]))
      rw [show (x :: xs).getD (k + 1) 0 = xs.getD k 0 by rfl, this, Nat.shiftLeft_xor_distrib, ← Nat.shiftLeft_add, Nat.xor_assoc, show 8 * k + 8 = 8 * (k + 1) by omega]

/-- Two of one length that differ by a burst of 32 bits have the same sum only if the burst is none. -/
theorem burst (bs ys : List Int) (E f : Nat) (hl : ys.length = bs.length) (hb : ∀ x ∈ bs, 0 ≤ x ∧ x ≤ 255) (hy : ∀ x ∈ ys, 0 ≤ x ∧ x ≤ 255) (hf : f ≤ 8 * bs.length) (hE : E < 4294967296) (hn : numB ys = numB bs ^^^ (E <<< f)) :
    sumC [bs] = sumC [ys] ↔ E = 0 := by
  show turn (bs.foldl step (turn 0)) = turn (ys.foldl step (turn 0)) ↔ _
  have ht := turn_range 0
  obtain ⟨T, hT⟩ := Int.eq_ofNat_of_zero_le ht.1
  have hT2 : T < 4294967296 := by omega
  have r1 := fold_range bs (turn 0) ht
  have r2 := fold_range ys (turn 0) ht
  have e1 := fold_shk bs T hT2 hb
  have e2 := fold_shk ys T hT2 hy
  rw [hl, hn, ← Nat.xor_assoc, shk_xor _ (T ^^^ numB bs), show 8 * bs.length = f + (8 * bs.length - f) by omega, shk_add f _ (E <<< f), shk_shl] at e2
  rw [show f + (8 * bs.length - f) = 8 * bs.length by omega] at e2
  rw [← hT] at e1 e2
  constructor
  · intro h
    have h2 := congrArg turn h
    rw [turn_turn _ r1.1 r1.2, turn_turn _ r2.1 r2.2, e1, e2] at h2
    have h3 : shk (8 * bs.length) (T ^^^ numB bs) = shk (8 * bs.length) (T ^^^ numB bs) ^^^ shk (8 * bs.length - f) E := by exact_mod_cast h2
    have h4 := congrArg (fun n => shk (8 * bs.length) (T ^^^ numB bs) ^^^ n) h3
    simp only [Nat.xor_self, ← Nat.xor_assoc, Nat.zero_xor] at h4
    exact shk_zero _ E hE h4.symm
  · rintro rfl
    rw [e1, e2, shk_nil, Nat.xor_zero]

theorem four_inj (a b : Int) (ha : 0 ≤ a ∧ a < 4294967296) (hb : 0 ≤ b ∧ b < 4294967296) (h : fourC a = fourC b) : a = b := by
  simp only [fourC, List.cons.injEq, and_true] at h
  omega

/-- What Open says of the turned bytes with the old sum behind them. -/
theorem open_burst (bs ys : List Int) (E f : Nat) (hl : ys.length = bs.length) (hb : ∀ x ∈ bs, 0 ≤ x ∧ x ≤ 255) (hy : ∀ x ∈ ys, 0 ≤ x ∧ x ≤ 255) (hf : f ≤ 8 * bs.length) (hE : E < 4294967296) (hn : numB ys = numB bs ^^^ (E <<< f)) :
    openB (ys ++ fourC (sumC [bs])) = decide (E = 0) := by
  unfold openB
  have e1 : (ys ++ fourC (sumC [bs])).length - 4 = ys.length := by rw [List.length_append, fourC_len]; omega
  rw [e1, List.drop_left, List.take_left, decide_eq_decide, ← burst bs ys E f hl hb hy hf hE hn]
  constructor
  · exact fun h => four_inj _ _ (sumC_range _) (sumC_range _) h.2
  · exact fun h => ⟨by rw [List.length_append, fourC_len]; omega, by rw [h]⟩
end Go.Proofs.YtkbehdjaegomgaaDoor.K
