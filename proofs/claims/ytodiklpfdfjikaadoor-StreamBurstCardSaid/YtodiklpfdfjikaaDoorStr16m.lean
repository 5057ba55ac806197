/- stream: bits turned: pure. -/
import Derived.Test.YtodiklpfdfjikaaDoorStr15
namespace Go.Proofs.YtodiklpfdfjikaaDoor.K
open Go.ChangeShapes Go.WideShapes Go.ChangeAt Go.RowKit
set_option linter.unusedVariables false
set_option linter.unusedSimpArgs false
theorem mod_bit2 (x k : Nat) (h : x / 2 ^ k % 2 = 1) : x % 2 ^ (k + 1) = (x % 2 ^ k) ^^^ 2 ^ k := by
 have h1 : x % 2 ^ (k + 1) = x % 2 ^ k + 2 ^ k * (x / 2 ^ k % 2) := by rw [Nat.pow_succ, Nat.mod_mul]
 have h2 : x % 2 ^ k < 2 ^ k := Nat.mod_lt _ (Nat.two_pow_pos k)
 rw [h1, h, Nat.mul_one, Nat.add_comm]
 have h3 := Nat.two_pow_add_eq_or_of_lt h2 1
 rw [Nat.mul_one] at h3
 rw [h3]
 apply Nat.eq_of_testBit_eq
 intro i
 rw [Nat.testBit_or, Nat.testBit_xor, Nat.testBit_two_pow]
 by_cases hi : k = i
 · subst hi
   rw [Nat.testBit_lt_two_pow h2]; simp
 simp [hi]
theorem mod_none (x k : Nat) (h : ¬ x / 2 ^ k % 2 = 1) : x % 2 ^ (k + 1) = x % 2 ^ k := by
 have h1 : x % 2 ^ (k + 1) = x % 2 ^ k + 2 ^ k * (x / 2 ^ k % 2) := by rw [Nat.pow_succ, Nat.mod_mul]
 have h2 : x / 2 ^ k % 2 = 0 := by omega
 rw [h1, h2]; simp
theorem flip_step {ys bs : List Int} {F k x : Nat} (hbit : x / 2 ^ k % 2 = 1) (hyl : ys.length = bs.length) (hyb : BytesL ys) (hny : numB ys = numB bs ^^^ ((x % 2 ^ k) <<< F)) (hl : F + k < 8 * bs.length) :
   (F + k) / 8 < bs.length ∧ (ys.getD ((F + k) / 8) 0).toNat ^^^ 2 ^ ((F + k) % 8) < 256 ∧ BytesL (ys.set ((F + k) / 8) (((ys.getD ((F + k) / 8) 0).toNat ^^^ 2 ^ ((F + k) % 8) : Nat) : Int)) ∧ numB (ys.set ((F + k) / 8) (((ys.getD ((F + k) / 8) 0).toNat ^^^ 2 ^ ((F + k) % 8) : Nat) : Int)) = numB bs ^^^ ((x % 2 ^ (k + 1)) <<< F) ∧ x % 2 ^ (k + 1) ≠ 0 := by
 have hQ : (F + k) / 8 < bs.length := by omega
 have hy : BytesL [ys.getD ((F + k) / 8) 0] := fun z hz => by
   obtain rfl := List.mem_singleton.1 hz
   rw [List.getD, List.getElem?_eq_getElem (by omega)]; exact hyb _ (List.getElem_mem _)
 have hy1 := hy _ (List.mem_singleton.2 rfl)
 have hM : 2 ^ ((F + k) % 8) < 256 := by
   have : 2 ^ ((F + k) % 8) ≤ 2 ^ 7 := Nat.pow_le_pow_right (by decide) (by omega)
   omega
 have hV : (ys.getD ((F + k) / 8) 0).toNat ^^^ 2 ^ ((F + k) % 8) < 256 := Nat.xor_lt_two_pow (n := 8) (by omega) hM
 have h1 : x % 2 ^ (k + 1) = x % 2 ^ k + 2 ^ k * (x / 2 ^ k % 2) := by rw [Nat.pow_succ, Nat.mod_mul]
 refine ⟨hQ, hV, fun z hz => ?_, ?_, ?_⟩
 · rcases List.mem_or_eq_of_mem_set hz with h | rfl
   · exact hyb z h
   omega
 · rw [numB_set ys _ _ (by omega) hyb, hny, mod_bit2 x k hbit, Nat.shiftLeft_xor_distrib, Nat.xor_assoc]
   congr 2
   rw [Nat.shiftLeft_eq, Nat.shiftLeft_eq, ← Nat.pow_add, ← Nat.pow_add]
   congr 1; omega
 rw [h1, hbit]; have := Nat.two_pow_pos k; omega
theorem numB_inj : ∀ (a b : List Int), a.length = b.length → BytesL a → BytesL b → numB a = numB b → a = b
 | [], [], _, _, _, _ => rfl
 | x :: xs, y :: ys, hl, ha, hb, h => by
   have hx := ha x List.mem_cons_self
   have hy := hb y List.mem_cons_self
   have h' : x.toNat ^^^ (numB xs <<< 8) = y.toNat ^^^ (numB ys <<< 8) := h
   have hm : ∀ (u v : Nat), u < 256 → (u ^^^ (v <<< 8)) % 256 = u ∧ (u ^^^ (v <<< 8)) / 256 = v := fun u v hu => by
     have e1 : u ^^^ (v <<< 8) = v <<< 8 + u := by
       have h3 := Nat.two_pow_add_eq_or_of_lt (i := 8) (b := u) hu v
       rw [Nat.shiftLeft_eq, Nat.mul_comm, h3]
       apply Nat.eq_of_testBit_eq
       intro i
       rw [Nat.testBit_or, Nat.testBit_xor, Nat.testBit_two_pow_mul]
       by_cases hi : 8 ≤ i
       · rw [Nat.testBit_lt_two_pow (Nat.lt_of_lt_of_le hu (show 2 ^ 8 ≤ 2 ^ i from Nat.pow_le_pow_right (by decide) hi))]; simp
       simp [hi]
     rw [e1, Nat.shiftLeft_eq]
     omega
   obtain ⟨p1, p2⟩ := hm x.toNat (numB xs) (by omega)
   obtain ⟨q1, q2⟩ := hm y.toNat (numB ys) (by omega)
   rw [h'] at p1 p2
   have e2 : x = y := by omega
   have e3 := numB_inj xs ys (by simpa using hl) (fun z hz => ha z (List.mem_cons_of_mem _ hz)) (fun z hz => hb z (List.mem_cons_of_mem _ hz)) (by omega)
   rw [e2, e3]
end Go.Proofs.YtodiklpfdfjikaaDoor.K
