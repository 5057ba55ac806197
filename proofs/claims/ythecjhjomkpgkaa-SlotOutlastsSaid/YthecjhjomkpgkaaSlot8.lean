/- mementoref3's eight, number; mementolaw4.as. -/
import Derived.Test.YthecjhjomkpgkaaSlot3
namespace Go.Proofs.Ythecjhjomkpgkaa.K
open Go.ChangeShapes Go.WideShapes Go.ChangeAt Go.RowKit
set_option linter.unusedVariables false

set_option maxRecDepth 100000 in
set_option maxHeartbeats 1000000 in
theorem eight_any (w : World) (v : Nat) :
    Calls Try.prog 48 #[.int .u64 v] w fun e w' => ∃ u, e = .returned u ∧ w'.ownsRow w.heap.size 5 1 u 8 (B8 (le8 v)) ∧ Below w.heap.size w w' := by
  go_enter Try.func48, Try.ntmps48
  go_wp2
  go_loopw [3, 4] (fun s i wr => ∃ k : Nat, k ≤ 8 ∧ i = .int .i64 k ∧ wr.ownsRow w.heap.size 5 1 s k (B8 ((le8 v).take k)) ∧ Below w.heap.size w wr) (fun _ i _ => 8 - (intOf i).toNat)
  case atStart => exact ⟨0, Nat.zero_le _, rfl, World.ownsRow_nil _ _ _ _, Below.refl _ _⟩
  case round =>
    obtain ⟨k, hk, rfl, hown, hbel⟩ := hrel
    by_cases hlt : k < 8
    · obtain ⟨m, hm⟩ : ∃ m, m = 8 * k := ⟨_, rfl⟩
      have hmI : (8 : Int) * (k : Int) = (m : Int) := by omega
      have hby := u8_byte v m k hm
      have hst : (le8 v).take (k + 1) = (le8 v).take k ++ [((byteOf v k : Nat) : Int)] := by
        rw [List.take_succ_eq_append_getElem (by rw [le8_len]; exact hlt), ← le8_get v k hlt]
        simp [List.getD, le8_len, hlt]
      obtain ⟨x, hx⟩ : ∃ x : Int, ((byteOf v k : Nat) : Int) = x := ⟨_, rfl⟩
      rw [hx] at hby hst
      have hm64 : (m : Int) < 64 := by omega
      have hm0 : m < 64 := by omega
      have HST := Lib.hid hst
      have hk8 : (k : Int) < 8 := by omega
      have hsz := hbel.size
      have HO := Lib.hid hown
      have HB := Lib.hid hbel
      clear hst hx hm hown hbel
      go_wp2_with (at_builtin; refine wpList_app1 rfl _ _ 25 rfl w.heap.size 5 .u8 1 Try.underlying25 info_u8 (by omega) _ _ _ rfl HO.out _ 1 rfl (by omega) hsz ?_; intro v' w' hown' hb'; have HO' := Lib.hid hown'; have HB' := Lib.hid hb'; clear hown' hb')
      go_roundw
      case rel =>
        refine ⟨k + 1, by omega, by go_num, ?_, HB.out.trans HB'.out⟩
        rw [HST.out, B8_append]
        exact HO'.out
      case measure => simp [intOf]; omega
    · obtain rfl : k = 8 := by omega
      rw [show (le8 v).take 8 = le8 v from List.take_of_length_le (by rw [le8_len]; omega)] at hown
      have HO := Lib.hid hown
      clear hown
      rw [show ((8 : Nat) : Int) = 8 from rfl]
      go_wp2
      go_ret
      exact ⟨_, rfl, HO.out, hbel⟩

/-- What is read from the top down: the bytes from k on. -/
def numHi (b : List Int) : Nat → Nat
  | 0 => 0
  | j + 1 => numHi b j * 256 + (b.getD (7 - j) 0).toNat
theorem numHi_lt (b : List Int) (hb : ∀ j, j < 8 → 0 ≤ b.getD j 0 ∧ b.getD j 0 ≤ 255) : ∀ k, k ≤ 8 → numHi b k < 2 ^ (8 * k)
  | 0, _ => by simp [numHi]
  | k + 1, h => by
    have h1 := numHi_lt b hb k (by omega)
    have h2 := hb (7 - k) (by omega)
    unfold numHi
    have e : 2 ^ (8 * (k + 1)) = 2 ^ (8 * k) * 256 := by rw [Nat.mul_add, Nat.pow_add]
    rw [e]
    omega
theorem numHi_num8 (b : List Int) : numHi b 8 = num8 b 8 := by
  simp only [numHi, num8]
  generalize (b.getD 0 0).toNat = x0
  generalize (b.getD 1 0).toNat = x1
  generalize (b.getD 2 0).toNat = x2
  generalize (b.getD 3 0).toNat = x3
  generalize (b.getD 4 0).toNat = x4
  generalize (b.getD 5 0).toNat = x5
  generalize (b.getD 6 0).toNat = x6
  generalize (b.getD 7 0).toNat = x7
  omega
theorem or_low (acc : Nat) (x : Int) (hacc : acc < 2 ^ 56) (x0 : 0 ≤ x) (hx : x ≤ 255) :
    bits .or .u64 (IntKind.u64.wrap ((acc : Int) * 256)) x = ((acc * 256 + x.toNat : Nat) : Int) := by
  obtain ⟨y, rfl⟩ : ∃ y : Nat, x = y := ⟨x.toNat, by omega⟩
  rw [Int.toNat_natCast]
  have hb : acc * 256 < 2 ^ 64 := by omega
  have hcast : ((acc : Int) * 256) = ((acc * 256 : Nat) : Int) := by simp
  have hw : ∀ n : Int, 0 ≤ n → n < 2 ^ 64 → IntKind.u64.wrap n = n := fun n h0 h1 => by rw [IntKind.wrap_u64]; omega
  rw [hcast, hw _ (by omega) (by have : ((acc * 256 : Nat) : Int) < ((2 ^ 64 : Nat) : Int) := Int.ofNat_lt.2 hb; simpa using this)]
  have h := (bits_nat .u64 64 (by decide) hw (acc * 256) y hb (by omega)).2
  rw [h]
  have h2 : 2 ^ 8 * acc + y = 2 ^ 8 * acc ||| y := Nat.two_pow_add_eq_or_of_lt (by omega) acc
  rw [Nat.mul_comm acc 256, show 256 = 2 ^ 8 from rfl, ← h2]

set_option maxRecDepth 100000 in
set_option maxHeartbeats 1000000 in
theorem number_any (w : World) (v : Value) (bs : List Int) (hv : IsNums .u8 w v bs) (h8 : 8 ≤ bs.length) (hb : ∀ j, j < bs.length → 0 ≤ bs.getD j 0 ∧ bs.getD j 0 ≤ 255) :
    Calls Try.prog 51 #[v] w fun x w' => x = .returned (.int .u64 (num8 bs 8)) ∧ w' = w := by
  obtain ⟨p, c, rfl, hp⟩ := hv
  obtain h0 | ⟨g, o, rfl, hg, hc⟩ := hp
  · omega
  have HC := Lib.hid hc
  have HB := Lib.hid hb
  have HN := Lib.hid (numHi_num8 bs)
  have hnI : (8 : Int) ≤ bs.length := by omega
  obtain ⟨N8, hN8⟩ : ∃ x, num8 bs 8 = x := ⟨_, rfl⟩
  rw [hN8] at HN ⊢
  clear hc hb hN8
  go_enter Try.func51, Try.ntmps51
  go_wp2
  go_loopw [3, 4] (fun s i wr => ∃ (k : Nat) (A : Nat), k ≤ 8 ∧ i = .int .i64 (7 - (k : Int)) ∧ s = .int .u64 A ∧ A = numHi bs k ∧ wr = w) (fun _ i _ => (intOf i + 1).toNat)
  case atStart => exact ⟨0, 0, Nat.zero_le _, rfl, rfl, rfl, rfl⟩
  case round =>
    obtain ⟨k, A, hk, rfl, rfl, hA, hw⟩ := hrel
    subst hw
    by_cases hlt : k < 8
    · obtain ⟨i, hi⟩ : ∃ i : Nat, 7 - (k : Int) = (i : Int) := ⟨7 - k, by omega⟩
      have hik : i = 7 - k := by omega
      rw [hi]
      have hcell := HC.out i (by omega)
      have hx := HB.out i (by omega)
      have hlt2 := numHi_lt bs (fun j hj => HB.out j (by omega)) k (by omega)
      have h56 : A < 2 ^ 56 := by rw [hA]; exact Nat.lt_of_lt_of_le hlt2 (Nat.pow_le_pow_right (by decide) (by omega))
      have hor := or_low A (bs.getD i 0) h56 hx.1 hx.2
      have hst : A * 256 + (bs.getD i 0).toNat = numHi bs (k + 1) := by rw [hA, hik]; rfl
      obtain ⟨x, hxx⟩ : ∃ x : Int, bs.getD i 0 = x := ⟨_, rfl⟩
      rw [hxx] at hcell hor hx hst
      rw [hst] at hor
      obtain ⟨x0, x1⟩ := hx
      have hwx : IntKind.u64.wrap x = x := by rw [IntKind.wrap_u64]; omega
      obtain ⟨A', hA'⟩ : ∃ A' : Nat, numHi bs (k + 1) = A' := ⟨_, rfl⟩
      rw [hA'] at hor
      have HA' := Lib.hid hA'
      have hii : (i : Int) = 7 - (k : Int) := hi.symm
      have HI := Lib.hid hii
      have hkI : (i : Int) < bs.length := by omega
      have hi0 : (0 : Int) ≤ i := by omega
      have hi8 : (i : Int) ≤ 7 := by omega
      clear hi hik hst hxx hA' hlt2 hA h56 hii
      go_wp2
      go_roundw
      case rel => exact ⟨k + 1, A', by omega, by have := HI.out; go_num, rfl, HA'.out.symm, by first | rfl | trivial⟩
      case measure => simp [intOf] <;> omega
    · obtain rfl : k = 8 := by omega
      have HA := Lib.hid (hA.trans HN.out)
      rw [show (7 - ((8 : Nat) : Int)) = -1 from rfl]
      clear hA
      go_wp2
      go_ret
      exact ⟨by rw [← HA.out]; rfl, rfl⟩

set_option maxRecDepth 100000 in
theorem as_any (w : World) (c g : Nat) (a : Int) :
    Calls Try.prog 12 #[.agg #[.int .u64 c, .int .u64 g, .int .i64 a]] w fun e w' => e = .returned (.agg #[.int .u64 c, .int .u64 g, .int .i64 a]) ∧ Below w.heap.size w w' := by
  go_enter Try.func12, Try.ntmps12
  go_wp2
  go_returns
  exact ⟨rfl, ((Below.refl _ _).alloc (Nat.le_refl _) _).alloc (by simp) _⟩
end Go.Proofs.Ythecjhjomkpgkaa.K
