/- slot.put, slot.get: numbers as eight bytes. -/
import Derived.Test.YthecjhjomkpgkaaDisk7s
import Derived.Laws.Bits64
namespace Go.Proofs.Ythecjhjomkpgkaa.K
open Go.ChangeShapes Go.WideShapes Go.ChangeAt Go.RowKit
set_option linter.unusedVariables false

/-- Byte i of a number. -/
def byteOf (n i : Nat) : Nat := n / 2 ^ (8 * i) % 256
/-- Eight bytes of a number, the lowest first. -/
def le8 (n : Nat) : List Int := (List.range 8).map fun i => ((byteOf n i : Nat) : Int)
theorem le8_len (n : Nat) : (le8 n).length = 8 := by simp [le8]
theorem le8_get (n i : Nat) (hi : i < 8) : (le8 n).getD i 0 = ((byteOf n i : Nat) : Int) := by simp [le8, List.getD, hi]
theorem le8_ok (n : Nat) : ∀ x ∈ le8 n, 0 ≤ x ∧ x ≤ 255 := by
  intro x hx
  obtain ⟨i, hi, rfl⟩ := List.mem_map.1 hx
  unfold byteOf
  omega
/-- s with b laid over it from o on. -/
def lay (s b : List Int) (o : Nat) : List Int := s.take o ++ b ++ s.drop (o + b.length)
theorem lay_nil (s : List Int) (o : Nat) : lay s [] o = s := by simp [lay]
theorem lay_len (s b : List Int) (o : Nat) (h : o + b.length ≤ s.length) : (lay s b o).length = s.length := by
  simp [lay]; omega
theorem lay_step (s b : List Int) (o k : Nat) (h : o + b.length ≤ s.length) (hk : k < b.length) : (lay s (b.take k) o).set (o + k) (b.getD k 0) = lay s (b.take (k + 1)) o := by
  have e1 : (b.take k).length = k := by rw [List.length_take]; omega
  have e2 : (b.take (k + 1)).length = k + 1 := by rw [List.length_take]; omega
  have e3 : (s.take o).length = o := by rw [List.length_take]; omega
  unfold lay
  rw [e1, e2, List.set_append_right _ _ (by rw [List.length_append, e3, e1]; omega), List.length_append, e3, e1, Nat.sub_self]
  rw [List.drop_eq_getElem_cons (show o + k < s.length by omega), List.set_cons_zero, List.take_succ_eq_append_getElem hk]
  have : b.getD k 0 = b[k] := by simp [List.getD, hk]
  rw [this]
  simp only [List.append_assoc, List.cons_append, List.nil_append, Nat.add_assoc]
theorem B8_set (l : List Int) (j : Nat) (x : Int) : (B8 l).set j (.int .u8 x) = B8 (l.set j x) := by
  unfold B8; rw [List.map_set]
theorem B8_get (l : List Int) (j : Nat) (hj : j < l.length) : (B8 l)[j]? = some (.int .u8 (l.getD j 0)) := by
  simp [B8, List.getD, hj]

theorem u8_byte (n m k : Nat) (hm : m = 8 * k) : IntKind.u8.wrap ((n : Int) / 2 ^ m) = ((byteOf n k : Nat) : Int) := by
  subst hm
  rw [IntKind.wrap_u8]
  unfold byteOf
  have : ((n : Int) / 2 ^ (8 * k)) = ((n / 2 ^ (8 * k) : Nat) : Int) := by simp
  rw [this]
  omega

set_option maxRecDepth 100000 in
set_option maxHeartbeats 1000000 in
theorem put8_any (w : World) (g o n c : Nat) (e : TypeId) (s : List Int) (v : Nat) (hb : Blk w g e (B8 s)) (ho : o + 8 ≤ s.length) (hn : 8 ≤ n) :
    Calls Try.prog 47 #[.slice (some ⟨g, o, none⟩) n c, .int .u64 v] w fun x w' => x = .returned (.tuple #[]) ∧ Blk w' g e (B8 (lay s (le8 v) o)) ∧ Keep (fun k => k = g) w w' := by
  have HB := Lib.hid hb
  have hnI : (8 : Int) ≤ n := by omega
  clear hb
  go_enter Try.func47, Try.ntmps47
  go_wp2
  go_loopw [5] (fun i wr => ∃ k : Nat, k ≤ 8 ∧ i = .int .i64 k ∧ Blk wr g e (B8 (lay s ((le8 v).take k) o)) ∧ Keep (fun k => k = g) w wr) (fun i _ => 8 - (intOf i).toNat)
  case atStart => exact ⟨0, Nat.zero_le _, rfl, by rw [List.take_zero, lay_nil]; exact HB.out, Keep.refl _ _⟩
  case round =>
    obtain ⟨k, hk, rfl, hbr, hkr⟩ := hrel
    by_cases hlt : k < 8
    · have hl1 : ((le8 v).take k).length = k := by rw [List.length_take, le8_len]; omega
      have hll : (lay s ((le8 v).take k) o).length = s.length := lay_len _ _ _ (by rw [hl1]; omega)
      have hcell : wr.cell? ⟨g, o + k, none⟩ = some (.int .u8 ((lay s ((le8 v).take k) o).getD (o + k) 0)) := by
        rw [hbr.cell]; exact B8_get _ _ (by rw [hll]; omega)
      have hfree := hbr.free (o + k)
      generalize (lay s ((le8 v).take k) o).getD (o + k) 0 = old at hcell
      obtain ⟨m, hm⟩ : ∃ m, m = 8 * k := ⟨_, rfl⟩
      have hmI : (8 : Int) * (k : Int) = (m : Int) := by omega
      have hby := u8_byte v m k hm
      have hst := lay_step s (le8 v) o k (by rw [le8_len]; omega) (by rw [le8_len]; exact hlt)
      rw [le8_get v k hlt] at hst
      obtain ⟨x, hx⟩ : ∃ x : Int, ((byteOf v k : Nat) : Int) = x := ⟨_, rfl⟩
      rw [hx] at hby hst
      have hm64 : (m : Int) < 64 := by omega
      have hm0 : m < 64 := by omega
      have HBR := Lib.hid hbr
      have HKR := Lib.hid hkr
      have HST := Lib.hid hst
      have hkI : (k : Int) < n := by omega
      have hk8 : (k : Int) < 8 := by omega
      clear hbr hkr hst hx hm hll hl1
      go_wp2
      go_roundw
      case rel =>
        refine ⟨k + 1, by omega, by go_num, ?_, HKR.out.trans (Keep.setCell (by rfl) _)⟩
        have := HBR.out.setCell (o + k) (.int .u8 x)
        rw [B8_set, HST.out] at this
        exact this
      case measure => simp [intOf]; omega
    · obtain rfl : k = 8 := by omega
      rw [show (le8 v).take 8 = le8 v from List.take_of_length_le (by rw [le8_len]; omega)] at hbr
      rw [show ((8 : Nat) : Int) = 8 from rfl]
      go_wp2
      go_returns
      exact ⟨rfl, hbr, hkr⟩

/-- The number that eight bytes are. -/
def num8 (b : List Int) : Nat → Nat
  | 0 => 0
  | k + 1 => num8 b k + (b.getD k 0).toNat * 2 ^ (8 * k)
theorem num8_lt (b : List Int) (hb : ∀ j, j < 8 → 0 ≤ b.getD j 0 ∧ b.getD j 0 ≤ 255) : ∀ k, k ≤ 8 → num8 b k < 2 ^ (8 * k)
  | 0, _ => by simp [num8]
  | k + 1, h => by
    have h1 := num8_lt b hb k (by omega)
    have h2 := hb k (by omega)
    have h3 : (b.getD k 0).toNat ≤ 255 := by omega
    unfold num8
    have e : 2 ^ (8 * (k + 1)) = 2 ^ (8 * k) * 256 := by rw [Nat.mul_add, Nat.pow_add]
    rw [e]
    have h4 : (b.getD k 0).toNat * 2 ^ (8 * k) ≤ 255 * 2 ^ (8 * k) := Nat.mul_le_mul_right _ h3
    omega
theorem or_byte (acc k m : Nat) (x : Int) (hm : m = 8 * k) (hacc : acc < 2 ^ (8 * k)) (hk : k < 8) (x0 : 0 ≤ x) (hx : x ≤ 255) :
    bits .or .u64 (acc : Int) (IntKind.u64.wrap (x * 2 ^ m)) = ((acc + x.toNat * 2 ^ (8 * k) : Nat) : Int) := by
  subst hm
  obtain ⟨y, rfl⟩ : ∃ y : Nat, x = y := ⟨x.toNat, by omega⟩
  have hy1 : y ≤ 255 := by omega
  rw [Int.toNat_natCast]
  have hp : 2 ^ (8 * k) ≤ 2 ^ 56 := Nat.pow_le_pow_right (by decide) (by omega)
  have hb : y * 2 ^ (8 * k) < 2 ^ 64 := Nat.lt_of_le_of_lt (Nat.mul_le_mul hy1 hp) (by decide)
  have ha : acc < 2 ^ 64 := Nat.lt_of_lt_of_le hacc (Nat.pow_le_pow_right (by decide) (by omega))
  have hcast : ((y : Int) * 2 ^ (8 * k)) = ((y * 2 ^ (8 * k) : Nat) : Int) := by simp
  have hw : ∀ n : Int, 0 ≤ n → n < 2 ^ 64 → IntKind.u64.wrap n = n := fun n h0 h1 => by rw [IntKind.wrap_u64]; omega
  rw [hcast, hw _ (by omega) (by have : ((y * 2 ^ (8 * k) : Nat) : Int) < ((2 ^ 64 : Nat) : Int) := Int.ofNat_lt.2 hb; simpa using this)]
  have h := (bits_nat .u64 64 (by decide) hw acc (y * 2 ^ (8 * k)) ha hb).2
  rw [h]
  have h2 : 2 ^ (8 * k) * y + acc = 2 ^ (8 * k) * y ||| acc := Nat.two_pow_add_eq_or_of_lt hacc y
  rw [Nat.or_comm, Nat.mul_comm y, ← h2, Nat.mul_comm, Nat.add_comm]

set_option maxRecDepth 100000 in
set_option maxHeartbeats 1000000 in
theorem get8_any (w : World) (v : Value) (bs : List Int) (hv : IsNums .u8 w v bs) (h8 : 8 ≤ bs.length) (hb : ∀ j, j < bs.length → 0 ≤ bs.getD j 0 ∧ bs.getD j 0 ≤ 255) :
    Calls Try.prog 49 #[v] w fun x w' => x = .returned (.int .u64 (num8 bs 8)) ∧ w' = w := by
  obtain ⟨p, c, rfl, hp⟩ := hv
  obtain h0 | ⟨g, o, rfl, hg, hc⟩ := hp
  · omega
  have HC := Lib.hid hc
  have HB := Lib.hid hb
  have hnI : (8 : Int) ≤ bs.length := by omega
  clear hc hb
  go_enter Try.func49, Try.ntmps49
  go_wp2
  go_loopw [3, 5] (fun s i wr => ∃ k : Nat, k ≤ 8 ∧ i = .int .i64 k ∧ s = .int .u64 (num8 bs k) ∧ wr = w) (fun _ i _ => 8 - (intOf i).toNat)
  case atStart => exact ⟨0, Nat.zero_le _, rfl, rfl, rfl⟩
  case round =>
    obtain ⟨k, hk, rfl, rfl, hw⟩ := hrel
    subst hw
    by_cases hlt : k < 8
    · have hcell := HC.out k (by omega)
      have hx := HB.out k (by omega)
      have hlt2 := num8_lt bs (fun j hj => HB.out j (by omega)) k (by omega)
      obtain ⟨m, hm⟩ : ∃ m, m = 8 * k := ⟨_, rfl⟩
      have hmI : (8 : Int) * (k : Int) = (m : Int) := by omega
      have hor := or_byte (num8 bs k) k m (bs.getD k 0) hm hlt2 hlt hx.1 hx.2
      rw [show num8 bs k + (bs.getD k 0).toNat * 2 ^ (8 * k) = num8 bs (k + 1) from rfl] at hor
      obtain ⟨x, hxx⟩ : ∃ x : Int, bs.getD k 0 = x := ⟨_, rfl⟩
      rw [hxx] at hcell hor hx
      obtain ⟨x0, x1⟩ := hx
      have hwx : IntKind.u64.wrap x = x := by rw [IntKind.wrap_u64]; omega
      obtain ⟨A, hA⟩ : ∃ A : Nat, num8 bs k = A := ⟨_, rfl⟩
      obtain ⟨A', hA'⟩ : ∃ A' : Nat, num8 bs (k + 1) = A' := ⟨_, rfl⟩
      rw [hA] at hor ⊢
      rw [hA'] at hor
      have HA' := Lib.hid hA'
      have hm64 : (m : Int) < 64 := by omega
      have hm0 : m < 64 := by omega
      have hkI : (k : Int) < bs.length := by omega
      have hk8 : (k : Int) < 8 := by omega
      clear hm hxx hA hA' hlt2
      go_wp2
      go_roundw
      case rel => exact ⟨k + 1, by omega, by go_num, by rw [HA'.out], by first | rfl | trivial⟩
      case measure => simp [intOf]; omega
    · obtain rfl : k = 8 := by omega
      obtain ⟨A, hA⟩ : ∃ A : Nat, num8 bs 8 = A := ⟨_, rfl⟩
      rw [hA]
      rw [show ((8 : Nat) : Int) = 8 from rfl]
      have HA := Lib.hid hA
      clear hA
      go_wp2
      go_ret
      exact ⟨by rw [HA.out]; rfl, rfl⟩
end Go.Proofs.Ythecjhjomkpgkaa.K
