/- mementoref3's number. -/
import Derived.Test.YtogjhjiapinmcaaDoorWal6
import Derived.Laws.Bits64
namespace Go.Proofs.YtogjhjiapinmcaaDoor.K
open Go.ChangeShapes Go.WideShapes Go.ChangeAt Go.RowKit
set_option linter.unusedVariables false
set_option linter.unusedSimpArgs false
def num8 (b : List Int) : Nat → Nat
 | 0 => 0
 | k + 1 => num8 b k + (b.getD k 0).toNat * 2 ^ (8 * k)
def numHi (b : List Int) : Nat → Nat
 | 0 => 0
 | j + 1 => numHi b j * 256 + (b.getD (7 - j) 0).toNat
theorem numHi_lt (b : List Int) (hb : ∀ j, j < 8 → 0 ≤ b.getD j 0 ∧ b.getD j 0 ≤ 255) : ∀ k, k ≤ 8 → numHi b k < 2 ^ (8 * k)
 | 0, _ => by simp [numHi]
 | k + 1, h => by
   have h1 := numHi_lt b hb k (by omega)
   have h2 := hb (7 - k) (by omega)
   unfold numHi
   have e : 2 ^ (8 * (k + 1)) = 2 ^ (8 * k) * 256 := by rw [Nat.mul_add, Nat.pow_add]
   rw [e]
   omega
theorem numHi_num8 (b : List Int) : numHi b 8 = num8 b 8 := by
 simp only [numHi, num8]
 generalize (b.getD 0 0).toNat = x0
 generalize (b.getD 1 0).toNat = x1
 generalize (b.getD 2 0).toNat = x2
 generalize (b.getD 3 0).toNat = x3
 generalize (b.getD 4 0).toNat = x4
 generalize (b.getD 5 0).toNat = x5
 generalize (b.getD 6 0).toNat = x6
 generalize (b.getD 7 0).toNat = x7
 omega
theorem or_low (acc : Nat) (x : Int) (hacc : acc < 2 ^ 56) (x0 : 0 ≤ x) (hx : x ≤ 255) :
   bits .or .u64 (IntKind.u64.wrap ((acc : Int) * 256)) x = ((acc * 256 + x.toNat : Nat) : Int) := by
 obtain ⟨y, rfl⟩ : ∃ y : Nat, x = y := ⟨x.toNat, by omega⟩
 rw [Int.toNat_natCast]
 have hb : acc * 256 < 2 ^ 64 := by omega
 have hcast : ((acc : Int) * 256) = ((acc * 256 : Nat) : Int) := by simp
 have hw : ∀ n : Int, 0 ≤ n → n < 2 ^ 64 → IntKind.u64.wrap n = n := fun n h0 h1 => by rw [IntKind.wrap_u64]; omega
 rw [hcast, hw _ (by omega) (by have : ((acc * 256 : Nat) : Int) < ((2 ^ 64 : Nat) : Int) := Int.ofNat_lt.2 hb; simpa using this)]
 have h := (bits_nat .u64 64 (by decide) hw (acc * 256) y hb (by omega)).2
 rw [h]
 have h2 : 2 ^ 8 * acc + y = 2 ^ 8 * acc ||| y := Nat.two_pow_add_eq_or_of_lt (by omega) acc
 rw [Nat.mul_comm acc 256, show 256 = 2 ^ 8 from rfl, ← h2]

set_option maxRecDepth 100000 in
set_option maxHeartbeats 1000000 in
theorem rnumber_any (w : World) (v : Value) (bs : List Int) (hv : IsNums .u8 w v bs) (h8 : 8 ≤ bs.length) (hb : ∀ j, j < bs.length → 0 ≤ bs.getD j 0 ∧ bs.getD j 0 ≤ 255) :
   Calls Tryd.prog 50 #[v] w fun x w' => x = .returned (.int .u64 (num8 bs 8)) ∧ w' = w := by
 obtain ⟨p, c, rfl, hp⟩ := hv
 obtain h0 | ⟨g, o, rfl, hg, hc⟩ := hp
 · omega
 have HC := Lib.hid hc
 have HB := Lib.hid hb
 have HN := Lib.hid (numHi_num8 bs)
 have hnI : (8 : Int) ≤ bs.length := by omega
 obtain ⟨N8, hN8⟩ : ∃ x, num8 bs 8 = x := ⟨_, rfl⟩
 rw [hN8] at HN ⊢
 clear hc hb hN8
 go_enter Tryd.func50, Tryd.ntmps50
 go_wp2
 go_loopw [3, 4] (fun s i wr => ∃ (k : Nat) (A : Nat), k ≤ 8 ∧ i = .int .i64 (7 - (k : Int)) ∧ s = .int .u64 A ∧ A = numHi bs k ∧ wr = w) (fun _ i _ => (intOf i + 1).toNat)
 case atStart => exact ⟨0, 0, Nat.zero_le _, rfl, rfl, rfl, rfl⟩
 case round =>
   obtain ⟨k, A, hk, rfl, rfl, hA, hw⟩ := hrel
   subst hw
   by_cases hlt : k < 8
   · obtain ⟨i, hi⟩ : ∃ i : Nat, 7 - (k : Int) = (i : Int) := ⟨7 - k, by omega⟩
     have hik : i = 7 - k := by omega
     rw [hi]
     have hcell := HC.out i (by omega)
     have hx := HB.out i (by omega)
     have hlt2 := numHi_lt bs (fun j hj => HB.out j (by omega)) k (by omega)
     have h56 : A < 2 ^ 56 := by rw [hA]; exact Nat.lt_of_lt_of_le hlt2 (Nat.pow_le_pow_right (by decide) (by omega))
     have hor := or_low A (bs.getD i 0) h56 hx.1 hx.2
     have hst : A * 256 + (bs.getD i 0).toNat = numHi bs (k + 1) := by rw [hA, hik]; rfl
     obtain ⟨x, hxx⟩ : ∃ x : Int, bs.getD i 0 = x := ⟨_, rfl⟩
     rw [hxx] at hcell hor hx hst
     rw [hst] at hor
     obtain ⟨x0, x1⟩ := hx
     have hwx : IntKind.u64.wrap x = x := by rw [IntKind.wrap_u64]; omega
     obtain ⟨A', hA'⟩ : ∃ A' : Nat, numHi bs (k + 1) = A' := ⟨_, rfl⟩
     rw [hA'] at hor
     have HA' := Lib.hid hA'
     have hii : (i : Int) = 7 - (k : Int) := hi.symm
     have HI := Lib.hid hii
     have hkI : (i : Int) < bs.length := by omega
     have hi0 : (0 : Int) ≤ i := by omega
     have hi8 : (i : Int) ≤ 7 := by omega
     clear hi hik hst hxx hA' hlt2 hA h56 hii
     go_wp2
     go_roundw
     case rel => exact ⟨k + 1, A', by omega, by have := HI.out; go_num, rfl, HA'.out.symm, by first | rfl | trivial⟩
     case measure => simp [intOf] <;> omega
   · obtain rfl : k = 8 := by omega
     have HA := Lib.hid (hA.trans HN.out)
     rw [show (7 - ((8 : Nat) : Int)) = -1 from rfl]
     clear hA
     go_wp2
     go_ret
     exact ⟨by rw [← HA.out]; rfl, rfl⟩
end Go.Proofs.YtogjhjiapinmcaaDoor.K
