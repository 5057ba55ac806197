/- The reference's row, More, Sum, Four, Seal return what the program's do. -/
import Derived.Test.YtkbehdjaegomgaaDoorCrcB1
namespace Go.Proofs.YtkbehdjaegomgaaDoor.K
open Go.ChangeShapes Go.WideShapes Go.ChangeAt Go.RowKit
set_option linter.unusedVariables false

theorem shk_succ (k c : Nat) : shk (k + 1) c = sh1 (shk k c) := shk_add k 1 c
theorem shk_lt (k : Nat) : ∀ c : Nat, c < 4294967296 → shk k c < 4294967296 := by
  induction k with
  | zero => exact fun c h => h
  | succ k ih => exact fun c h => ih _ (sh1_lt c h)

set_option maxRecDepth 100000 in
set_option maxHeartbeats 2000000 in
theorem row_any (c : Nat) (w : World) (hc : c < 4294967296) :
    Calls Tryd.prog 17 #[.int .u32 (c : Int)] w fun e w' => e = .returned (.int .u32 ((shk 8 c : Nat) : Int)) ∧ w' = w := by
  go_enter Tryd.func17, Tryd.ntmps17
  go_wp2
  go_loop [0, 3] (fun s i => ∃ k d : Nat, k ≤ 8 ∧ i = .int .i64 k ∧ s = .int .u32 (d : Int) ∧ d = shk k c ∧ d < 4294967296) (fun _ i => 8 - (intOf i).toNat)
  case atStart => exact ⟨0, c, by omega, rfl, rfl, rfl, hc⟩
  case round =>
    obtain ⟨k, d, hk, rfl, rfl, hd, hd2⟩ := hrel
    by_cases hlt : k < 8
    · have hand : bits .and .u32 (d : Int) 1 = ((d % 2 : Nat) : Int) := by
        rw [show (1 : Int) = ((1 : Nat) : Int) by rfl, u32_and_nat _ _ hd2 (by decide), nat_mask1]
      have hs := shk_succ k c
      rw [← hd] at hs
      have hlt1 := sh1_lt d hd2
      by_cases hb : d % 2 = 1
      · rw [hb] at hand
        have hv : bits .xor .u32 ((d : Int) / 2) 2197175160 = ((sh1 d : Nat) : Int) := by
          have e : sh1 d = (d / 2) ^^^ 2197175160 := by
            unfold sh1
            rw [Nat.testBit_zero, Nat.shiftRight_eq_div_pow, hb]; rfl
          rw [e, show (d : Int) / 2 = ((d / 2 : Nat) : Int) by omega, show (2197175160 : Int) = ((2197175160 : Nat) : Int) by rfl, u32_xor_nat _ _ (by omega) (by decide)]
        have HS := Lib.hid hs
        clear hs hd
        go_wp2
        go_round
        case rel => exact ⟨k + 1, _, by omega, by go_num, by first | rw [hv] | rfl, HS.out.symm, hlt1⟩
        case measure => simp [intOf]; omega
      · rw [show d % 2 = 0 by omega] at hand
        have hv : ((d : Int) / 2) = ((sh1 d : Nat) : Int) := by
          have e : sh1 d = (d / 2) := by
            unfold sh1
            rw [Nat.testBit_zero, Nat.shiftRight_eq_div_pow, show d % 2 = 0 by omega]; simp
          rw [e]; omega
        have h01 : ((0 : Int) == 1) = false := rfl
        have HS := Lib.hid hs
        have HVV := Lib.hid hv
        clear hs hd hv
        go_wp2
        go_round
        case rel => exact ⟨k + 1, _, by omega, by go_num, by rw [HVV.out], HS.out.symm, hlt1⟩
        case measure => simp [intOf]; omega
    · obtain rfl : k = 8 := by omega
      go_wp2
      go_ret
      exact ⟨rfl, rfl⟩

/-- The reference's step of a byte. -/
theorem ref_step (d : Nat) (hd : d < 4294967296) (x : Int) (h0 : 0 ≤ x) (h1 : x ≤ 255) (r : Nat) (hr : bits .xor .u32 (bits .and .u32 (d : Int) 255) x = (r : Int)) :
    bits .xor .u32 ((shk 8 r : Nat) : Int) ((d : Int) / 256) = step (d : Int) x ∧ r < 4294967296 := by
  obtain ⟨n, rfl⟩ := Int.eq_ofNat_of_zero_le h0
  have hand : bits .and .u32 (d : Int) 255 = ((d % 256 : Nat) : Int) := by
    rw [show (255 : Int) = ((255 : Nat) : Int) by rfl, u32_and_nat _ _ hd (by decide), nat_mask8]
  rw [hand, u32_xor_nat _ n (by omega) (by omega)] at hr
  have hr' : r = (d % 256) ^^^ n := by exact_mod_cast hr.symm
  have hlt : r < 4294967296 := by rw [hr']; exact Nat.xor_lt_two_pow (n := 32) (by omega) (by omega)
  refine ⟨?_, hlt⟩
  rw [(step_shk d hd (n : Int) h0 h1).1, show (d : Int) / 256 = ((d / 256 : Nat) : Int) by omega, u32_xor_nat _ _ (shk_lt 8 r hlt) (by omega)]
  congr 1
  have hdd : d = ((d / 256) <<< 8) ^^^ (d % 256) := by
    apply Nat.eq_of_testBit_eq
    intro i
    rw [Nat.testBit_xor, Nat.testBit_shiftLeft, show (256 : Nat) = 2 ^ 8 by rfl, Nat.testBit_mod_two_pow, Nat.testBit_div_two_pow]
    by_cases hi : 8 ≤ i
    · simp [hi, show ¬ i < 8 by omega]
    · simp [hi, show i < 8 by omega]
  conv => rhs; rw [hdd]
  rw [Nat.xor_assoc, shk_xor, shk_shl, hr', Nat.xor_comm]
  rfl

set_option maxRecDepth 100000 in
set_option maxHeartbeats 2000000 in
theorem more_ref (c : Int) (v : Value) (bs : List Int) (w : World) (hc : 0 ≤ c ∧ c < 4294967296) (hv : IsNums .u8 w v bs) (hb : Bytes bs) (hl : bs.length ≤ 1000000) :
    Calls Tryd.prog 13 #[.int .u32 c, v] w fun e w' => e = .returned (.int .u32 (moreC c bs)) ∧ w' = w := by
  obtain ⟨p, cc, rfl, h⟩ := hv
  have H := Lib.hid h
  have HB := Lib.hid hb
  clear h hb
  have hr0 := range32 .xor IntKind.u32.max c
  go_enter Tryd.func13, Tryd.ntmps13
  go_wp2
  go_loop [0, 5] (fun s i => ∃ (k : Nat) (d : Nat), k ≤ bs.length ∧ i = .int .i64 k ∧ s = .int .u32 (d : Int) ∧ (d : Int) = (bs.take k).foldl step (turn c) ∧ d < 4294967296) (fun _ i => bs.length - (intOf i).toNat)
  case atStart =>
    obtain ⟨d, hd⟩ := Int.eq_ofNat_of_zero_le hr0.1
    exact ⟨0, d, Nat.zero_le _, rfl, by rw [hd], by rw [← hd]; rfl, by omega⟩
  case round =>
    obtain ⟨k, d, hk, rfl, rfl, hd, hd1⟩ := hrel
    have HD := Lib.hid hd
    clear hd
    by_cases hlt : k < bs.length
    · obtain h0 | ⟨b, off, rfl, hblk, hcell⟩ := H.out
      · omega
      have hcl : w.cell? ⟨b, off + k, none⟩ = some (.int .u8 (bs.getD k 0)) := hcell k hlt
      clear hcell
      obtain ⟨x0, x1⟩ := HB.out k hlt
      obtain ⟨x, hx⟩ : ∃ x, bs.getD k 0 = x := ⟨_, rfl⟩
      rw [hx] at hcl x0 x1
      have HX := Lib.hid hx
      clear hx
      have hrr := range32 .xor (bits .and .u32 (d : Int) 255) x
      obtain ⟨r, hr⟩ := Int.eq_ofNat_of_zero_le hrr.1
      obtain ⟨hst, hr2⟩ := ref_step d hd1 x x0 x1 r hr
      have hsr := step_shk d hd1 x x0 x1
      have HST := Lib.hid hst
      clear hst
      go_wp2_with fail
      refine (row_any r w hr2).mono ?_
      rintro e w1 ⟨rfl, rfl⟩
      go_wp2
      go_round
      case rel =>
        refine ⟨k + 1, _, by omega, by go_num, ?_, ?_, hsr.2⟩
        · rw [HST.out, hsr.1]
        · rw [fold_snoc _ _ _ hlt, ← HD.out, HX.out, hsr.1]
      case measure => simp [intOf]; omega
    · obtain rfl : k = bs.length := by omega
      rw [List.take_length] at HD
      go_wp2
      go_ret
      refine ⟨?_, rfl⟩
      rw [HD.out]
      rfl

theorem sum_ref (v : Value) (bs : List Int) (w : World) (hv : IsNums .u8 w v bs) (hb : Bytes bs) (hl : bs.length ≤ 1000000) :
    Calls Tryd.prog 11 #[v] w fun e w' => e = .returned (.int .u32 (sumC [bs])) ∧ w' = w := by
  have HV := Lib.hid hv
  obtain ⟨p, cc, rfl, h⟩ := hv
  clear h
  go_enter Tryd.func11, Tryd.ntmps11
  go_wp2_with fail
  refine (more_ref 0 _ bs w (by omega) HV.out hb hl).mono ?_
  rintro e w1 ⟨rfl, rfl⟩
  go_wp2
  go_ret
  exact ⟨rfl, rfl⟩

theorem four_ref (c : Int) (w : World) (hc : 0 ≤ c ∧ c < 4294967296) :
    Calls Tryd.prog 16 #[.int .u32 c] w fun e w' => ∃ p k, e = .returned (.slice p 4 k) ∧ IsNums .u8 w' (.slice p 4 k) (fourC c) ∧ Below w.heap.size w w' := by
  obtain ⟨N, hN⟩ : ∃ N, w.heap.size = N := ⟨_, rfl⟩
  have h5 : c / 16777216 % 256 = c / 16777216 := by omega
  go_enter Tryd.func16, Tryd.ntmps16
  go_wp2
  go_ret
  refine ⟨_, _, rfl, ?_, ?_⟩
  · have h := IsNums.lit .u8 w (fourC c) N 5 4 4 hN.symm rfl
    have e : ((fourC c).map (Value.int .u8)).toArray = #[.int .u8 (c % 256), .int .u8 (c / 256 % 256), .int .u8 (c / 65536 % 256), .int .u8 (c / 16777216)] := by simp [fourC, h5]
    rw [e] at h
    exact h
  · exact (Below.refl _ w).alloc (Nat.le_refl _) _

set_option maxRecDepth 100000 in
set_option maxHeartbeats 2000000 in
theorem seal_ref (v : Value) (bs : List Int) (w : World) (hv : IsNums .u8 w v bs) (hb : Bytes bs) (hl : bs.length ≤ 10000) :
    Calls Tryd.prog 7 #[v] w fun e w' => ∃ u, e = .returned u ∧ w'.ownsRow w.heap.size 5 1 u (sealC bs).length ((sealC bs).map (Value.int .u8)) ∧ Below w.heap.size w w' := by
  obtain ⟨N, hN⟩ : ∃ N, w.heap.size = N := ⟨_, rfl⟩
  have HV := Lib.hid hv
  obtain ⟨p, cc, rfl, h⟩ := hv
  have HB := Lib.hid hb
  clear h hb
  obtain ⟨L, hL⟩ : ∃ L, bs.length = L := ⟨_, rfl⟩
  have HL := Lib.hid hL
  rw [hL] at hl HV
  go_enter Tryd.func7, Tryd.ntmps7
  rw [hL]
  clear hL
  go_wp2_with (at_builtin; refine wpList_appN rfl _ _ 22 rfl N 5 .u8 1 Tryd.underlying22 info_u8 (by omega) _ 0 [] rfl (World.ownsRow_nil _ _ _ _) _ _ rfl HV.out (by rw [HL.out]; omega) (by omega) ?_; intro v2 w2 hown2 hb2; have hs2 := hb2.size; have HV2 := Lib.hid (HV.out.below hb2 (by omega)))
  refine (sum_ref _ bs w2 HV2.out HB.out (by rw [HL.out]; omega)).mono ?_
  rintro e w3 ⟨rfl, rfl⟩
  go_wp2_with fail
  refine (four_ref (sumC [bs]) _ (sumC_range _)).mono ?_
  rintro e w4 ⟨p4, k4, rfl, hn4, hb4⟩
  have hown5 : w4.ownsRow N 5 1 v2 (0 + bs.length) ([] ++ List.map (Value.int IntKind.u8) bs) := own_below hown2 hb4 (Nat.le_refl _)
  have hs4 := hb4.size
  have HN := Lib.hid hn4
  have hb5 : Below N w w4 := hb2.trans (hb4.mono (by omega))
  clear hown2 hn4 hb4 hb2 HV HV2
  go_wp2_with (at_builtin; refine wpList_appN rfl _ _ 22 rfl N 5 .u8 1 Tryd.underlying22 info_u8 (by omega) _ _ _ rfl hown5 _ _ rfl HN.out (by rw [HL.out, fourC_len]; omega) (by omega) ?_; intro v6 w6 hown6 hb6)
  go_ret
  refine ⟨_, rfl, ?_, by rw [hN]; exact hb5.trans hb6⟩
  rw [hN]
  have e1 : (sealC bs).length = 0 + bs.length + (fourC (sumC [bs])).length := by rw [sealC_len, fourC_len]; omega
  rw [e1]
  simpa [sealC] using hown6
end Go.Proofs.YtkbehdjaegomgaaDoor.K
