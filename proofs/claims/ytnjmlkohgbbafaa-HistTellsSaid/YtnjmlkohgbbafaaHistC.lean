/- HistOrder's walk: no versions; too many. -/
import Derived.Test.YtnjmlkohgbbafaaHistB
namespace Go.Proofs.Ytnjmlkohgbbafaa.K
open Go.ChangeShapes Go.WideShapes Go.ChangeAt Go.RowKit
set_option linter.unusedVariables false

theorem cut_one_lo (f t : Int) (z : List Int) (h : t < f) : Cut (seqs [(f, z)]) t 0 := by
  refine ⟨Nat.zero_le _, fun i hi => absurd hi (Nat.not_lt_zero _), fun i hi hj => ?_⟩
  have hj2 : i < 1 := hj
  obtain rfl : i = 0 := by omega
  exact h
theorem cut_one_hi (f t : Int) (z : List Int) (h : f ≤ t) : Cut (seqs [(f, z)]) t 1 := by
  refine ⟨Nat.le_refl _, fun i hi => ?_, fun i hi hj => ?_⟩
  · obtain rfl : i = 0 := by omega
    exact h
  · have hj2 : i < 1 := hj
    omega
theorem rising_one (f : Int) (z : List Int) : Rising (seqs [(f, z)]) := by
  intro i j hij hj
  have hj2 : j < 1 := hj
  omega
theorem cut_nil (t : Int) : Cut (seqs []) t 0 := ⟨Nat.le_refl _, fun i hi => absurd hi (Nat.not_lt_zero _), fun i hi hj => absurd hj (Nat.not_lt_zero _)⟩
theorem rising_nil : Rising (seqs []) := fun i j hij hj => absurd hj (Nat.not_lt_zero _)
theorem ok_one (k : Int × List Int) (h : KeyOk k) : ∀ x ∈ [k], KeyOk x := by
  intro x hx
  simp only [List.mem_cons, List.not_mem_nil, or_false] at hx
  subst hx; exact h

set_option maxRecDepth 100000 in
set_option maxHeartbeats 1000000 in
theorem order_zero (a : Option Addr) (cap : Nat) (y : List Int) (f t : Int) (ad : Option Addr) (dl dc : Nat) (z : List Int) (w : World) (hy : IsNums .u8 w (.slice a 0 cap) y) (hl : y.length = 0) (hcm : cap ≤ 9223372036854775807) (f0 : 0 ≤ f) (f1 : f ≤ 255) (t0 : 0 ≤ t) (t1 : t ≤ 255)
    (hz : IsNums .u8 w (.slice ad dl dc) z) (hzl : z.length = dl) (hzb : ∀ j, j < z.length → 0 ≤ z.getD j 0 ∧ z.getD j 0 ≤ 255) (hd20 : dl ≤ 20) :
    Calls Try.prog 9 #[.slice a 0 cap, .int .u8 f, .int .u8 t, .slice ad dl dc] w fun e w' => e = .returned (.bool true) ∧ Below w.heap.size w w' := by
  have hzk : KeyOk (f, z) := ⟨by show _ ≤ f; omega, by show f ≤ _; omega, by show z.length ≤ _; omega, mem_getD z hzb⟩
  obtain rfl := List.length_eq_zero_iff.1 hl
  clear hl
  have HY := Lib.hid hy
  have HZ := Lib.hid hz
  have HZK := Lib.hid hzk
  have HZL := Lib.hid hzl
  clear hy hz hzk hzl hzb
  have hd20I : ¬ (20 : Int) < dl := by omega
  go_enter Try.func9, Try.ntmps9
  go_wp2_with fail
  refine (known_any w).mono ?_
  rintro e w1 ⟨rfl, hb1⟩
  have B1 := Lib.hid hb1
  have Y1 := Lib.hid (HY.out.below hb1 (Nat.le_refl _))
  have Z1 := Lib.hid (HZ.out.below hb1 (Nat.le_refl _))
  clear hb1 HY HZ
  go_wp2_with fail
  refine (some_any w1 a 0 cap [] Y1.out rfl (Nat.zero_le _) hcm (by omega) (fun j hj => absurd hj (Nat.not_lt_zero _))).mono ?_
  rintro e w2 ⟨v2, rfl, ho2, hb2⟩
  have hv2 : Vers w2 v2 [] := ho2.vers
  clear ho2
  obtain ⟨a2, c2, e2, hc2⟩ := hv2.len
  replace e2 : v2 = .slice a2 0 c2 := e2
  subst e2
  have B2 := Lib.hid (B1.out.trans (hb2.mono B1.out.size))
  have V2 := Lib.hid hv2
  have Z2 := Lib.hid (Z1.out.below hb2 (Nat.le_refl _))
  have hwf : IntKind.i64.wrap f = f := IntWalk.i64_in _ (by omega)
  have hwt : IntKind.i64.wrap t = t := IntWalk.i64_in _ (by omega)
  have hwa : IntKind.i64.wrap (f + t) = f + t := IntWalk.i64_in _ (by omega)
  have hws : IntKind.i64.wrap (f - 1) = f - 1 := IntWalk.i64_in _ (by omega)
  clear hb2 hv2 hc2 Y1 B1 Z1
  by_cases hfs : f ≤ 0
  · obtain rfl : f = 0 := by omega
    clear hwf hws hwa f0 f1 hfs
    go_wp2_with fail
    refine (add_wrong _ _ _ [] 0 V2.out (fun k h => by cases h) (by decide) (by decide)).mono ?_
    rintro e w3 ⟨v3, rfl, ho3, hb3⟩
    have hv3 := ho3.vers
    have B3 := Lib.hid (B2.out.trans (hb3.mono B2.out.size))
    have V3 := Lib.hid (V2.out.below hb3)
    have P3 := Lib.hid hv3
    clear ho3 hb3 hv3 V2
    go_wp2_with fail
    refine (same_any _ _ _ [] V3.out P3.out (by decide)).mono ?_
    rintro e w4 ⟨rfl, hb4⟩
    have B4 := Lib.hid (B3.out.trans (hb4.mono B3.out.size))
    clear hb4
    go_wp2
    go_ret
    exact ⟨rfl, B4.out⟩
  · have hch : decide (0 < [(f, z)].length ∧ (seqs [(f, z)]).getD 0 0 ≤ f) = true := by
      simp [seqs]
    have CH := Lib.hid hch
    have OY := Lib.hid (ok_one _ HZK.out)
    clear hch
    go_wp2_with fail
    refine (add_first _ _ _ f z V2.out Z2.out (by rw [HZL.out]; omega) (by omega) (by omega)).mono ?_
    rintro e w3 ⟨v3, rfl, ho3, hb3⟩
    have hv3 := ho3.vers
    obtain ⟨a3, c3, e3, -⟩ := id hv3.len
    replace e3 : v3 = .slice a3 1 c3 := e3
    subst e3
    have B3 := Lib.hid (B2.out.trans (hb3.mono B2.out.size))
    have V3 := Lib.hid (V2.out.below hb3)
    have Z3 := Lib.hid (Z2.out.below hb3 (Nat.le_refl _))
    have P3 := Lib.hid hv3
    clear ho3 hb3 hv3 V2 Z2
    go_wp2_with fail
    refine (at_some _ _ _ (f + t) 0 P3.out OY.out (rising_one f z) (by simp) (cut_one_hi f (f + t) z (by omega))).mono ?_
    rintro e w4 ⟨u4, rfl, ho4, hb4⟩
    replace ho4 : w4.ownsRow w3.heap.size 5 1 u4 z.length (z.map (Value.int .u8)) := ho4
    have hn4 : IsNums .u8 w4 u4 z := IsNums.ofOwn ho4
    have B4 := Lib.hid (B3.out.trans (hb4.mono B3.out.size))
    have V4 := Lib.hid (V3.out.below hb4)
    have P4 := Lib.hid (P3.out.below hb4)
    have Z4 := Lib.hid (Z3.out.below hb4 (Nat.le_refl _))
    have N4 := Lib.hid hn4
    clear hb4 ho4 hn4 V3 P3 B3 Z3
    go_wp2_with fail
    refine (at_none _ _ _ (f - 1) P4.out (rising_one f z) (by simp) (cut_one_lo f (f - 1) z (by omega))).mono ?_
    rintro e w5 ⟨rfl, hb5⟩
    have B5 := Lib.hid (B4.out.trans (hb5.mono B4.out.size))
    have V5 := Lib.hid (V4.out.below hb5)
    have P5 := Lib.hid (P4.out.below hb5)
    have Z5 := Lib.hid (Z4.out.below hb5 (Nat.le_refl _))
    have N5 := Lib.hid (N4.out.below hb5 (Nat.le_refl _))
    clear hb5 V4 P4 B4 Z4 N4
    go_wp2_with fail
    refine (at_none _ _ _ (f - 1) V5.out rising_nil (by decide) (cut_nil _)).mono ?_
    rintro e w6 ⟨rfl, hb6⟩
    have B6 := Lib.hid (B5.out.trans (hb6.mono B5.out.size))
    have P6 := Lib.hid (P5.out.below hb6)
    have hz6 := Z5.out.below hb6 (Nat.le_refl _)
    have ha6 := N5.out.below hb6 (Nat.le_refl _)
    clear hb6 V5 P5 B5 Z5 N5
    rw [HZL.out.symm] at hz6
    obtain ⟨p4, c4, rfl, -⟩ := id ha6
    have hconv := conv_str (P := Try.prog) (IsNums.nil .u8 w6 none 0) 27 5 Try.underlying27 Try.underlying5 9 Try.underlying9
    replace hconv : (convert 27 9 (.slice none 0 0)).run Try.prog w6 = .ok (.string ⟨#[]⟩) w6 := hconv
    have hconv4 := conv_str (P := Try.prog) ha6 27 5 Try.underlying27 Try.underlying5 9 Try.underlying9
    have hconvz := conv_str (P := Try.prog) hz6 27 5 Try.underlying27 Try.underlying5 9 Try.underlying9
    rw [HZL.out] at hconvz
    clear ha6 hz6
    go_wp2_with fail
    refine (changed_any _ _ [(f, z)] (f - 1) f 0 P6.out (rising_one f z) (by simp) (cut_one_lo f (f - 1) z (by omega))).mono ?_
    rintro e w7 ⟨rfl, hb7⟩
    rw [CH.out]
    have B7 := Lib.hid (B6.out.trans (hb7.mono B6.out.size))
    clear hb7 P6 B6
    go_wp2
    go_ret
    exact ⟨rfl, B7.out⟩

set_option maxRecDepth 100000 in
set_option maxHeartbeats 1000000 in
theorem historder_walk (a : Option Addr) (len cap : Nat) (y : List Int) (f t : Int) (ad : Option Addr) (dl dc : Nat) (z : List Int) (w : World) (hy : IsNums .u8 w (.slice a len cap) y) (hl : y.length = len) (hcap : len ≤ cap) (hcm : cap ≤ 9223372036854775807) (hb : ∀ j, j < y.length → 0 ≤ y.getD j 0 ∧ y.getD j 0 ≤ 255) (f0 : 0 ≤ f) (f1 : f ≤ 255) (t0 : 0 ≤ t) (t1 : t ≤ 255)
    (hz : IsNums .u8 w (.slice ad dl dc) z) (hzl : z.length = dl) (hzb : ∀ j, j < z.length → 0 ≤ z.getD j 0 ∧ z.getD j 0 ≤ 255) :
    Calls Try.prog 9 #[.slice a len cap, .int .u8 f, .int .u8 t, .slice ad dl dc] w fun e w' => e = .returned (.bool true) ∧ Below w.heap.size w w' := by
  by_cases h20 : len ≤ 20
  · by_cases hd20 : dl ≤ 20
    · rcases len with _ | m
      · exact order_zero a cap y f t ad dl dc z w hy hl hcm f0 f1 t0 t1 hz hzl hzb hd20
      · exact order_more a (m + 1) cap y f t ad dl dc z w hy hl hcap hcm hb f0 f1 t0 t1 hz hzl hzb h20 hd20 m rfl
    · have h20I : ¬ (20 : Int) < len := by omega
      have hd20I : (20 : Int) < dl := by omega
      clear hy hl hcap hb hz hzl hzb
      go_enter Try.func9, Try.ntmps9
      go_wp2_with fail
      refine (known_any w).mono ?_
      rintro e w1 ⟨rfl, hb1⟩
      have B1 := Lib.hid hb1
      clear hb1
      go_wp2
      go_ret
      exact ⟨rfl, B1.out⟩
  · have h20I : (20 : Int) < len := by omega
    clear hy hl hcap hb hz hzl hzb
    go_enter Try.func9, Try.ntmps9
    go_wp2_with fail
    refine (known_any w).mono ?_
    rintro e w1 ⟨rfl, hb1⟩
    have B1 := Lib.hid hb1
    clear hb1
    go_wp2
    go_ret
    exact ⟨rfl, B1.out⟩
end Go.Proofs.Ytnjmlkohgbbafaa.K
