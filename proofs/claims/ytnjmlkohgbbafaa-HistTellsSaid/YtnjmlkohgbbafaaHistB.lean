/- HistOrder's walk. -/
import Derived.Test.YtnjmlkohgbbafaaHistA
namespace Go.Proofs.Ytnjmlkohgbbafaa.K
open Go.ChangeShapes Go.WideShapes Go.ChangeAt Go.RowKit
set_option linter.unusedVariables false

theorem seqs_snoc (ks : List (Int × List Int)) (s : Int) (d : List Int) : seqs (ks ++ [(s, d)]) = seqs ks ++ [s] := by simp [seqs]
theorem getD_snoc {α : Type} (l : List α) (x d : α) (i : Nat) (h : i < l.length) : (l ++ [x]).getD i d = l.getD i d := by
  simp [List.getD, List.getElem?_append_left h]
theorem getD_snoc_last {α : Type} (l : List α) (x d : α) : (l ++ [x]).getD l.length d = x := by
  simp [List.getD]
theorem Rising.snoc {ss : List Int} (h : Rising ss) (s : Int) (hs : ∀ i, i < ss.length → ss.getD i 0 < s) : Rising (ss ++ [s]) := by
  intro i j hij hj
  rw [List.length_append] at hj
  have hj2 : j < ss.length + 1 := hj
  rw [getD_snoc _ _ _ i (by omega)]
  by_cases e : j = ss.length
  · subst e
    rw [getD_snoc_last]
    exact hs i hij
  · rw [getD_snoc _ _ _ j (by omega)]
    exact h i j hij (by omega)
theorem Cut.all {ss : List Int} {t : Int} (hs : ∀ i, i < ss.length → ss.getD i 0 ≤ t) : Cut ss t ss.length :=
  ⟨Nat.le_refl _, hs, fun i hi hj => by omega⟩
theorem Cut.snoc_lo {ss : List Int} {t s : Int} (hs : ∀ i, i < ss.length → ss.getD i 0 ≤ t) (hts : t < s) : Cut (ss ++ [s]) t ss.length := by
  refine ⟨by simp, fun i hi => ?_, fun i hi hj => ?_⟩
  · rw [getD_snoc _ _ _ i hi]; exact hs i hi
  · rw [List.length_append] at hj
    have hj2 : i < ss.length + 1 := hj
    obtain rfl : i = ss.length := by omega
    rw [getD_snoc_last]; exact hts
theorem Cut.snoc_hi {ss : List Int} {t s : Int} (hs : ∀ i, i < ss.length → ss.getD i 0 ≤ t) (hts : s ≤ t) : Cut (ss ++ [s]) t (ss.length + 1) := by
  refine ⟨by simp, fun i hi => ?_, fun i hi hj => ?_⟩
  · by_cases e : i = ss.length
    · subst e; rw [getD_snoc_last]; exact hts
    · rw [getD_snoc _ _ _ i (by omega)]; exact hs i (by omega)
  · rw [List.length_append] at hj
    have hj2 : i < ss.length + 1 := hj
    omega
theorem ok_snoc {ks : List (Int × List Int)} (h : ∀ k ∈ ks, KeyOk k) (s : Int) (d : List Int) (hk : KeyOk (s, d)) : ∀ k ∈ ks ++ [(s, d)], KeyOk k := by
  intro k hm
  rcases List.mem_append.1 hm with hm | hm
  · exact h k hm
  · simp only [List.mem_cons, List.not_mem_nil, or_false] at hm
    subst hm; exact hk
theorem mem_getD (d : List Int) (h : ∀ j, j < d.length → 0 ≤ d.getD j 0 ∧ d.getD j 0 ≤ 255) : ∀ x ∈ d, 0 ≤ x ∧ x ≤ 255 := by
  intro x hx
  obtain ⟨i, hi, rfl⟩ := List.getElem_of_mem hx
  have := h i hi
  simpa [List.getD, hi] using this
theorem add_low (w : World) (v u : Value) (ks : List (Int × List Int)) (sq : Int) (m : Nat) (hm : ks.length = m + 1) (hv : Vers w v ks) (hok : ∀ k ∈ ks, KeyOk k) (hn : ks.length ≤ 1000000) (s2 : sq ≤ 1099511627776) (hs : sq ≤ (ks.getD m (0, [])).1) :
    Calls Try.prog 29 #[v, .int .i64 sq, u] w (CopiedPost w ks) := by
  by_cases s1 : 1 ≤ sq
  · exact add_old w v u ks sq m hm hv hok hn s1 s2 hs
  · exact add_wrong w v u ks sq hv hok hn (fun h => s1 h.1)

set_option maxRecDepth 100000 in
set_option maxHeartbeats 1000000 in
theorem order_more (a : Option Addr) (len cap : Nat) (y : List Int) (f t : Int) (ad : Option Addr) (dl dc : Nat) (z : List Int) (w : World) (hy : IsNums .u8 w (.slice a len cap) y) (hl : y.length = len) (hcap : len ≤ cap) (hcm : cap ≤ 9223372036854775807) (hb : ∀ j, j < y.length → 0 ≤ y.getD j 0 ∧ y.getD j 0 ≤ 255) (f0 : 0 ≤ f) (f1 : f ≤ 255) (t0 : 0 ≤ t) (t1 : t ≤ 255)
    (hz : IsNums .u8 w (.slice ad dl dc) z) (hzl : z.length = dl) (hzb : ∀ j, j < z.length → 0 ≤ z.getD j 0 ∧ z.getD j 0 ≤ 255) (h20 : len ≤ 20) (hd20 : dl ≤ 20) (m : Nat) (hlm : len = m + 1) :
    Calls Try.prog 9 #[.slice a len cap, .int .u8 f, .int .u8 t, .slice ad dl dc] w fun e w' => e = .returned (.bool true) ∧ Below w.heap.size w w' := by
  have hzk : KeyOk (f, z) := ⟨by show _ ≤ f; omega, by show f ≤ _; omega, by show z.length ≤ _; omega, mem_getD z hzb⟩
  have HY := Lib.hid hy
  have HBY := Lib.hid hb
  have HCAP := Lib.hid hcap
  have HZ := Lib.hid hz
  have HZK := Lib.hid hzk
  have HZL := Lib.hid hzl
  clear hy hb hcap hz hzk hzl hzb
  have h20I : ¬ (20 : Int) < len := by omega
  have hd20I : ¬ (20 : Int) < dl := by omega
  subst hlm
  go_enter Try.func9, Try.ntmps9
  go_wp2_with fail
  refine (known_any w).mono ?_
  rintro e w1 ⟨rfl, hb1⟩
  have B1 := Lib.hid hb1
  have Y1 := Lib.hid (HY.out.below hb1 (Nat.le_refl _))
  have Z1 := Lib.hid (HZ.out.below hb1 (Nat.le_refl _))
  clear hb1 HY HZ
  go_wp2_with fail
  refine (some_any w1 a (m + 1) cap y Y1.out hl HCAP.out hcm (by omega) HBY.out).mono ?_
  rintro e w2 ⟨v2, rfl, ho2, hb2⟩
  have hv2 := ho2.vers
  have hr := someK_rising y y.length
  have hok := someK_ok y HBY.out y.length (Nat.le_refl _) (by omega)
  have hkl := someK_len y y.length
  have hbd := fun k h => someK_bd y y.length k h (by omega)
  obtain ⟨ks, hks⟩ : ∃ ks, someK y y.length = ks := ⟨_, rfl⟩
  rw [hks] at hv2 hr hok hkl hbd
  rw [hl] at hkl hbd
  clear hks ho2
  obtain ⟨a2, c2, e2, hc2⟩ := hv2.len
  rw [hkl] at e2 hc2
  subst e2
  obtain ⟨b, off, c', u', e1, hbb, -, hs1, -, -⟩ := hv2.cell m (by omega)
  injection e1 with e1 q1 q2
  subst e1
  clear q1 q2
  have hlast := seqs_get ks m (by omega)
  obtain ⟨s, hs⟩ : ∃ s, (ks.getD m (0, [])).1 = s := ⟨_, rfl⟩
  rw [hs] at hs1 hlast
  have hsb := hbd m (by omega)
  rw [hlast] at hsb
  have B2 := Lib.hid (B1.out.trans (hb2.mono B1.out.size))
  have V2 := Lib.hid hv2
  have Z2 := Lib.hid (Z1.out.below hb2 (Nat.le_refl _))
  have HR := Lib.hid hr
  have HOK := Lib.hid hok
  have HKL := Lib.hid hkl
  have HL := Lib.hid hl
  have HLAST := Lib.hid hlast
  have HS := Lib.hid hs
  have hwf : IntKind.i64.wrap f = f := IntWalk.i64_in _ (by omega)
  have hwt : IntKind.i64.wrap t = t := IntWalk.i64_in _ (by omega)
  have hwa : IntKind.i64.wrap (f + t) = f + t := IntWalk.i64_in _ (by omega)
  have hws : IntKind.i64.wrap (f - 1) = f - 1 := IntWalk.i64_in _ (by omega)
  have hm0 : (0 : Int) ≤ m := by omega
  have hmI : (m : Int) ≤ 20 := by omega
  clear hb2 hv2 hr hok hkl hc2 hl hbd hlast hs Y1 B1 Z1 HBY
  by_cases hfs : f ≤ s
  · go_wp2_with fail
    refine (add_low _ _ _ ks f m HKL.out V2.out HOK.out (by rw [HKL.out]; omega) (by omega) (by rw [HS.out]; exact hfs)).mono ?_
    rintro e w3 ⟨v3, rfl, ho3, hb3⟩
    have hv3 := ho3.vers
    have B3 := Lib.hid (B2.out.trans (hb3.mono B2.out.size))
    have V3 := Lib.hid (V2.out.below hb3)
    have P3 := Lib.hid hv3
    clear ho3 hb3 hv3 V2
    go_wp2_with fail
    refine (same_any _ _ _ ks V3.out P3.out (by rw [HKL.out]; omega)).mono ?_
    rintro e w4 ⟨rfl, hb4⟩
    have B4 := Lib.hid (B3.out.trans (hb4.mono B3.out.size))
    clear hb4
    go_wp2
    go_ret
    exact ⟨rfl, B4.out⟩
  · have hall : ∀ i, i < (seqs ks).length → (seqs ks).getD i 0 ≤ f - 1 := by
      intro i hi
      rw [seqs_len, HKL.out] at hi
      by_cases e : i = m
      · rw [e, HLAST.out]; omega
      · have := HR.out i m (by omega) (by rw [seqs_len, HKL.out]; omega)
        rw [HLAST.out] at this; omega
    have hcx : Cut (seqs ks) (f - 1) (m + 1) := by have := Cut.all hall; rwa [seqs_len, HKL.out] at this
    have hcy : Cut (seqs (ks ++ [(f, z)])) (f - 1) (m + 1) := by
      rw [seqs_snoc]; have := Cut.snoc_lo (s := f) hall (by omega); rwa [seqs_len, HKL.out] at this
    have hcz : Cut (seqs (ks ++ [(f, z)])) (f + t) (m + 1 + 1) := by
      rw [seqs_snoc]; have := Cut.snoc_hi (s := f) (t := f + t) (fun i hi => by have := hall i hi; omega) (by omega); rwa [seqs_len, HKL.out] at this
    have hry : Rising (seqs (ks ++ [(f, z)])) := by rw [seqs_snoc]; exact HR.out.snoc f (fun i hi => by have := hall i hi; omega)
    have hoy : ∀ k ∈ ks ++ [(f, z)], KeyOk k := ok_snoc HOK.out f z HZK.out
    have hly : (ks ++ [(f, z)]).length = m + 1 + 1 := by rw [List.length_append, HKL.out]; rfl
    have hg1 : (ks ++ [(f, z)]).getD (m + 1) (0, []) = (f, z) := by have := getD_snoc_last ks (f, z) (0, []); rwa [HKL.out] at this
    have hg0 : (ks ++ [(f, z)]).getD m (0, []) = ks.getD m (0, []) := getD_snoc ks (f, z) (0, []) m (by rw [HKL.out]; omega)
    have hch : decide (m + 1 < (ks ++ [(f, z)]).length ∧ (seqs (ks ++ [(f, z)])).getD (m + 1) 0 ≤ f) = true := by
      rw [seqs_get _ _ (by rw [hly]; omega), hg1, hly]
      simp
    have CX := Lib.hid hcx
    have CY := Lib.hid hcy
    have CZ := Lib.hid hcz
    have RY := Lib.hid hry
    have OY := Lib.hid hoy
    have LY := Lib.hid hly
    have G1 := Lib.hid hg1
    have G0 := Lib.hid hg0
    have CH := Lib.hid hch
    clear hall hcx hcy hcz hry hoy hly hg1 hg0 hch HLAST
    go_wp2_with fail
    refine (add_next _ _ _ ks f z m HKL.out V2.out HOK.out (by rw [HKL.out]; omega) Z2.out (by rw [HZL.out]; omega) (by omega) (by omega) (by rw [HS.out]; omega)).mono ?_
    rintro e w3 ⟨v3, rfl, ho3, hb3⟩
    have hv3 := ho3.vers
    obtain ⟨a3, c3, e3, -⟩ := id hv3.len
    rw [LY.out] at e3
    subst e3
    have B3 := Lib.hid (B2.out.trans (hb3.mono B2.out.size))
    have V3 := Lib.hid (V2.out.below hb3)
    have Z3 := Lib.hid (Z2.out.below hb3 (Nat.le_refl _))
    have P3 := Lib.hid hv3
    clear ho3 hb3 hv3 V2 Z2
    have hlI : (((m + 1 + 1 : Nat)) : Int) = (m : Int) + 1 + 1 := by omega
    go_wp2_with fail
    refine (at_some _ _ _ (f + t) (m + 1) P3.out OY.out RY.out (by rw [LY.out]; omega) CZ.out).mono ?_
    rw [G1.out]
    rintro e w4 ⟨u4, rfl, ho4, hb4⟩
    have hn4 : IsNums .u8 w4 u4 z := IsNums.ofOwn ho4
    have B4 := Lib.hid (B3.out.trans (hb4.mono B3.out.size))
    have V4 := Lib.hid (V3.out.below hb4)
    have P4 := Lib.hid (P3.out.below hb4)
    have Z4 := Lib.hid (Z3.out.below hb4 (Nat.le_refl _))
    have N4 := Lib.hid hn4
    clear hb4 ho4 hn4 V3 P3 B3 Z3
    go_wp2_with fail
    refine (at_some _ _ _ (f - 1) m P4.out OY.out RY.out (by rw [LY.out]; omega) CY.out).mono ?_
    rw [G0.out]
    rintro e w5 ⟨u5, rfl, ho5, hb5⟩
    have hn5 : IsNums .u8 w5 u5 _ := IsNums.ofOwn ho5
    have B5 := Lib.hid (B4.out.trans (hb5.mono B4.out.size))
    have V5 := Lib.hid (V4.out.below hb5)
    have P5 := Lib.hid (P4.out.below hb5)
    have Z5 := Lib.hid (Z4.out.below hb5 (Nat.le_refl _))
    have N5 := Lib.hid (N4.out.below hb5 (Nat.le_refl _))
    have M5 := Lib.hid hn5
    clear hb5 ho5 hn5 V4 P4 B4 Z4 N4
    go_wp2_with fail
    refine (at_some _ _ _ (f - 1) m V5.out HOK.out HR.out (by rw [HKL.out]; omega) CX.out).mono ?_
    rintro e w6 ⟨u6, rfl, ho6, hb6⟩
    have hn6 : IsNums .u8 w6 u6 _ := IsNums.ofOwn ho6
    have B6 := Lib.hid (B5.out.trans (hb6.mono B5.out.size))
    have P6 := Lib.hid (P5.out.below hb6)
    have hz6 := Z5.out.below hb6 (Nat.le_refl _)
    have ha6 := N5.out.below hb6 (Nat.le_refl _)
    have hm6 := M5.out.below hb6 (Nat.le_refl _)
    clear hb6 ho6 V5 P5 B5 Z5 N5 M5
    rw [HZL.out.symm] at hz6
    generalize (ks.getD m (0, [])).2 = dd at hn6 hm6
    obtain ⟨p6, c6, rfl, -⟩ := id hn6
    obtain ⟨p5, c5, rfl, -⟩ := id hm6
    obtain ⟨p4, c4, rfl, -⟩ := id ha6
    have hconv6 := conv_str (P := Try.prog) hn6 27 5 Try.underlying27 Try.underlying5 9 Try.underlying9
    have hconv5 := conv_str (P := Try.prog) hm6 27 5 Try.underlying27 Try.underlying5 9 Try.underlying9
    have hconv4 := conv_str (P := Try.prog) ha6 27 5 Try.underlying27 Try.underlying5 9 Try.underlying9
    have hconvz := conv_str (P := Try.prog) hz6 27 5 Try.underlying27 Try.underlying5 9 Try.underlying9
    rw [HZL.out] at hconvz
    clear hn6 hm6 ha6 hz6
    go_wp2_with fail
    refine (changed_any _ _ (ks ++ [(f, z)]) (f - 1) f (m + 1) P6.out RY.out (by rw [LY.out]; omega) CY.out).mono ?_
    rintro e w7 ⟨rfl, hb7⟩
    rw [CH.out]
    have B7 := Lib.hid (B6.out.trans (hb7.mono B6.out.size))
    clear hb7 P6 B6
    go_wp2
    go_ret
    exact ⟨rfl, B7.out⟩
end Go.Proofs.Ytnjmlkohgbbafaa.K
