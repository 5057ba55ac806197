/- HistTells' walk: what both tell alike. -/
import Derived.Test.YtnjmlkohgbbafaaHistH
namespace Go.Proofs.Ytnjmlkohgbbafaa.K
open Go.ChangeShapes Go.WideShapes Go.ChangeAt Go.RowKit
set_option linter.unusedVariables false

theorem add_both (ks : List (Int × List Int)) (sq : Int) (d : List Int) (hok : ∀ k ∈ ks, KeyOk k) (hn : ks.length ≤ 1000) (hdl : d.length ≤ 20) : ∃ ks' : List (Int × List Int), ks'.length ≤ 1000000 ∧
    (∀ w v u, Vers w v ks → IsNums .u8 w u d → Calls Try.prog 29 #[v, .int .i64 sq, u] w (CopiedPost w ks')) ∧
    (∀ w v u, Vers w v ks → IsNums .u8 w u d → Calls Try.prog 30 #[v, .int .i64 sq, u] w (VersPost w ks')) := by
  by_cases hs : 1 ≤ sq ∧ sq ≤ 1099511627776
  · rcases hkl : ks.length with _ | m
    · obtain rfl := List.length_eq_zero_iff.1 hkl
      exact ⟨[(sq, d)], by simp, fun w v u hv hd => add_first w v u sq d hv hd (by omega) hs.1 hs.2, fun w v u hv hd => ref_add_new w v u [] sq d hv (by simp) hd (by omega) hs.1 hs.2 (fun m h => by cases h)⟩
    · by_cases hl : sq ≤ (ks.getD m (0, [])).1
      · exact ⟨ks, by omega, fun w v u hv hd => add_old w v u ks sq m hkl hv hok (by omega) hs.1 hs.2 hl, fun w v u hv hd => ref_add_old w v u ks sq m hkl hv (by omega) hs.1 hs.2 hl⟩
      · exact ⟨ks ++ [(sq, d)], by simp; omega, fun w v u hv hd => add_next w v u ks sq d m hkl hv hok (by omega) hd (by omega) hs.1 hs.2 (by omega), fun w v u hv hd => ref_add_new w v u ks sq d hv (by omega) hd (by omega) hs.1 hs.2 (fun m' h => by
          have e : m' = m := by omega
          subst e; omega)⟩
  · exact ⟨ks, by omega, fun w v u hv hd => add_wrong w v u ks sq hv hok (by omega) hs, fun w v u hv hd => ref_add_wrong w v u ks sq hv hs⟩

def BothAt (w : World) (b : Bool) (d : List Int) (e : Ending) (w' : World) : Prop := ∃ a c, e = .returned (.tuple #[.slice a d.length c, .bool b]) ∧ IsNums .u8 w' (.slice a d.length c) d ∧ Below w.heap.size w w'
theorem at_both (ks : List (Int × List Int)) (t : Int) (n : Nat) (hok : ∀ k ∈ ks, KeyOk k) (hr : Rising (seqs ks)) (hn : ks.length ≤ 1000) (hc : Cut (seqs ks) t n) : ∃ (b : Bool) (d : List Int),
    (∀ w v, Vers w v ks → Calls Try.prog 26 #[v, .int .i64 t] w (BothAt w b d)) ∧
    (∀ w v, Vers w v ks → Calls Try.prog 27 #[v, .int .i64 t] w (BothAt w b d)) := by
  rcases n with _ | m
  · exact ⟨false, [], fun w v hv => (at_none w v ks t hv hr (by omega) hc).mono fun e w' ⟨h1, h2⟩ => ⟨none, 0, h1, IsNums.nil .u8 w' none 0, h2⟩, fun w v hv => (ref_at_none w v ks t hv (by omega) hc).mono fun e w' ⟨h1, h2⟩ => ⟨none, 0, h1, IsNums.nil .u8 w' none 0, h2⟩⟩
  · refine ⟨true, (ks.getD m (0, [])).2, fun w v hv => (at_some w v ks t m hv hok hr (by omega) hc).mono ?_, fun w v hv => (ref_at_some w v ks t m hv (by omega) hc).mono ?_⟩
    · rintro e w' ⟨u, rfl, h1, h2⟩
      have hn : IsNums .u8 w' u _ := IsNums.ofOwn h1
      obtain ⟨a, c, rfl, -⟩ := id hn
      exact ⟨a, c, rfl, hn, h2⟩
    · rintro e w' ⟨u, rfl, hn, h2⟩
      obtain ⟨a, c, rfl, -⟩ := id hn
      exact ⟨a, c, rfl, hn, h2⟩
theorem cell3 (w : World) (e : TypeId) (a b c : Int) (j : Nat) (hj : j < 3) : (w.alloc (.cells #[.int .i64 a, .int .i64 b, .int .i64 c] e)).cell? ⟨w.heap.size, j, none⟩ = some (.int .i64 ([a, b, c].getD j 0)) := by
  unfold World.cell? World.alloc
  match j, hj with
  | 0, _ => simp
  | 1, _ => simp
  | 2, _ => simp

set_option maxRecDepth 100000 in
set_option maxHeartbeats 4000000 in
theorem tells_walk (vr : Value) (ar : Option Addr) (rl rc : Nat) (hvr : vr = .slice ar rl rc) (kr : List (Int × List Int)) (a : Option Addr) (len cap : Nat) (y : List Int) (sq t : Int) (ad : Option Addr) (dl dc : Nat) (z : List Int) (kk : Int) (w : World) (hraw : rl ≤ 20 → Vers w vr kr) (hy : IsNums .u8 w (.slice a len cap) y) (hl : y.length = len) (hcap : len ≤ cap) (hcm : cap ≤ 9223372036854775807) (hb : ∀ j, j < y.length → 0 ≤ y.getD j 0 ∧ y.getD j 0 ≤ 255) (k0 : 0 ≤ kk) (k1 : kk ≤ 255)
    (hz : IsNums .u8 w (.slice ad dl dc) z) (hzl : z.length = dl) :
    Calls Try.prog 7 #[vr, .slice a len cap, .int .i64 sq, .int .i64 t, .slice ad dl dc, .int .u8 kk] w fun e w' => e = .returned (.bool true) ∧ Below w.heap.size w w' := by
  subst hvr
  by_cases hr20 : rl ≤ 20
  · by_cases h20 : len ≤ 20
    · by_cases hd20 : dl ≤ 20
      · have hvr := hraw hr20
        obtain ⟨ar', rc', er, hrc⟩ := hvr.len
        injection er with e1 er e3
        clear e1 e3
        have HRL := Lib.hid er.symm
        have HY := Lib.hid hy
        have HR := Lib.hid hvr
        have HBY := Lib.hid hb
        have HCAP := Lib.hid hcap
        have HZ := Lib.hid hz
        have HZL := Lib.hid hzl
        clear hy hb hcap hz hzl hraw hvr er hrc
        have hr20I : ¬ (20 : Int) < rl := by omega
        have h20I : ¬ (20 : Int) < len := by omega
        have hd20I : ¬ (20 : Int) < dl := by omega
        go_enter Try.func7, Try.ntmps7
        go_wp2_with fail
        refine (known_any w).mono ?_
        rintro e w1 ⟨rfl, hb1⟩
        have B1 := Lib.hid hb1
        have Y1 := Lib.hid (HY.out.below hb1 (Nat.le_refl _))
        have Z1 := Lib.hid (HZ.out.below hb1 (Nat.le_refl _))
        have R1 := Lib.hid (HR.out.below hb1)
        clear hb1 HY HZ HR
        go_wp2_with fail
        refine (rights_all w1 _ kr R1.out (by rw [HRL.out]; omega)).mono ?_
        rintro e w2 ⟨b1, rfl, hi1, hb2⟩
        have B2 := Lib.hid (B1.out.trans (hb2.mono B1.out.size))
        have Y2 := Lib.hid (Y1.out.below hb2 (Nat.le_refl _))
        have Z2 := Lib.hid (Z1.out.below hb2 (Nat.le_refl _))
        have R2 := Lib.hid (R1.out.below hb2)
        have HI1 := Lib.hid hi1
        clear hb2 hi1 B1 Y1 Z1 R1
        go_wp2_with fail
        refine (ref_rights w2 _ kr R2.out (by rw [HRL.out]; omega)).mono ?_
        rintro e w3 ⟨b2, rfl, hi2, hb3⟩
        obtain rfl : b2 = b1 := Bool.eq_iff_iff.2 (hi2.trans HI1.out.symm)
        have B3 := Lib.hid (B2.out.trans (hb3.mono B2.out.size))
        have Y3 := Lib.hid (Y2.out.below hb3 (Nat.le_refl _))
        have Z3 := Lib.hid (Z2.out.below hb3 (Nat.le_refl _))
        clear hb3 hi2 HI1 B2 Y2 Z2 R2
        go_wp2_with fail
        refine (some_any w3 a len cap y Y3.out hl HCAP.out hcm (by omega) HBY.out).mono ?_
        rintro e w4 ⟨v4, rfl, ho4, hb4⟩
        have hv4 := ho4.vers
        have hri := someK_rising y y.length
        have hok := someK_ok y HBY.out y.length (Nat.le_refl _) (by omega)
        have hkl := someK_len y y.length
        have hbd := fun k h => someK_bd y y.length k h (by omega)
        obtain ⟨ks, hks⟩ : ∃ ks, someK y y.length = ks := ⟨_, rfl⟩
        rw [hks] at hv4 hri hok hkl hbd
        rw [hl] at hkl hbd
        clear hks ho4
        obtain ⟨a4, c4, e4, hc4⟩ := hv4.len
        rw [hkl] at e4 hc4
        subst e4
        obtain ⟨q, hq⟩ : ∃ q : Int, kk.tmod 20 = q := ⟨_, rfl⟩
        have hq0 : 0 ≤ q := by rw [← hq]; exact Int.tmod_nonneg _ k0
        have hq1 : q < 20 := by rw [← hq]; exact Int.tmod_lt_of_pos _ (by omega)
        have hwq : IntKind.i64.wrap q = q := IntWalk.i64_in _ (by omega)
        have hwk : IntKind.i64.wrap kk = kk := IntWalk.i64_in _ (by omega)
        have B4 := Lib.hid (B3.out.trans (hb4.mono B3.out.size))
        have V4 := Lib.hid hv4
        have Z4 := Lib.hid (Z3.out.below hb4 (Nat.le_refl _))
        have HRI := Lib.hid hri
        have HOK := Lib.hid hok
        have HKL := Lib.hid hkl
        have HBD := Lib.hid hbd
        have HL := Lib.hid hl
        clear hb4 hv4 hri hok hkl hc4 hl hbd Y3 B3 Z3 HBY
        go_wp2_with fail
        have hb5 : Below w4.heap.size w4 (w4.alloc (.cells #[.int .i64 sq, .int .i64 kk, .int .i64 t] 2)) := (Below.refl _ _).alloc (Nat.le_refl _) _
        have hc5 := cell3 w4 2 sq kk t
        have hl5 : w4.heap.size < (w4.alloc (.cells #[.int .i64 sq, .int .i64 kk, .int .i64 t] 2)).heap.size := by simp
        obtain ⟨w5, hw5⟩ : ∃ x, w4.alloc (.cells #[.int .i64 sq, .int .i64 kk, .int .i64 t] 2) = x := ⟨_, rfl⟩
        rw [hw5] at hb5 hc5 hl5 ⊢
        obtain ⟨NN, hNN⟩ : ∃ x, w4.heap.size = x := ⟨_, rfl⟩
        rw [hNN] at hc5 hl5 ⊢
        have B5 := Lib.hid (B4.out.trans (hb5.mono B4.out.size))
        have V5 := Lib.hid (V4.out.below hb5)
        have Z5 := Lib.hid (Z4.out.below hb5 (Nat.le_refl _))
        have C5 := Lib.hid hc5
        have L5 := Lib.hid hl5
        clear hb5 hc5 hl5 hw5 hNN B4 V4 Z4
        go_loopw [48] (fun i wr => ∃ k : Nat, k ≤ 3 ∧ i = .int .i64 k ∧ Below w5.heap.size w5 wr) (fun i _ => 3 - (intOf i).toNat)
        case atStart => exact ⟨0, Nat.zero_le _, rfl, Below.refl _ _⟩
        case round =>
          obtain ⟨k, hk, rfl, hbel⟩ := hrel
          have BR := Lib.hid (B5.out.trans (hbel.mono B5.out.size))
          have VR := Lib.hid (V5.out.below hbel)
          have ZR := Lib.hid (Z5.out.below hbel (Nat.le_refl _))
          by_cases hlt : k < 3
          · have hcr : wr.cell? ⟨NN, k, none⟩ = some (.int .i64 ([sq, kk, t].getD k 0)) := by rw [hbel.cell L5.out]; exact C5.out k hlt
            obtain ⟨s, hs⟩ : ∃ s, [sq, kk, t].getD k 0 = s := ⟨_, rfl⟩
            rw [hs] at hcr
            have HBEL := Lib.hid hbel
            clear hbel hs
            obtain ⟨c, hc⟩ := cut_exists (seqs ks) HRI.out s
            obtain ⟨d, hd⟩ := cut_exists (seqs ks) HRI.out q
            obtain ⟨ba, da, hat, rat⟩ := at_both ks s c HOK.out HRI.out (by rw [HKL.out]; omega) hc
            obtain ⟨ks', hkl', hadd, radd⟩ := add_both ks s z HOK.out (by rw [HKL.out]; omega) (by rw [HZL.out]; exact hd20)
            obtain ⟨x1, hx1⟩ : ∃ b, decide (c < ks.length ∧ (seqs ks).getD c 0 ≤ t) = b := ⟨_, rfl⟩
            obtain ⟨x2, hx2⟩ : ∃ b, decide (d < ks.length ∧ (seqs ks).getD d 0 ≤ s) = b := ⟨_, rfl⟩
            have HC := Lib.hid hc
            have HD := Lib.hid hd
            have HAT := Lib.hid hat
            have RAT := Lib.hid rat
            have HADD := Lib.hid hadd
            have RADD := Lib.hid radd
            have HKL' := Lib.hid hkl'
            have HX1 := Lib.hid hx1
            have HX2 := Lib.hid hx2
            have hkI : (k : Int) < 3 := by omega
            have hkM : (k : Int) ≤ 3 := by omega
            clear hc hd hat rat hadd radd hkl' hx1 hx2
            go_wp2_with fail
            refine (HAT.out wr _ VR.out).mono ?_
            rintro e w6 ⟨a6, c6, rfl, hn6, hb6⟩
            have B6 := Lib.hid (BR.out.trans (hb6.mono BR.out.size))
            have V6 := Lib.hid (VR.out.below hb6)
            have Z6 := Lib.hid (ZR.out.below hb6 (Nat.le_refl _))
            have N6 := Lib.hid hn6
            have F6 := Lib.hid (HBEL.out.trans (hb6.mono HBEL.out.size))
            clear hb6 hn6
            go_wp2_with fail
            refine (RAT.out w6 _ V6.out).mono ?_
            rintro e w7 ⟨a7, c7, rfl, hn7, hb7⟩
            have B7 := Lib.hid (B6.out.trans (hb7.mono B6.out.size))
            have V7 := Lib.hid (V6.out.below hb7)
            have Z7 := Lib.hid (Z6.out.below hb7 (Nat.le_refl _))
            have F7 := Lib.hid (F6.out.trans (hb7.mono F6.out.size))
            have hconv7 := conv_str (P := Try.prog) hn7 27 5 Try.underlying27 Try.underlying5 9 Try.underlying9
            have hconv6 := conv_str (P := Try.prog) (N6.out.below hb7 (Nat.le_refl _)) 27 5 Try.underlying27 Try.underlying5 9 Try.underlying9
            clear hb7 hn7 N6 B6 V6 Z6 F6
            go_wp2_with fail
            refine (HADD.out w7 _ _ V7.out Z7.out).mono ?_
            rintro e w8 ⟨v8, rfl, ho8, hb8⟩
            have B8 := Lib.hid (B7.out.trans (hb8.mono B7.out.size))
            have V8 := Lib.hid (V7.out.below hb8)
            have Z8 := Lib.hid (Z7.out.below hb8 (Nat.le_refl _))
            have F8 := Lib.hid (F7.out.trans (hb8.mono F7.out.size))
            have P8 := Lib.hid ho8.vers
            clear hb8 ho8 B7 V7 Z7 F7 hconv6 hconv7
            go_wp2_with fail
            refine (RADD.out w8 _ _ V8.out Z8.out).mono ?_
            rintro e w9 ⟨v9, rfl, hv9, hb9⟩
            have B9 := Lib.hid (B8.out.trans (hb9.mono B8.out.size))
            have V9 := Lib.hid (V8.out.below hb9)
            have F9 := Lib.hid (F8.out.trans (hb9.mono F8.out.size))
            have P9 := Lib.hid (P8.out.below hb9)
            have R9 := Lib.hid hv9
            clear hb9 hv9 B8 V8 Z8 F8 P8
            go_wp2_with fail
            refine (same_any w9 _ _ ks' P9.out R9.out HKL'.out).mono ?_
            rintro e w10 ⟨rfl, hb10⟩
            have B10 := Lib.hid (B9.out.trans (hb10.mono B9.out.size))
            have V10 := Lib.hid (V9.out.below hb10)
            have F10 := Lib.hid (F9.out.trans (hb10.mono F9.out.size))
            clear hb10 B9 V9 F9 P9 R9
            go_wp2_with fail
            refine (prune_any w10 _ ks s c V10.out HOK.out HRI.out (by rw [HKL.out]; omega) HC.out).mono ?_
            rintro e w11 ⟨v11, rfl, ho11, hb11⟩
            have B11 := Lib.hid (B10.out.trans (hb11.mono B10.out.size))
            have V11 := Lib.hid (V10.out.below hb11)
            have F11 := Lib.hid (F10.out.trans (hb11.mono F10.out.size))
            have P11 := Lib.hid ho11.vers
            clear hb11 ho11 B10 V10 F10
            go_wp2_with fail
            refine (ref_prune w11 _ ks s c V11.out (by rw [HKL.out]; omega) HC.out).mono ?_
            rintro e w12 ⟨v12, rfl, hv12, hb12⟩
            have B12 := Lib.hid (B11.out.trans (hb12.mono B11.out.size))
            have V12 := Lib.hid (V11.out.below hb12)
            have F12 := Lib.hid (F11.out.trans (hb12.mono F11.out.size))
            have P12 := Lib.hid (P11.out.below hb12)
            have R12 := Lib.hid hv12
            clear hb12 hv12 B11 V11 F11 P11
            go_wp2_with fail
            refine (same_any w12 _ _ _ P12.out R12.out (by rw [List.length_drop, HKL.out]; omega)).mono ?_
            rintro e w13 ⟨rfl, hb13⟩
            have B13 := Lib.hid (B12.out.trans (hb13.mono B12.out.size))
            have V13 := Lib.hid (V12.out.below hb13)
            have F13 := Lib.hid (F12.out.trans (hb13.mono F12.out.size))
            clear hb13 B12 V12 F12 P12 R12
            go_wp2_with fail
            refine (changed_any w13 _ ks s t c V13.out HRI.out (by rw [HKL.out]; omega) HC.out).mono ?_
            rintro e w14 ⟨rfl, hb14⟩
            rw [HX1.out]
            have B14 := Lib.hid (B13.out.trans (hb14.mono B13.out.size))
            have V14 := Lib.hid (V13.out.below hb14)
            have F14 := Lib.hid (F13.out.trans (hb14.mono F13.out.size))
            clear hb14 B13 V13 F13
            go_wp2_with fail
            refine (ref_changed w14 _ ks s t c V14.out HRI.out (by rw [HKL.out]; omega) HC.out).mono ?_
            rintro e w15 ⟨rfl, hb15⟩
            rw [HX1.out]
            have B15 := Lib.hid (B14.out.trans (hb15.mono B14.out.size))
            have V15 := Lib.hid (V14.out.below hb15)
            have F15 := Lib.hid (F14.out.trans (hb15.mono F14.out.size))
            clear hb15 B14 V14 F14
            go_wp2_with fail
            refine (changed_any w15 _ ks q s d V15.out HRI.out (by rw [HKL.out]; omega) HD.out).mono ?_
            rintro e w16 ⟨rfl, hb16⟩
            rw [HX2.out]
            have B16 := Lib.hid (B15.out.trans (hb16.mono B15.out.size))
            have V16 := Lib.hid (V15.out.below hb16)
            have F16 := Lib.hid (F15.out.trans (hb16.mono F15.out.size))
            clear hb16 B15 V15 F15
            go_wp2_with fail
            refine (ref_changed w16 _ ks q s d V16.out HRI.out (by rw [HKL.out]; omega) HD.out).mono ?_
            rintro e w17 ⟨rfl, hb17⟩
            rw [HX2.out]
            have F17 := Lib.hid (F16.out.trans (hb17.mono F16.out.size))
            clear hb17 B16 V16 F16
            go_wp2
            go_roundw
            case rel => exact ⟨k + 1, by omega, by go_num, F17.out⟩
            case measure => simp [intOf]; omega
          · obtain rfl : k = 3 := by omega
            clear hbel
            rw [show ((3 : Nat) : Int) = 3 from rfl]
            go_wp2_with fail
            refine (rights_any wr _ ks VR.out HRI.out (fun i hi => HBD.out i (by rw [← HKL.out]; exact hi)) (by rw [HKL.out]; omega)).mono ?_
            rintro e w6 ⟨rfl, hb6⟩
            have B6 := Lib.hid (BR.out.trans (hb6.mono BR.out.size))
            clear hb6
            go_wp2
            go_ret
            exact ⟨rfl, B6.out⟩
      · have hr20I : ¬ (20 : Int) < rl := by omega
        have h20I : ¬ (20 : Int) < len := by omega
        have hd20I : (20 : Int) < dl := by omega
        clear hraw hy hl hcap hb hz hzl
        go_enter Try.func7, Try.ntmps7
        go_wp2_with fail
        refine (known_any w).mono ?_
        rintro e w1 ⟨rfl, hb1⟩
        have B1 := Lib.hid hb1
        clear hb1
        go_wp2
        go_ret
        exact ⟨rfl, B1.out⟩
    · have hr20I : ¬ (20 : Int) < rl := by omega
      have h20I : (20 : Int) < len := by omega
      clear hraw hy hl hcap hb hz hzl
      go_enter Try.func7, Try.ntmps7
      go_wp2_with fail
      refine (known_any w).mono ?_
      rintro e w1 ⟨rfl, hb1⟩
      have B1 := Lib.hid hb1
      clear hb1
      go_wp2
      go_ret
      exact ⟨rfl, B1.out⟩
  · have hr20I : (20 : Int) < rl := by omega
    clear hraw hy hl hcap hb hz hzl
    go_enter Try.func7, Try.ntmps7
    go_wp2_with fail
    refine (known_any w).mono ?_
    rintro e w1 ⟨rfl, hb1⟩
    have B1 := Lib.hid hb1
    clear hb1
    go_wp2
    go_ret
    exact ⟨rfl, B1.out⟩
end Go.Proofs.Ytnjmlkohgbbafaa.K
