/- DiskPowers' walk. -/
import Derived.Test.YtnjmlkohgbbafaaDisk7
import Derived.Outline
namespace Go.Proofs.Ytnjmlkohgbbafaa.K
open Go.ChangeShapes Go.WideShapes Go.ChangeAt Go.RowKit
set_option linter.unusedVariables false

theorem tmod3 (n : Nat) : (n : Int).tmod 3 = ((n % 3 : Nat) : Int) := by
  rw [Int.tmod_eq_emod_of_nonneg (by omega)]; omega
theorem tmod12 (n : Nat) : (n : Int).tmod 12 = ((n % 12 : Nat) : Int) := by
  rw [Int.tmod_eq_emod_of_nonneg (by omega)]; omega
theorem crashed_len (secs : List (List Int)) (uns : List Un) (mask torn : Int) : (crashed secs uns mask torn).length = secs.length := by
  unfold crashed; rw [redoN_len, undo_len]

def PowIs (w : World) (B S K : Nat) (k : Nat) (wr : World) : Prop :=
  ∃ vu secs uns, IsDisk wr B S vu secs uns ((K - k : Nat) : Int) ∧ secs.length = 4 ∧ uns.length ≤ k ∧ Below w.heap.size w wr

set_option maxRecDepth 100000 in
set_option maxHeartbeats 2000000 in
theorem powers_walk (n : Int) (a : Option Addr) (len cap : Nat) (y : List Int) (w : World) (n0 : 0 ≤ n) (n1 : n ≤ 255) (hy : IsNums .u8 w (.slice a len cap) y) (hl : y.length = len) (hm : len ≤ maxLen) (hb : ∀ j, j < y.length → 0 ≤ y.getD j 0 ∧ y.getD j 0 ≤ 255) :
    Calls Try.prog 4 #[.int .u8 n, .slice a len cap] w fun e w' => e = .returned (.bool true) ∧ Below w.heap.size w w' := by
  unfold maxLen at hm
  have HY := Lib.hid hy
  have HBY := Lib.hid hb
  clear hy hb
  obtain ⟨nn, rfl⟩ : ∃ nn : Nat, n = (nn : Int) := ⟨n.toNat, by omega⟩
  by_cases h30 : len ≤ 30
  · have h30I : ¬ (30 : Int) < len := by omega
    obtain ⟨K, hK⟩ : ∃ K, nn % 12 = K := ⟨_, rfl⟩
    have htK : (nn : Int).tmod 12 = (K : Int) := by rw [tmod12, hK]
    have hK12 : K < 12 := by omega
    have hK0 : 0 ≤ (K : Int) := by omega
    have hK12I : (K : Int) < 12 := by omega
    clear hK
    go_enter Try.func4, Try.ntmps4
    go_wp2_with fail
    refine (known_any w).mono ?_
    rintro e w1 ⟨rfl, hb1⟩
    have HB1 := Lib.hid hb1
    clear hb1
    go_wp2_with fail
    refine (new_disk 4 w1 (by omega)).mono ?_
    rintro e w2 ⟨B, S, rfl, hS, h2, hb2⟩
    have HB2 := Lib.hid (HB1.out.trans (hb2.mono HB1.out.size))
    have HS := Lib.hid (show w.heap.size ≤ S from Nat.le_trans HB1.out.size hS)
    have H2 := Lib.hid h2
    clear hb2 h2 hS
    go_wp2_with fail
    refine (power_disk H2.out K (by omega) (by omega)).mono ?_
    rintro e w3 ⟨rfl, h3, hk3⟩
    have HB3 := Lib.hid (HB2.out.trans (keepB_below H2.out hk3 HS.out))
    have H3 := Lib.hid h3
    clear h3 hk3 H2 htK
    go_wp2
    go_loopw [7] (fun i wr => ∃ k : Nat, k ≤ len ∧ i = .int .i64 k ∧ PowIs w B S K k wr) (fun i _ => len - (intOf i).toNat)
    case atStart => exact ⟨0, Nat.zero_le _, rfl, .slice none 0 0, _, [], by rw [Nat.sub_zero]; exact H3.out, by simp, Nat.le_refl _, HB3.out⟩
    case round =>
      clear HB3 H3
      obtain ⟨k, hk, rfl, vu, secs, uns, hd, hsl, hun, hbel⟩ := hrel
      by_cases hlt : k < len
      · obtain ⟨a', c', e1, h0 | ⟨b, off, e2, hblt, hcell⟩⟩ := id HY.out
        · omega
        injection e1 with e1 e3 e4
        clear e3 e4
        subst e1
        subst e2
        have hbk := HBY.out k (by omega)
        obtain ⟨bn, hbn9⟩ : ∃ bn : Nat, y.getD k 0 = (bn : Int) := ⟨(y.getD k 0).toNat, by omega⟩
        have hcl := hcell k (by omega)
        rw [hbn9] at hcl hbk
        have hbn0 := hbk.1
        have hbn1 := hbk.2
        have HD := Lib.hid hd
        have HBL := Lib.hid hbel
        have hcr : wr.cell? ⟨b, off + k, none⟩ = some (.int .u8 bn) := by rw [hbel.cell hblt]; exact hcl
        have HCR := Lib.hid hcr
        have hblr : b < wr.heap.size := Nat.lt_of_lt_of_le hblt hbel.size
        obtain ⟨s1, hs1⟩ : ∃ s, secs.getD 1 [] = s := ⟨_, rfl⟩
        have hsec1 := sec_get HD.out.secs_ok (show 1 < secs.length by omega)
        rw [hs1] at hsec1
        have HS1 := Lib.hid hs1
        have HSEC := Lib.hid hsec1
        clear hcl hbk hbn9 hcell hd hbel hcr hs1 hsec1
        have hk30 : (k : Int) < 30 := by omega
        go_wp2_with fail
        refine (read_disk HD.out 1 (by omega)).mono ?_
        rintro e w3 ⟨u3, rfl, hown3, hb3⟩
        rw [HS1.out] at hown3
        have hn3 := IsNums.ofOwn (k := .u8) (zs := s1) hown3
        have hconv3 := conv_str (P := Try.prog) hn3 27 5 Try.underlying27 Try.underlying5 9 Try.underlying9
        have hc3 : w3.cell? ⟨b, off + k, none⟩ = some (.int .u8 bn) := by rw [hb3.cell hblr]; exact HCR.out
        have HB3 := Lib.hid (HBL.out.trans (hb3.mono HBL.out.size))
        have HD3 := HD.out.later hb3
        replace HD3 := Lib.hid HD3
        clear hown3 hn3 hb3
        by_cases h3 : bn % 3 = 0
        · have ht3 : (bn : Int).tmod 3 = 0 := by rw [tmod3, h3]; rfl
          clear h3
          by_cases hkK : k < K
          · by_cases hk1 : k + 1 = K
            · obtain ⟨m, hmm⟩ : ∃ m, K - k = m + 1 := ⟨K - k - 1, by omega⟩
              have hless : less ((K - k : Nat) : Int) = (m : Int) := by rw [hmm]; unfold less; rw [if_pos (by omega)]; omega
              have hne : (((K - k : Nat) : Int) != 0) = true := by rw [hmm]; simp; omega
              have hnK : ¬ ((K : Int) ≤ k) := by omega
              have hm0 : ((m : Int) == 0) = true := by simp; omega
              have hK1 : (K : Int) ≤ k + 1 := by omega
              have hKm : K - (k + 1) = m := by omega
              have HKM := Lib.hid hKm
              have HLS := Lib.hid hless
              have HNE := Lib.hid hne
              clear hless hne hKm hmm
              go_wp2_with fail
              refine (flush_live HD3.out HNE.out).mono ?_
              rintro e w4 ⟨rfl, h4, hk4⟩
              have hb4 := HB3.out.trans (keepB_below HD3.out hk4 HS.out)
              obtain ⟨secs4, uns4, vu4, e4, e5, e6⟩ : ∃ (secs4 : List (List Int)) (uns4 : List Un) (vu4 : Value), secs4.length = 4 ∧ uns4.length ≤ k + 1 ∧ IsDisk w4 B S vu4 secs4 uns4 (m : Int) := ⟨secs, [], _, hsl, by simp, by rw [← HLS.out]; exact h4⟩
              have HD4 := Lib.hid e6
              have HB4 := Lib.hid hb4
              clear e6 hb4 h4 hk4 HD3
              go_wp2_with (go_at_call 20; ((with_reducible refine (dead_disk HD4.out).mono ?_); rintro en w' ⟨rfl, rfl⟩))
              go_roundw
              case rel => exact ⟨k + 1, by omega, by go_num, vu4, secs4, uns4, by rw [HKM.out]; exact HD4.out, e4, e5, HB4.out⟩
              case measure => simp [intOf]; omega
            · obtain ⟨m, hmm⟩ : ∃ m, K - k = m + 1 := ⟨K - k - 1, by omega⟩
              have hless : less ((K - k : Nat) : Int) = (m : Int) := by rw [hmm]; unfold less; rw [if_pos (by omega)]; omega
              have hne : (((K - k : Nat) : Int) != 0) = true := by rw [hmm]; simp; omega
              have hnK : ¬ ((K : Int) ≤ k) := by omega
              have hm0 : ((m : Int) == 0) = false := by simp; omega
              have hK1 : ¬ ((K : Int) ≤ k + 1) := by omega
              have hKm : K - (k + 1) = m := by omega
              have HKM := Lib.hid hKm
              have HLS := Lib.hid hless
              have HNE := Lib.hid hne
              clear hless hne hKm hmm
              go_wp2_with fail
              refine (flush_live HD3.out HNE.out).mono ?_
              rintro e w4 ⟨rfl, h4, hk4⟩
              have hb4 := HB3.out.trans (keepB_below HD3.out hk4 HS.out)
              obtain ⟨secs4, uns4, vu4, e4, e5, e6⟩ : ∃ (secs4 : List (List Int)) (uns4 : List Un) (vu4 : Value), secs4.length = 4 ∧ uns4.length ≤ k + 1 ∧ IsDisk w4 B S vu4 secs4 uns4 (m : Int) := ⟨secs, [], _, hsl, by simp, by rw [← HLS.out]; exact h4⟩
              have HD4 := Lib.hid e6
              have HB4 := Lib.hid hb4
              clear e6 hb4 h4 hk4 HD3
              go_wp2_with (go_at_call 20; ((with_reducible refine (dead_disk HD4.out).mono ?_); rintro en w' ⟨rfl, rfl⟩))
              go_roundw
              case rel => exact ⟨k + 1, by omega, by go_num, vu4, secs4, uns4, by rw [HKM.out]; exact HD4.out, e4, e5, HB4.out⟩
              case measure => simp [intOf]; omega
          · have hl0 : ((K - k : Nat) : Int) = 0 := by omega
            have hK0 : (K : Int) ≤ k := by omega
            have hK1 : (K : Int) ≤ k + 1 := by omega
            have hKm : K - (k + 1) = 0 := by omega
            rw [hl0] at HD3
            have HKM := Lib.hid hKm
            clear hl0 hKm
            go_wp2_with fail
            refine (flush_dead HD3.out rfl).mono ?_
            rintro e w4 ⟨rfl, h4, hk4⟩
            have hb4 := HB3.out.trans (keepB_below HD3.out hk4 HS.out)
            have HD4 := Lib.hid h4
            have HB4 := Lib.hid hb4
            clear hb4 h4 hk4 HD3
            go_wp2_with fail
            refine (read_disk HD4.out 1 (by omega)).mono ?_
            rintro e w5 ⟨u5, rfl, hown5, hb5⟩
            rw [HS1.out] at hown5
            have hn5 := IsNums.ofOwn (k := .u8) (zs := s1) hown5
            have hconv5 := conv_str (P := Try.prog) hn5 27 5 Try.underlying27 Try.underlying5 9 Try.underlying9
            have HD5 := Lib.hid (HD4.out.later hb5)
            have HB5 := Lib.hid (HB4.out.trans (hb5.mono HB4.out.size))
            clear hown5 hn5 hb5 HD4
            go_wp2_with (go_at_call 20; ((with_reducible refine (dead_disk HD5.out).mono ?_); rintro en w' ⟨rfl, rfl⟩))
            go_roundw
            case rel => exact ⟨k + 1, by omega, by go_num, vu, secs, uns, by rw [HKM.out]; exact HD5.out, hsl, by omega, HB5.out⟩
            case measure => simp [intOf]; omega
        · obtain ⟨r, hr⟩ : ∃ r, bn % 3 = r := ⟨_, rfl⟩
          have ht3 : (bn : Int).tmod 3 = (r : Int) := by rw [tmod3, hr]
          have hr0 : ((r : Int) == 0) = false := by simp; omega
          clear h3 hr
          by_cases hkK : k < K
          · by_cases hk1 : k + 1 = K
            · obtain ⟨m, hmm⟩ : ∃ m, K - k = m + 1 := ⟨K - k - 1, by omega⟩
              have hless : less ((K - k : Nat) : Int) = (m : Int) := by rw [hmm]; unfold less; rw [if_pos (by omega)]; omega
              have hne : (((K - k : Nat) : Int) != 0) = true := by rw [hmm]; simp; omega
              have hnK : ¬ ((K : Int) ≤ k) := by omega
              have hm0 : ((m : Int) == 0) = true := by simp; omega
              have hK1 : (K : Int) ≤ k + 1 := by omega
              have hKm : K - (k + 1) = m := by omega
              have HKM := Lib.hid hKm
              have HLS := Lib.hid hless
              have HNE := Lib.hid hne
              clear hless hne hKm hmm
              go_wp2_with fail
              have h9 := HD3.out.alloc (.cells #[.int .u8 (bn : Int), .int .u8 (k : Int)] 5)
              have hn9 := NumsOff.litF (bad := Mine B S vu) w3 [(bn : Int), (k : Int)] w3.heap.size 5 (0, 0) 2 2 rfl rfl HD3.out.fresh
              have hb9 : Below w.heap.size w (w3.alloc (.cells #[.int .u8 (bn : Int), .int .u8 (k : Int)] 5)) := HB3.out.alloc HB3.out.size _
              refine (write_live h9 1 (by omega) _ [(bn : Int), (k : Int)] hn9 (by simp) (by intro x hx; simp at hx; rcases hx with rfl | rfl <;> omega) HNE.out (by omega)).mono ?_
              rintro e w4 ⟨rfl, vu4', h4, hk4, hv4⟩
              have hb4 := hb9.trans (h9.below hk4 HS.out hb9.size)
              obtain ⟨secs4, uns4, vu4, e4, e5, e6⟩ : ∃ (secs4 : List (List Int)) (uns4 : List Un) (vu4 : Value), secs4.length = 4 ∧ uns4.length ≤ k + 1 ∧ IsDisk w4 B S vu4 secs4 uns4 (m : Int) := ⟨secs.set 1 (pad [(bn : Int), (k : Int)]), uns ++ [⟨1, secs.getD 1 [], pad [(bn : Int), (k : Int)]⟩], vu4', by rw [List.length_set]; exact hsl, by rw [List.length_append]; simp; omega, by rw [← HLS.out]; exact h4⟩
              have HD4 := Lib.hid e6
              have HB4 := Lib.hid hb4
              clear e6 hb4 h4 hk4 HD3 h9 hn9 hb9 hv4
              go_wp2_with (go_at_call 20; ((with_reducible refine (dead_disk HD4.out).mono ?_); rintro en w' ⟨rfl, rfl⟩))
              go_roundw
              case rel => exact ⟨k + 1, by omega, by go_num, vu4, secs4, uns4, by rw [HKM.out]; exact HD4.out, e4, e5, HB4.out⟩
              case measure => simp [intOf]; omega
            · obtain ⟨m, hmm⟩ : ∃ m, K - k = m + 1 := ⟨K - k - 1, by omega⟩
              have hless : less ((K - k : Nat) : Int) = (m : Int) := by rw [hmm]; unfold less; rw [if_pos (by omega)]; omega
              have hne : (((K - k : Nat) : Int) != 0) = true := by rw [hmm]; simp; omega
              have hnK : ¬ ((K : Int) ≤ k) := by omega
              have hm0 : ((m : Int) == 0) = false := by simp; omega
              have hK1 : ¬ ((K : Int) ≤ k + 1) := by omega
              have hKm : K - (k + 1) = m := by omega
              have HKM := Lib.hid hKm
              have HLS := Lib.hid hless
              have HNE := Lib.hid hne
              clear hless hne hKm hmm
              go_wp2_with fail
              have h9 := HD3.out.alloc (.cells #[.int .u8 (bn : Int), .int .u8 (k : Int)] 5)
              have hn9 := NumsOff.litF (bad := Mine B S vu) w3 [(bn : Int), (k : Int)] w3.heap.size 5 (0, 0) 2 2 rfl rfl HD3.out.fresh
              have hb9 : Below w.heap.size w (w3.alloc (.cells #[.int .u8 (bn : Int), .int .u8 (k : Int)] 5)) := HB3.out.alloc HB3.out.size _
              refine (write_live h9 1 (by omega) _ [(bn : Int), (k : Int)] hn9 (by simp) (by intro x hx; simp at hx; rcases hx with rfl | rfl <;> omega) HNE.out (by omega)).mono ?_
              rintro e w4 ⟨rfl, vu4', h4, hk4, hv4⟩
              have hb4 := hb9.trans (h9.below hk4 HS.out hb9.size)
              obtain ⟨secs4, uns4, vu4, e4, e5, e6⟩ : ∃ (secs4 : List (List Int)) (uns4 : List Un) (vu4 : Value), secs4.length = 4 ∧ uns4.length ≤ k + 1 ∧ IsDisk w4 B S vu4 secs4 uns4 (m : Int) := ⟨secs.set 1 (pad [(bn : Int), (k : Int)]), uns ++ [⟨1, secs.getD 1 [], pad [(bn : Int), (k : Int)]⟩], vu4', by rw [List.length_set]; exact hsl, by rw [List.length_append]; simp; omega, by rw [← HLS.out]; exact h4⟩
              have HD4 := Lib.hid e6
              have HB4 := Lib.hid hb4
              clear e6 hb4 h4 hk4 HD3 h9 hn9 hb9 hv4
              go_wp2_with (go_at_call 20; ((with_reducible refine (dead_disk HD4.out).mono ?_); rintro en w' ⟨rfl, rfl⟩))
              go_roundw
              case rel => exact ⟨k + 1, by omega, by go_num, vu4, secs4, uns4, by rw [HKM.out]; exact HD4.out, e4, e5, HB4.out⟩
              case measure => simp [intOf]; omega
          · have hl0 : ((K - k : Nat) : Int) = 0 := by omega
            have hK0 : (K : Int) ≤ k := by omega
            have hK1 : (K : Int) ≤ k + 1 := by omega
            have hKm : K - (k + 1) = 0 := by omega
            rw [hl0] at HD3
            have HKM := Lib.hid hKm
            clear hl0 hKm
            go_wp2_with fail
            have h9 := HD3.out.alloc (.cells #[.int .u8 (bn : Int), .int .u8 (k : Int)] 5)
            have hn9 := NumsOff.litF (bad := Mine B S vu) w3 [(bn : Int), (k : Int)] w3.heap.size 5 (0, 0) 2 2 rfl rfl HD3.out.fresh
            have hb9 : Below w.heap.size w (w3.alloc (.cells #[.int .u8 (bn : Int), .int .u8 (k : Int)] 5)) := HB3.out.alloc HB3.out.size _
            refine (write_dead h9 1 (by omega) _ 2 _ (by omega)).mono ?_
            rintro e w4 ⟨rfl, h4, hk4⟩
            have hb4 := hb9.trans (keepB_below h9 hk4 HS.out)
            have HD4 := Lib.hid h4
            have HB4 := Lib.hid hb4
            clear hb4 h4 hk4 HD3 h9 hn9 hb9
            go_wp2_with fail
            refine (read_disk HD4.out 1 (by omega)).mono ?_
            rintro e w5 ⟨u5, rfl, hown5, hb5⟩
            rw [HS1.out] at hown5
            have hn5 := IsNums.ofOwn (k := .u8) (zs := s1) hown5
            have hconv5 := conv_str (P := Try.prog) hn5 27 5 Try.underlying27 Try.underlying5 9 Try.underlying9
            have HD5 := Lib.hid (HD4.out.later hb5)
            have HB5 := Lib.hid (HB4.out.trans (hb5.mono HB4.out.size))
            clear hown5 hn5 hb5 HD4
            go_wp2_with (go_at_call 20; ((with_reducible refine (dead_disk HD5.out).mono ?_); rintro en w' ⟨rfl, rfl⟩))
            go_roundw
            case rel => exact ⟨k + 1, by omega, by go_num, vu, secs, uns, by rw [HKM.out]; exact HD5.out, hsl, by omega, HB5.out⟩
            case measure => simp [intOf]; omega
      · obtain rfl : k = len := by omega
        have HD := Lib.hid hd
        have HBL := Lib.hid hbel
        clear hd hbel
        go_wp2_with fail
        refine (crash_any HD.out 0 0 (by omega) (by omega) (by omega) (by omega) (by omega)).mono ?_
        rintro e w4 ⟨rfl, h4, hk4⟩
        have hl4 := crashed_len secs uns 0 0
        rw [hsl] at hl4
        generalize crashed secs uns 0 0 = C at h4 hl4
        have HB4 := Lib.hid (HBL.out.trans (HD.out.below hk4 HS.out HBL.out.size))
        have HD4 := Lib.hid h4
        clear h4 hk4 HD HBL
        go_wp2_with fail
        refine (dead_disk HD4.out).mono ?_
        rintro en w' ⟨rfl, rfl⟩
        go_wp2_with fail
        refine (write_live HD4.out 1 (by omega) _ [] (NumsOff.nil _ _ _ _) (by simp) (by simp) rfl (by simp)).mono ?_
        rintro e w5 ⟨rfl, vu5, h5, hk5, hv5⟩
        have HB5 := Lib.hid (HB4.out.trans (HD4.out.below hk5 HS.out HB4.out.size))
        have hl5 : (C.set 1 (pad [])).length = 4 := by rw [List.length_set]; exact hl4
        have HD5 := Lib.hid h5
        clear h5 hk5 hv5
        go_wp2_with fail
        refine (write_sector HD5.out 9 (by rw [hl5]; omega) _).mono ?_
        rintro e w' ⟨rfl, rfl⟩
        obtain ⟨C5, hmk⟩ : ∃ C, (Instr.makeSlice 27 (.int .i64 65) (.int .i64 65)).run Try.prog w5 = .ok (.slice (some ⟨w5.heap.size, 0, none⟩) 65 65) (w5.alloc (.cells C 5)) := by
          obtain ⟨i0, hi, hz0, hz1, hz2⟩ := info_parts info_u8
          exact ⟨_, run_make (P := Try.prog) w5 27 5 i0 _ Try.underlying27 hi hz0 .i64 .i64 65 65 (by omega) (by omega) (by rw [hz2]; omega) (by omega)⟩
        have HD6 := HD5.out.alloc (.cells C5 5)
        have HB6 := Lib.hid (HB5.out.alloc HB5.out.size (.cells C5 5))
        replace HD6 := Lib.hid HD6
        go_wp2_with fail
        refine (write_long HD6.out 0 (by rw [hl5]; omega) _ 65 65 (by omega)).mono ?_
        rintro e w' ⟨rfl, rfl⟩
        go_wp2
        go_ret
        exact ⟨rfl, HB6.out⟩
  · have h30I : (30 : Int) < len := by omega
    go_enter Try.func4, Try.ntmps4
    go_wp2_with fail
    refine (known_any w).mono ?_
    rintro e w1 ⟨rfl, hb1⟩
    have HB1 := Lib.hid hb1
    clear hb1
    go_wp2
    go_ret
    exact ⟨rfl, HB1.out⟩
end Go.Proofs.Ytnjmlkohgbbafaa.K
