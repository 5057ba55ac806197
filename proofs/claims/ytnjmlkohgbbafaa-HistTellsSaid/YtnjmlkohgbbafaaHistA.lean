/- HistKeeps' walk. -/
import Derived.Test.YtnjmlkohgbbafaaHist9
namespace Go.Proofs.Ytnjmlkohgbbafaa.K
open Go.ChangeShapes Go.WideShapes Go.ChangeAt Go.RowKit
set_option linter.unusedVariables false

theorem getD_drop {α : Type} (l : List α) (k i : Nat) (d : α) : (l.drop k).getD i d = l.getD (k + i) d := by
  simp [List.getD, List.getElem?_drop]
theorem seqs_drop (ks : List (Int × List Int)) (k : Nat) : seqs (ks.drop k) = (seqs ks).drop k := by simp [seqs]
theorem Rising.drop {ss : List Int} (h : Rising ss) (k : Nat) : Rising (ss.drop k) := by
  intro i j hij hj
  rw [List.length_drop] at hj
  rw [getD_drop, getD_drop]
  exact h _ _ (by omega) (by omega)
theorem Cut.drop {ss : List Int} {t : Int} {c : Nat} (h : Cut ss t c) (k : Nat) (hk : k ≤ c) : Cut (ss.drop k) t (c - k) := by
  have h1 := h.1
  refine ⟨by rw [List.length_drop]; omega, fun i hi => ?_, fun i hi hj => ?_⟩
  · rw [getD_drop]; exact h.2.1 _ (by omega)
  · rw [getD_drop]
    rw [List.length_drop] at hj
    exact h.2.2 _ (by omega) (by omega)
theorem Cut.le {ss : List Int} {t u : Int} {c d : Nat} (h : Cut ss t c) (k : Cut ss u d) (htu : t ≤ u) : c ≤ d := by
  rcases Nat.lt_or_ge d c with hd | hd
  · have a := h.2.1 d hd
    have b := k.2.2 d (Nat.le_refl _) (by have := h.1; omega)
    omega
  · exact hd
theorem someK_bd (y : List Int) (n k : Nat) (h : k < n) (hn : n ≤ 1000) : 1 ≤ (seqs (someK y n)).getD k 0 ∧ (seqs (someK y n)).getD k 0 ≤ 1099511627776 := by
  rw [someK_seq y n k h]
  have := sumK_bd y (k + 1)
  omega

set_option maxRecDepth 100000 in
set_option maxHeartbeats 1000000 in
theorem histkeeps_walk (a : Option Addr) (len cap : Nat) (y : List Int) (f t : Int) (w : World) (hy : IsNums .u8 w (.slice a len cap) y) (hl : y.length = len) (hcap : len ≤ cap) (hcm : cap ≤ 9223372036854775807) (hb : ∀ j, j < y.length → 0 ≤ y.getD j 0 ∧ y.getD j 0 ≤ 255) (f0 : 0 ≤ f) (f1 : f ≤ 255) (t0 : 0 ≤ t) (t1 : t ≤ 255) :
    Calls Try.prog 8 #[.slice a len cap, .int .u8 f, .int .u8 t] w fun e w' => e = .returned (.bool true) ∧ Below w.heap.size w w' := by
  have HY := Lib.hid hy
  have HBY := Lib.hid hb
  have HCAP := Lib.hid hcap
  clear hy hb hcap
  by_cases h20 : len ≤ 20
  · have h20I : ¬ (20 : Int) < len := by omega
    go_enter Try.func8, Try.ntmps8
    go_wp2_with fail
    refine (known_any w).mono ?_
    rintro e w1 ⟨rfl, hb1⟩
    have B1 := Lib.hid hb1
    have Y1 := Lib.hid (HY.out.below hb1 (Nat.le_refl _))
    clear hb1
    go_wp2_with fail
    refine (some_any w1 a len cap y Y1.out hl HCAP.out hcm (by omega) HBY.out).mono ?_
    rintro e w2 ⟨v2, rfl, ho2, hb2⟩
    have hv2 := ho2.vers
    have hr := someK_rising y y.length
    have hok := someK_ok y HBY.out y.length (Nat.le_refl _) (by omega)
    have hkl := someK_len y y.length
    have hbd := fun k h => someK_bd y y.length k h (by omega)
    obtain ⟨ks, hks⟩ : ∃ ks, someK y y.length = ks := ⟨_, rfl⟩
    rw [hks] at hv2 hr hok hkl hbd
    rw [hl] at hkl
    clear hks ho2
    obtain ⟨c, hc⟩ := cut_exists (seqs ks) hr f
    obtain ⟨d, hd⟩ := cut_exists (seqs ks) hr (f + t)
    have hcd : c ≤ d := hc.le hd (by omega)
    obtain ⟨a2, c2, e2, hc2⟩ := hv2.len
    rw [hkl] at e2 hc2
    subst e2
    have B2 := Lib.hid (B1.out.trans (hb2.mono B1.out.size))
    have V2 := Lib.hid hv2
    have HR := Lib.hid hr
    have HOK := Lib.hid hok
    have HKL := Lib.hid hkl
    have HC := Lib.hid hc
    have HD := Lib.hid hd
    have HL := Lib.hid hl
    have HBD := Lib.hid hbd
    have HCD := Lib.hid hcd
    have hwf : IntKind.i64.wrap f = f := IntWalk.i64_in _ (by omega)
    have hwt : IntKind.i64.wrap t = t := IntWalk.i64_in _ (by omega)
    have hwa : IntKind.i64.wrap (f + t) = f + t := IntWalk.i64_in _ (by omega)
    clear hb2 hv2 hr hok hkl hc hd hc2 hl hbd hcd Y1 B1
    go_wp2_with fail
    refine (prune_any _ _ ks f c V2.out HOK.out HR.out (by rw [HKL.out]; omega) HC.out).mono ?_
    rintro e w3 ⟨v3, rfl, ho3, hb3⟩
    have hv3 := ho3.vers
    obtain ⟨a3, c3, e3, -⟩ := hv3.len
    subst e3
    have B3 := Lib.hid (B2.out.trans (hb3.mono B2.out.size))
    have V3 := Lib.hid (V2.out.below hb3)
    have P3 := Lib.hid hv3
    clear ho3 hb3 hv3
    obtain ⟨K, hK⟩ : ∃ K, c - 1 = K := ⟨_, rfl⟩
    rw [hK] at P3 ⊢
    have hKd : K ≤ d := by have := HCD.out; omega
    have hdl0 : d ≤ len := by have := HD.out.1; rw [seqs_len, HKL.out] at this; exact this
    have hcp : Cut (seqs (ks.drop K)) f (c - K) := by rw [seqs_drop]; exact HC.out.drop K (by omega)
    have hdp : Cut (seqs (ks.drop K)) (f + t) (d - K) := by rw [seqs_drop]; exact HD.out.drop K hKd
    have hrp : Rising (seqs (ks.drop K)) := by rw [seqs_drop]; exact HR.out.drop K
    have hokp : ∀ k ∈ ks.drop K, KeyOk k := fun k hk => HOK.out k (List.mem_of_mem_drop hk)
    have hpl : (ks.drop K).length = len - K := by rw [List.length_drop, HKL.out]
    have hbp : ∀ i, i < (ks.drop K).length → 1 ≤ (seqs (ks.drop K)).getD i 0 ∧ (seqs (ks.drop K)).getD i 0 ≤ 1099511627776 := fun i hi => by
      rw [seqs_drop, getD_drop]; exact HBD.out _ (by rw [HL.out]; omega)
    have hchg : decide (d - K < (ks.drop K).length ∧ (seqs (ks.drop K)).getD (d - K) 0 ≤ f + t + 9) = decide (d < ks.length ∧ (seqs ks).getD d 0 ≤ f + t + 9) := by
      rw [hpl, HKL.out, seqs_drop, getD_drop, show K + (d - K) = d by omega]
      congr 1
      rw [show (d - K < len - K) = (d < len) from propext ⟨fun h => by omega, fun h => by omega⟩]
    have hpp : (ks.drop K).drop (c - K - 1) = ks.drop K := by rw [show c - K - 1 = 0 by omega]; rfl
    obtain ⟨ps, hps⟩ : ∃ ps, ks.drop K = ps := ⟨_, rfl⟩
    have hget : ∀ m, d = m + 1 → ps.getD (m - K) (0, []) = ks.getD m (0, []) ∨ m < K := fun m hm => by
      by_cases h : m < K
      · exact .inr h
      · left; rw [← hps, getD_drop, show K + (m - K) = m by omega]
    rw [hps] at P3 hcp hdp hrp hokp hpl hbp hchg hpp ⊢
    rw [hpl] at P3 ⊢
    obtain ⟨Pn, hPn⟩ : ∃ Pn, len - K = Pn := ⟨_, rfl⟩
    rw [hPn] at P3 hpl ⊢
    have hPl : (Pn : Int) ≤ len := by omega
    have hPl2 : Pn ≤ 20 := by omega
    have hwn : IntKind.i64.wrap (f + t + 9) = f + t + 9 := IntWalk.i64_in _ (by omega)
    have CP := Lib.hid hcp
    have DP := Lib.hid hdp
    have RP := Lib.hid hrp
    have OP := Lib.hid hokp
    have LP := Lib.hid hpl
    have BP := Lib.hid hbp
    have CH := Lib.hid hchg
    have PP := Lib.hid hpp
    have GP := Lib.hid hget
    have HKC := Lib.hid hK
    have HKD := Lib.hid hKd
    clear hcp hdp hrp hokp hpl hbp hchg hpp hget hK hKd hps hdl0 hPn
    obtain ⟨bb, hbb⟩ : ∃ bb, decide (d < ks.length ∧ (seqs ks).getD d 0 ≤ f + t + 9) = bb := ⟨_, rfl⟩
    have QK := Lib.hid hbb
    have QP := Lib.hid (CH.out.trans hbb)
    clear hbb CH
    rcases d with _ | m
    · go_wp2_with fail
      refine (at_none _ _ ks (f + t) V3.out HR.out (by rw [HKL.out]; omega) HD.out).mono ?_
      rintro e w4 ⟨rfl, hb4⟩
      have B4 := Lib.hid (B3.out.trans (hb4.mono B3.out.size))
      have V4 := Lib.hid (V3.out.below hb4)
      have P4 := Lib.hid (P3.out.below hb4)
      clear hb4 V3 P3 B3
      go_wp2_with fail
      refine (at_none _ _ ps (f + t) P4.out RP.out (by rw [LP.out]; omega) (by have := DP.out; rwa [Nat.zero_sub] at this)).mono ?_
      rintro e w5 ⟨rfl, hb5⟩
      have B5 := Lib.hid (B4.out.trans (hb5.mono B4.out.size))
      have V5 := Lib.hid (V4.out.below hb5)
      have P5 := Lib.hid (P4.out.below hb5)
      clear hb5 V4 P4 B4
      have hconv := conv_str (P := Try.prog) (IsNums.nil .u8 w5 none 0) 27 5 Try.underlying27 Try.underlying5 9 Try.underlying9
      replace hconv : (convert 27 9 (.slice none 0 0)).run Try.prog w5 = .ok (.string ⟨#[]⟩) w5 := hconv
      go_wp2_with fail
      refine (rights_any _ _ ps P5.out RP.out BP.out (by rw [LP.out]; omega)).mono ?_
      rintro e w6 ⟨rfl, hb6⟩
      have B6 := Lib.hid (B5.out.trans (hb6.mono B5.out.size))
      have V6 := Lib.hid (V5.out.below hb6)
      have P6 := Lib.hid (P5.out.below hb6)
      clear hb6 V5 P5 B5
      go_wp2_with fail
      refine (changed_any _ _ ks (f + t) (f + t + 9) (0) V6.out HR.out (by rw [HKL.out]; omega) HD.out).mono ?_
      rintro e w7 ⟨rfl, hb7⟩
      rw [QK.out]
      have B7 := Lib.hid (B6.out.trans (hb7.mono B6.out.size))
      have P7 := Lib.hid (P6.out.below hb7)
      clear hb7 V6 P6 B6
      go_wp2_with fail
      refine (changed_any _ _ ps (f + t) (f + t + 9) (0 - K) P7.out RP.out (by rw [LP.out]; omega) DP.out).mono ?_
      rintro e w8 ⟨rfl, hb8⟩
      have B8 := Lib.hid (B7.out.trans (hb8.mono B7.out.size))
      have P8 := Lib.hid (P7.out.below hb8)
      clear hb8 P7 B7
      rw [QP.out]
      go_wp2_with fail
      refine (prune_any _ _ ps f (c - K) P8.out OP.out RP.out (by rw [LP.out]; omega) CP.out).mono ?_
      rintro e w9 ⟨v9, rfl, ho9, hb9⟩
      rw [PP.out] at ho9
      have hv9 := ho9.vers
      obtain ⟨a9, c9, e9, -⟩ := id hv9.len
      subst e9
      have V9 := Lib.hid hv9
      have B9 := Lib.hid (B8.out.trans (hb9.mono B8.out.size))
      have P9 := Lib.hid (P8.out.below hb9)
      clear ho9 hv9 hb9 P8 B8
      go_wp2_with fail
      refine (same_any _ _ _ ps V9.out P9.out (by rw [LP.out]; omega)).mono ?_
      rintro e w10 ⟨rfl, hb10⟩
      have B10 := Lib.hid (B9.out.trans (hb10.mono B9.out.size))
      clear hb10 V9 P9 B9
      go_wp2
      go_ret
      exact ⟨rfl, B10.out⟩
    · go_wp2_with fail
      refine (at_some _ _ ks (f + t) m V3.out HOK.out HR.out (by rw [HKL.out]; omega) HD.out).mono ?_
      rintro e w4 ⟨u4, rfl, ho4, hb4⟩
      have hn4 : IsNums .u8 w4 u4 _ := IsNums.ofOwn ho4
      have B4 := Lib.hid (B3.out.trans (hb4.mono B3.out.size))
      have V4 := Lib.hid (V3.out.below hb4)
      have P4 := Lib.hid (P3.out.below hb4)
      have N4 := Lib.hid hn4
      clear hb4 ho4 hn4 V3 P3 B3
      have hmK : ¬ m < K := by have := HCD.out; have := HKC.out; omega
      have hg := (GP.out m rfl).resolve_right hmK
      go_wp2_with fail
      refine (at_some _ _ ps (f + t) (m - K) P4.out OP.out RP.out (by rw [LP.out]; omega) (by have := DP.out; rwa [show m + 1 - K = m - K + 1 by omega] at this)).mono ?_
      rw [hg]
      rintro e w5 ⟨u5, rfl, ho5, hb5⟩
      have hn5 : IsNums .u8 w5 u5 _ := IsNums.ofOwn ho5
      have hn6 := N4.out.below hb5 (Nat.le_refl _)
      have B5 := Lib.hid (B4.out.trans (hb5.mono B4.out.size))
      have V5 := Lib.hid (V4.out.below hb5)
      have P5 := Lib.hid (P4.out.below hb5)
      generalize (ks.getD m (0, [])).2 = dd at hn5 hn6
      obtain ⟨p5, c5, rfl, -⟩ := id hn5
      obtain ⟨p6, c6, rfl, -⟩ := id hn6
      have hconv := conv_str (P := Try.prog) hn5 27 5 Try.underlying27 Try.underlying5 9 Try.underlying9
      have hconv6 := conv_str (P := Try.prog) hn6 27 5 Try.underlying27 Try.underlying5 9 Try.underlying9
      clear hb5 ho5 hn5 hn6 hg hmK V4 P4 B4 N4
      go_wp2_with fail
      refine (rights_any _ _ ps P5.out RP.out BP.out (by rw [LP.out]; omega)).mono ?_
      rintro e w6 ⟨rfl, hb6⟩
      have B6 := Lib.hid (B5.out.trans (hb6.mono B5.out.size))
      have V6 := Lib.hid (V5.out.below hb6)
      have P6 := Lib.hid (P5.out.below hb6)
      clear hb6 V5 P5 B5
      go_wp2_with fail
      refine (changed_any _ _ ks (f + t) (f + t + 9) (m + 1) V6.out HR.out (by rw [HKL.out]; omega) HD.out).mono ?_
      rintro e w7 ⟨rfl, hb7⟩
      rw [QK.out]
      have B7 := Lib.hid (B6.out.trans (hb7.mono B6.out.size))
      have P7 := Lib.hid (P6.out.below hb7)
      clear hb7 V6 P6 B6
      go_wp2_with fail
      refine (changed_any _ _ ps (f + t) (f + t + 9) (m + 1 - K) P7.out RP.out (by rw [LP.out]; omega) DP.out).mono ?_
      rintro e w8 ⟨rfl, hb8⟩
      have B8 := Lib.hid (B7.out.trans (hb8.mono B7.out.size))
      have P8 := Lib.hid (P7.out.below hb8)
      clear hb8 P7 B7
      rw [QP.out]
      go_wp2_with fail
      refine (prune_any _ _ ps f (c - K) P8.out OP.out RP.out (by rw [LP.out]; omega) CP.out).mono ?_
      rintro e w9 ⟨v9, rfl, ho9, hb9⟩
      rw [PP.out] at ho9
      have hv9 := ho9.vers
      obtain ⟨a9, c9, e9, -⟩ := id hv9.len
      subst e9
      have V9 := Lib.hid hv9
      have B9 := Lib.hid (B8.out.trans (hb9.mono B8.out.size))
      have P9 := Lib.hid (P8.out.below hb9)
      clear ho9 hv9 hb9 P8 B8
      go_wp2_with fail
      refine (same_any _ _ _ ps V9.out P9.out (by rw [LP.out]; omega)).mono ?_
      rintro e w10 ⟨rfl, hb10⟩
      have B10 := Lib.hid (B9.out.trans (hb10.mono B9.out.size))
      clear hb10 V9 P9 B9
      go_wp2
      go_ret
      exact ⟨rfl, B10.out⟩
  · have h20I : (20 : Int) < len := by omega
    go_enter Try.func8, Try.ntmps8
    go_wp2_with fail
    refine (known_any w).mono ?_
    rintro e w1 ⟨rfl, hb1⟩
    have B1 := Lib.hid hb1
    clear hb1
    go_wp2
    go_ret
    exact ⟨rfl, B1.out⟩
end Go.Proofs.Ytnjmlkohgbbafaa.K
