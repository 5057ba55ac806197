/- HistCounts' walk. -/
import Derived.Test.YtnjmlkohgbbafaaHist8
namespace Go.Proofs.Ytnjmlkohgbbafaa.K
open Go.ChangeShapes Go.WideShapes Go.ChangeAt Go.RowKit
set_option linter.unusedVariables false

theorem cut_exists (ss : List Int) (hr : Rising ss) (t : Int) : ∃ c, Cut ss t c := by
  have h : ∀ n, n ≤ ss.length → ∃ c, c ≤ n ∧ (∀ i, i < c → ss.getD i 0 ≤ t) ∧ ∀ i, c ≤ i → i < n → t < ss.getD i 0 := by
    intro n
    induction n with
    | zero => exact fun _ => ⟨0, Nat.le_refl _, fun i hi => absurd hi (Nat.not_lt_zero _), fun i _ hi => absurd hi (Nat.not_lt_zero _)⟩
    | succ n ih =>
      intro hn
      obtain ⟨c, h1, h2, h3⟩ := ih (by omega)
      by_cases ht : t < ss.getD n 0
      · refine ⟨c, by omega, h2, fun i hi hj => ?_⟩
        by_cases e : i = n
        · rw [e]; exact ht
        · exact h3 i hi (by omega)
      · refine ⟨n + 1, Nat.le_refl _, fun i hi => ?_, fun i hi hj => by omega⟩
        by_cases e : i = n
        · rw [e]; omega
        · have := hr i n (by omega) (by omega); omega
  obtain ⟨c, h1, h2, h3⟩ := h ss.length (Nat.le_refl _)
  exact ⟨c, h1, h2, h3⟩
theorem someK_get (y : List Int) : ∀ n k, k < n → (someK y n).getD k (0, []) = (sumK y (k + 1), [y.getD k 0])
  | 0, k, h => absurd h (Nat.not_lt_zero _)
  | n + 1, k, h => by
    have hl := someK_len y n
    by_cases e : k = n
    · subst e
      simp [someK, List.getD, hl]
    · have ih := someK_get y n k (by omega)
      simp only [someK, List.getD] at ih ⊢
      rw [List.getElem?_append_left (by omega)]
      exact ih
theorem sumK_lt (y : List Int) (i : Nat) : ∀ j, i < j → sumK y i < sumK y j
  | 0, h => absurd h (Nat.not_lt_zero _)
  | j + 1, h => by
    have e : sumK y (j + 1) = sumK y j + (y.getD j 0 % 4 + 1) := rfl
    by_cases hij : i = j
    · subst hij; omega
    · have := sumK_lt y i j (by omega); omega
theorem someK_seq (y : List Int) (n k : Nat) (h : k < n) : (seqs (someK y n)).getD k 0 = sumK y (k + 1) := by
  rw [seqs_get _ _ (by rw [someK_len]; exact h), someK_get y n k h]
theorem someK_rising (y : List Int) (n : Nat) : Rising (seqs (someK y n)) := by
  intro i j hij hj
  rw [seqs_len, someK_len] at hj
  rw [someK_seq y n i (by omega), someK_seq y n j hj]
  exact sumK_lt y _ _ (by omega)
theorem someK_ok (y : List Int) (hb : ∀ j, j < y.length → 0 ≤ y.getD j 0 ∧ y.getD j 0 ≤ 255) : ∀ n, n ≤ y.length → n ≤ 1000 → ∀ k ∈ someK y n, KeyOk k
  | 0, _, _, k, hk => by simp [someK] at hk
  | n + 1, h1, h2, k, hk => by
    rw [someK] at hk
    rcases List.mem_append.1 hk with hk | hk
    · exact someK_ok y hb n (by omega) (by omega) k hk
    · simp only [List.mem_cons, List.not_mem_nil, or_false] at hk
      subst hk
      have := sumK_bd y (n + 1)
      have h9 := hb n (by omega)
      refine ⟨by show _ ≤ sumK y (n + 1); omega, by show sumK y (n + 1) ≤ _; omega, by simp, ?_⟩
      intro x hx
      simp only [List.mem_cons, List.not_mem_nil, or_false] at hx
      subst hx
      exact h9

set_option maxRecDepth 100000 in
set_option maxHeartbeats 1000000 in
theorem counts_walk (a : Option Addr) (len cap : Nat) (y : List Int) (f : Int) (w : World) (hy : IsNums .u8 w (.slice a len cap) y) (hl : y.length = len) (hcap : len ≤ cap) (hcm : cap ≤ 9223372036854775807) (hb : ∀ j, j < y.length → 0 ≤ y.getD j 0 ∧ y.getD j 0 ≤ 255) (f0 : 0 ≤ f) (f1 : f ≤ 255) :
    Calls Try.prog 10 #[.slice a len cap, .int .u8 f] w fun e w' => e = .returned (.bool true) ∧ Below w.heap.size w w' := by
  have HY := Lib.hid hy
  have HBY := Lib.hid hb
  have HCAP := Lib.hid hcap
  clear hy hb hcap
  by_cases h20 : len ≤ 20
  · have h20I : ¬ (20 : Int) < len := by omega
    go_enter Try.func10, Try.ntmps10
    go_wp2_with fail
    refine (known_any w).mono ?_
    rintro e w1 ⟨rfl, hb1⟩
    have B1 := Lib.hid hb1
    have Y1 := Lib.hid (HY.out.below hb1 (Nat.le_refl _))
    clear hb1
    go_wp2_with fail
    refine (some_any w1 a len cap y Y1.out hl HCAP.out hcm (by omega) HBY.out).mono ?_
    rintro e w2 ⟨v2, rfl, ho2, hb2⟩
    have hv2 := ho2.vers
    have hr := someK_rising y y.length
    have hok := someK_ok y HBY.out y.length (Nat.le_refl _) (by omega)
    have hkl := someK_len y y.length
    obtain ⟨ks, hks⟩ : ∃ ks, someK y y.length = ks := ⟨_, rfl⟩
    rw [hks] at hv2 hr hok hkl
    rw [hl] at hkl
    clear hks ho2
    obtain ⟨c, hc⟩ := cut_exists (seqs ks) hr f
    have hcl : c ≤ len := by have := hc.1; rw [seqs_len, hkl] at this; exact this
    obtain ⟨a2, c2, e2, hc2⟩ := hv2.len
    rw [hkl] at e2 hc2
    subst e2
    have B2 := Lib.hid (B1.out.trans (hb2.mono B1.out.size))
    have V2 := Lib.hid hv2
    have HR := Lib.hid hr
    have HOK := Lib.hid hok
    have HKL := Lib.hid hkl
    have HC := Lib.hid hc
    have HC2 := Lib.hid hc2
    have HL := Lib.hid hl
    have hwf : IntKind.i64.wrap f = f := IntWalk.i64_in _ (by omega)
    clear hb2 hv2 hr hok hkl hc hc2 hl Y1 B1
    go_wp2
    go_loopw [6, 7, 8] (fun u d i wr => ∃ k A B : Nat, k ≤ len ∧ A = k - c ∧ B = min 1 (min k c) ∧ i = .int .i64 k ∧ u = .int .i64 A ∧ d = .int .i64 B ∧ Below w2.heap.size w2 wr) (fun _ _ i _ => len - (intOf i).toNat)
    case atStart => exact ⟨0, 0, 0, Nat.zero_le _, by omega, by omega, rfl, rfl, rfl, Below.refl _ _⟩
    case round =>
      obtain ⟨k, A, B, hk, hA, hB, rfl, rfl, rfl, hbel⟩ := hrel
      by_cases hlt : k < len
      · obtain ⟨b1, o1, c1', u1, e1, hb1, -, hs1, -, -⟩ := V2.out.cell k (by rw [HKL.out]; exact hlt)
        injection e1 with e1 q1 q2
        subst e1
        clear q1 q2
        obtain ⟨s, hs⟩ : ∃ s, (ks.getD k (0, [])).1 = s := ⟨_, rfl⟩
        have hsq := seqs_get ks k (by rw [HKL.out]; exact hlt)
        rw [hs] at hs1 hsq
        have hcr : wr.cell? ⟨b1, o1 + k * 2, none⟩ = some (.int .i64 s) := by rw [hbel.cell hb1]; exact hs1
        have hltI : (k : Int) < len := by omega
        have hkI : (k : Int) ≤ 20 := by omega
        have hAI : (A : Int) ≤ 20 := by omega
        have hBI : (B : Int) ≤ 20 := by omega
        have BL := Lib.hid hbel
        clear hbel hs1 hs
        by_cases hkc : k < c
        · have h9 := HC.out.2.1 k hkc
          rw [hsq] at h9
          have hns : ¬ f < s := by omega
          clear h9 hsq
          go_wp2
          go_roundw
          case rel => exact ⟨k + 1, A, 1, by omega, by omega, by omega, by go_num, rfl, rfl, BL.out⟩
          case measure => simp [intOf]; omega
        · have h9 := HC.out.2.2 k (by omega) (by rw [seqs_len, HKL.out]; exact hlt)
          rw [hsq] at h9
          clear hsq
          go_wp2
          go_roundw
          case rel => exact ⟨k + 1, A + 1, B, by omega, by omega, by omega, by go_num, by go_num, rfl, BL.out⟩
          case measure => simp [intOf]; omega
      · obtain rfl : k = len := by omega
        have HA := Lib.hid hA
        have HBB := Lib.hid hB
        clear hA hB
        have hn1 : ¬ (k : Int) < k := by omega
        have BL := Lib.hid (B2.out.trans (hbel.mono B2.out.size))
        have V3 := Lib.hid (V2.out.below hbel)
        clear hbel
        go_wp2_with fail
        refine (prune_any _ _ ks f c V3.out HOK.out HR.out (by rw [HKL.out]; omega) HC.out).mono ?_
        rintro e w3 ⟨v3, rfl, ho3, hb3⟩
        have hv3 := ho3.vers
        obtain ⟨a3, c3, e3, -⟩ := hv3.len
        have hdl : (ks.drop (c - 1)).length = k - (c - 1) := by rw [List.length_drop, HKL.out]
        rw [hdl] at e3
        subst e3
        have B3 := Lib.hid (BL.out.trans (hb3.mono BL.out.size))
        have V4 := Lib.hid (V3.out.below hb3)
        have V5 := Lib.hid hv3
        clear ho3 hb3 hv3 hdl hlt hk
        have hA := HA.out
        have hB := HBB.out
        clear HA HBB
        by_cases hk0 : k = 0
        · subst hk0
          obtain rfl : c = 0 := by omega
          obtain rfl : A = 0 := by omega
          obtain rfl : B = 0 := by omega
          have hn : ks = [] := List.length_eq_zero_iff.1 HKL.out
          subst hn
          have hnone : a2 = none → c2 = 0 := by
            obtain ⟨rs, e, ⟨a', c', e1, -, h⟩, -⟩ := V4.out
            injection e1 with e1 e2 e3
            subst e1 e3
            obtain rfl := List.map_eq_nil_iff.1 e
            rcases h with ⟨-, h⟩ | ⟨b, off, h, -⟩
            · exact h
            · intro h2; rw [h2] at h; cases h
          have V5' : Hid (Vers w3 (.slice a3 0 c3) []) := Lib.hid V5.out
          rw [show 0 - (0 - 1) = 0 from rfl]
          clear V5
          rw [show ((0 : Nat) : Int) = 0 from rfl]
          clear hA hB hcl hn1
          rcases a2 with _ | x
          · obtain rfl := hnone rfl
            clear hnone
            go_wp2_with fail
            refine (same_any w3 _ _ [] V5'.out (Vers.nil _) (by simp)).mono ?_
            rintro e w4 ⟨rfl, hb4⟩
            have B4 := Lib.hid (B3.out.trans (hb4.mono B3.out.size))
            clear hb4
            go_wp2
            go_ret
            exact ⟨rfl, B4.out⟩
          · clear hnone
            go_wp2_with fail
            refine (same_any w3 _ _ [] V5'.out ⟨[], rfl, ⟨_, _, rfl, Nat.zero_le _, .inl ⟨rfl, fun h => by cases h⟩⟩, by simp⟩ (by simp)).mono ?_
            rintro e w4 ⟨rfl, hb4⟩
            have B4 := Lib.hid (B3.out.trans (hb4.mono B3.out.size))
            clear hb4
            go_wp2
            go_ret
            exact ⟨rfl, B4.out⟩
        · obtain ⟨b, off, c', u', e1, -, -, -, -, -⟩ := V4.out.cell 0 (by rw [HKL.out]; omega)
          injection e1 with e1 q1 q2
          subst e1
          clear q1 q2
          obtain ⟨D, hD⟩ : ∃ D, c - 1 = D := ⟨_, rfl⟩
          rw [hD] at V5 ⊢
          obtain ⟨P, hP⟩ : ∃ P, k - D = P := ⟨_, rfl⟩
          rw [hP] at V5 ⊢
          have hPI : (P : Int) = (A : Int) + B := by omega
          have hDI : (k : Int) - ((A : Int) + B) = D := by omega
          have hA0 : (A : Int) ≤ 20 := by omega
          have hB0 : (B : Int) ≤ 20 := by omega
          have hD1 : (D : Int) ≤ 20 := by omega
          have hDk : (D : Int) < k := by omega
          have hDc : ¬ D = c2 := by have := HC2.out; omega
          have hDc2 : ¬ c2 = D := by omega
          have hdrop := V4.out.drop b off D rfl (by rw [HKL.out]; omega)
          rw [hP] at hdrop
          have VD := Lib.hid hdrop
          have HP := Lib.hid hP
          clear hdrop hA hB hD hP hk0 hcl
          go_wp2_with fail
          rw [HP.out]
          have hln : (ks.drop D).length ≤ 1000000 := by rw [List.length_drop, HKL.out]; omega
          refine (same_any w3 _ _ (ks.drop D) V5.out VD.out hln).mono ?_
          rintro e w4 ⟨rfl, hb4⟩
          have B4 := Lib.hid (B3.out.trans (hb4.mono B3.out.size))
          clear hb4 hln
          go_wp2
          go_ret
          exact ⟨rfl, B4.out⟩
  · have h20I : (20 : Int) < len := by omega
    go_enter Try.func10, Try.ntmps10
    go_wp2_with fail
    refine (known_any w).mono ?_
    rintro e w1 ⟨rfl, hb1⟩
    have B1 := Lib.hid hb1
    clear hb1
    go_wp2
    go_ret
    exact ⟨rfl, B1.out⟩
end Go.Proofs.Ytnjmlkohgbbafaa.K
