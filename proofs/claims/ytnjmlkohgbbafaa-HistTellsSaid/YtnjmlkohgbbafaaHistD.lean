/- mementoref13's Changed, At. -/
import Derived.Test.YtnjmlkohgbbafaaHistC
namespace Go.Proofs.Ytnjmlkohgbbafaa.K
open Go.ChangeShapes Go.WideShapes Go.ChangeAt Go.RowKit
set_option linter.unusedVariables false

set_option maxRecDepth 100000 in
set_option maxHeartbeats 1000000 in
theorem ref_changed (w : World) (v : Value) (ks : List (Int × List Int)) (f t : Int) (n : Nat) (hv : Vers w v ks) (hr : Rising (seqs ks)) (hn : ks.length ≤ 1000000) (hc : Cut (seqs ks) f n) :
    Calls Try.prog 34 #[v, .int .i64 f, .int .i64 t] w fun e w' => e = .returned (.bool (decide (n < ks.length ∧ (seqs ks).getD n 0 ≤ t))) ∧ Below w.heap.size w w' := by
  obtain ⟨a1, c1, rfl, hc1⟩ := hv.len
  have HV := Lib.hid hv
  have HR := Lib.hid hr
  have HC := Lib.hid hc
  clear hv hr hc
  obtain ⟨bb, hbb⟩ : ∃ bb, decide (n < ks.length ∧ (seqs ks).getD n 0 ≤ t) = bb := ⟨_, rfl⟩
  rw [hbb]
  have QB := Lib.hid hbb
  clear hbb
  go_enter Try.func34, Try.ntmps34
  go_wp2
  go_loopw [7] (fun i wr => ∃ k : Nat, k ≤ ks.length ∧ (∀ j, j < k → ¬ (f < (seqs ks).getD j 0 ∧ (seqs ks).getD j 0 ≤ t)) ∧ i = .int .i64 k ∧ Below w.heap.size w wr) (fun i _ => ks.length - (intOf i).toNat)
  case atStart => exact ⟨0, Nat.zero_le _, fun j hj => absurd hj (Nat.not_lt_zero _), rfl, Below.refl _ _⟩
  case round =>
    obtain ⟨k, hk, hinv, rfl, hbel⟩ := hrel
    have HI := Lib.hid hinv
    clear hinv
    by_cases hlt : k < ks.length
    · obtain ⟨b1, o1, c1', u1, e1, hb1, -, hs1, -, -⟩ := HV.out.cell k hlt
      injection e1 with e1 q1 q2
      subst e1
      clear q1 q2
      have hsq := seqs_get ks k hlt
      obtain ⟨s, hs⟩ : ∃ s, (ks.getD k (0, [])).1 = s := ⟨_, rfl⟩
      rw [hs] at hs1 hsq
      have hcr : wr.cell? ⟨b1, o1 + k * 2, none⟩ = some (.int .i64 s) := by rw [hbel.cell hb1]; exact hs1
      have HSQ := Lib.hid hsq
      have BL := Lib.hid hbel
      have hkI : (k : Int) < ks.length := by omega
      have hkM : (k : Int) ≤ 1000000 := by omega
      clear hs1 hs hsq hbel
      by_cases h1 : f < s
      · by_cases h2 : s ≤ t
        · obtain rfl : bb = true := by
            rw [← QB.out]
            have hnk : n ≤ k := by
              rcases Nat.lt_or_ge k n with h | h
              · have := HC.out.2.1 k h; rw [HSQ.out] at this; omega
              · exact h
            have hle : (seqs ks).getD n 0 ≤ (seqs ks).getD k 0 := by
              by_cases e : n = k
              · rw [e]; exact Int.le_refl _
              · have := HR.out n k (by omega) (by rw [seqs_len]; exact hlt); omega
            rw [HSQ.out] at hle
            simp only [decide_eq_true_eq]
            exact ⟨by omega, by omega⟩
          go_wp2
          go_ret
          exact ⟨rfl, BL.out⟩
        · have HS2 := Lib.hid h2
          go_wp2
          go_roundw
          case rel => exact ⟨k + 1, by omega, fun j hj => (by
            by_cases e : j = k
            · rw [e, HSQ.out]; exact fun h => HS2.out h.2
            · exact HI.out j (by omega)), by go_num, BL.out⟩
          case measure => simp [intOf]; omega
      · have HS2 := Lib.hid h1
        go_wp2
        go_roundw
        case rel => exact ⟨k + 1, by omega, fun j hj => (by
          by_cases e : j = k
          · rw [e, HSQ.out]; exact fun h => HS2.out h.1
          · exact HI.out j (by omega)), by go_num, BL.out⟩
        case measure => simp [intOf]; omega
    · obtain rfl : k = ks.length := by omega
      obtain rfl : bb = false := by
        rw [← QB.out]
        simp only [decide_eq_false_iff_not]
        rintro ⟨ha, hb⟩
        exact HI.out n ha ⟨HC.out.2.2 n (Nat.le_refl _) (by rw [seqs_len]; exact ha), hb⟩
      go_wp2
      go_ret
      exact ⟨rfl, hbel⟩

set_option maxRecDepth 100000 in
set_option maxHeartbeats 1000000 in
theorem ref_at_none (w : World) (v : Value) (ks : List (Int × List Int)) (t : Int) (hv : Vers w v ks) (hn : ks.length ≤ 1000000) (hc : Cut (seqs ks) t 0) :
    Calls Try.prog 27 #[v, .int .i64 t] w fun e w' => e = .returned (.tuple #[.slice none 0 0, .bool false]) ∧ Below w.heap.size w w' := by
  obtain ⟨a1, c1, rfl, hc1⟩ := hv.len
  have HV := Lib.hid hv
  have HC := Lib.hid hc
  clear hv hc
  have hnI : (ks.length : Int) ≤ 1000000 := by omega
  go_enter Try.func27, Try.ntmps27
  go_wp2
  go_loopw [6] (fun i wr => ∃ k : Nat, k ≤ ks.length ∧ i = .int .i64 ((k : Int) - 1) ∧ Below w.heap.size w wr) (fun i _ => (intOf i + 1).toNat)
  case atStart => exact ⟨ks.length, Nat.le_refl _, by go_num, Below.refl _ _⟩
  case round =>
    obtain ⟨k, hk, rfl, hbel⟩ := hrel
    rcases k with _ | k
    · rw [show (((0 : Nat) : Int) - 1) = -1 from rfl]
      go_wp2
      go_ret2
      exact ⟨rfl, hbel⟩
    · rw [show (((k + 1 : Nat) : Int) - 1) = k by omega]
      have hlt : k < ks.length := hk
      obtain ⟨b1, o1, c1', u1, e1, hb1, -, hs1, -, -⟩ := HV.out.cell k hlt
      injection e1 with e1 q1 q2
      subst e1
      clear q1 q2
      have hsq := seqs_get ks k hlt
      obtain ⟨s, hs⟩ : ∃ s, (ks.getD k (0, [])).1 = s := ⟨_, rfl⟩
      rw [hs] at hs1 hsq
      have hcr : wr.cell? ⟨b1, o1 + k * 2, none⟩ = some (.int .i64 s) := by rw [hbel.cell hb1]; exact hs1
      have h9 := HC.out.2.2 k (Nat.zero_le _) (by rw [seqs_len]; exact hlt)
      rw [hsq] at h9
      have hle : ¬ s ≤ t := by omega
      have BL := Lib.hid hbel
      have hkI : (k : Int) < ks.length := by omega
      have hk0 : (0 : Int) ≤ k := by omega
      have hkM : (k : Int) ≤ 1000000 := by omega
      clear hs1 hs hsq hbel h9
      go_wp2
      go_roundw
      case rel => exact ⟨k, by omega, by go_num, BL.out⟩
      case measure => simp [intOf] <;> omega

def RefAtPost (w : World) (d : List Int) (e : Ending) (w' : World) : Prop := ∃ u, e = .returned (.tuple #[u, .bool true]) ∧ IsNums .u8 w' u d ∧ Below w.heap.size w w'
set_option maxRecDepth 100000 in
set_option maxHeartbeats 1000000 in
theorem ref_at_some (w : World) (v : Value) (ks : List (Int × List Int)) (t : Int) (m : Nat) (hv : Vers w v ks) (hn : ks.length ≤ 1000000) (hc : Cut (seqs ks) t (m + 1)) :
    Calls Try.prog 27 #[v, .int .i64 t] w (RefAtPost w (ks.getD m (0, [])).2) := by
  obtain ⟨a1, c1, rfl, hc1⟩ := hv.len
  have hml : m + 1 ≤ ks.length := by have := hc.1; rwa [seqs_len] at this
  have HV := Lib.hid hv
  have HC := Lib.hid hc
  clear hv hc
  have hnI : (ks.length : Int) ≤ 1000000 := by omega
  go_enter Try.func27, Try.ntmps27
  go_wp2
  go_loopw [6] (fun i wr => ∃ k : Nat, m ≤ k ∧ k < ks.length ∧ i = .int .i64 k ∧ Below w.heap.size w wr) (fun i _ => (intOf i + 1).toNat)
  case atStart => exact ⟨ks.length - 1, by omega, by omega, by go_num, Below.refl _ _⟩
  case round =>
    obtain ⟨k, hmk, hlt, rfl, hbel⟩ := hrel
    obtain ⟨b1, o1, c1', u1, e1, hb1, -, hs1, hd1, hn1⟩ := HV.out.cell k hlt
    injection e1 with e1 q1 q2
    subst e1
    clear q1 q2
    have hsq := seqs_get ks k hlt
    obtain ⟨s, hs⟩ : ∃ s, (ks.getD k (0, [])).1 = s := ⟨_, rfl⟩
    obtain ⟨dd, hdd⟩ : ∃ dd, (ks.getD k (0, [])).2 = dd := ⟨_, rfl⟩
    rw [hs] at hs1 hsq
    rw [hdd] at hn1
    have DD := Lib.hid hdd
    have hcr : wr.cell? ⟨b1, o1 + k * 2, none⟩ = some (.int .i64 s) := by rw [hbel.cell hb1]; exact hs1
    have hdr : wr.cell? ⟨b1, o1 + k * 2 + 1, none⟩ = some u1 := by rw [hbel.cell hb1]; exact hd1
    have hnr := hn1.below hbel (Nat.le_refl _)
    obtain ⟨pu, cu, rfl, -⟩ := id hnr
    have BL := Lib.hid hbel
    have NR := Lib.hid hnr
    have hkI : (k : Int) < ks.length := by omega
    have hk0 : (0 : Int) ≤ k := by omega
    have hkM : (k : Int) ≤ 1000000 := by omega
    clear hs1 hs hdd hd1 hn1 hnr hbel
    by_cases e : k = m
    · have h9 := HC.out.2.1 k (by omega)
      rw [hsq] at h9
      clear hsq
      have NE := Lib.hid e
      clear e hmk
      go_wp2
      go_ret2
      exact ⟨_, rfl, by rw [← NE.out, DD.out]; exact NR.out, BL.out⟩
    · have h9 := HC.out.2.2 k (by omega) (by rw [seqs_len]; exact hlt)
      rw [hsq] at h9
      have hle : ¬ s ≤ t := by omega
      clear hsq h9
      have hk1 : 1 ≤ k := by omega
      go_wp2
      go_roundw
      case rel => exact ⟨k - 1, by omega, by omega, by go_num, BL.out⟩
      case measure => simp [intOf] <;> omega
end Go.Proofs.Ytnjmlkohgbbafaa.K
