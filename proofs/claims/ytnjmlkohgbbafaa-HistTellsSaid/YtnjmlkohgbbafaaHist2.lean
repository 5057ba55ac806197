/- hist.upTo: sort.Search over versions in order. -/
import Derived.Test.YtnjmlkohgbbafaaHist1
import Derived.Deep.QuietTactic
import Derived.BigQuiet
import Derived.Outline
namespace Go.Proofs.Ytnjmlkohgbbafaa.K
open Go.ChangeShapes Go.WideShapes Go.ChangeAt Go.RowKit
set_option linter.unusedVariables false

/-- How many of numbers in order are at most t. -/
def Cut (ss : List Int) (t : Int) (c : Nat) : Prop := c ≤ ss.length ∧ (∀ i, i < c → ss.getD i 0 ≤ t) ∧ ∀ i, c ≤ i → i < ss.length → t < ss.getD i 0
def Rising (ss : List Int) : Prop := ∀ i j, i < j → j < ss.length → ss.getD i 0 < ss.getD j 0
theorem Cut.unique {ss : List Int} {t : Int} {c d : Nat} (h : Cut ss t c) (k : Cut ss t d) : c = d := by
  rcases Nat.lt_trichotomy c d with h1 | h1 | h1
  · have a := k.2.1 c h1
    have b := h.2.2 c (Nat.le_refl _) (Nat.lt_of_lt_of_le h1 k.1)
    omega
  · exact h1
  · have a := h.2.1 d h1
    have b := k.2.2 d (Nat.le_refl _) (Nat.lt_of_lt_of_le h1 h.1)
    omega

theorem later_any (w : World) (b off n c L T k : Nat) (t s : Int) (hL : w.cell? ⟨L, 0, none⟩ = some (.slice (some ⟨b, off, none⟩) n c)) (hT : w.cell? ⟨T, 0, none⟩ = some (.int .i64 t)) (hs : w.cell? ⟨b, off + k * 2, none⟩ = some (.int .i64 s)) (hk : k < n) :
    Calls Try.prog 56 #[.int .i64 k, .pointer (some ⟨L, 0, none⟩), .pointer (some ⟨T, 0, none⟩)] w fun e w' => e = .returned (.bool (decide (t < s))) ∧ Below w.heap.size w w' := by
  have hk0 : (0 : Int) ≤ k := by omega
  have hk1 : (k : Int) < n := by omega
  go_enter Try.func56, Try.ntmps56
  go_wp2_with fail
  go_quiet (fail)
  go_wp2
  go_ret
  exact ⟨rfl, ⟨rfl, rfl, rfl, Nat.le_refl _, fun _ _ => rfl⟩⟩

def SearchPost (w : World) (ss : List Int) (t : Int) (e : Ending) (w' : World) : Prop := ∃ c : Nat, Cut ss t c ∧ e = .returned (.int .i64 c) ∧ Below w.heap.size w w'

set_option maxRecDepth 100000 in
set_option maxHeartbeats 1000000 in
theorem search_any (w : World) (b off c L T : Nat) (ss : List Int) (t : Int) (hL : w.cell? ⟨L, 0, none⟩ = some (.slice (some ⟨b, off, none⟩) ss.length c)) (hT : w.cell? ⟨T, 0, none⟩ = some (.int .i64 t)) (hs : ∀ k, k < ss.length → w.cell? ⟨b, off + k * 2, none⟩ = some (.int .i64 (ss.getD k 0))) (hr : Rising ss) (hn : ss.length ≤ 1000000) :
    Calls Try.prog 55 #[.int .i64 ss.length, .func (Fn.func 56) #[] #[.pointer (some ⟨L, 0, none⟩), .pointer (some ⟨T, 0, none⟩)]] w (SearchPost w ss t) := by
  have HL := Lib.hid hL
  have HT := Lib.hid hT
  have HSS := Lib.hid hs
  have HR := Lib.hid hr
  have hlL := World.block_lt_of_cell? w _ hL
  have hlT := World.block_lt_of_cell? w _ hT
  clear hL hT hs hr
  go_enter Try.func55, Try.ntmps55
  go_wp2
  go_loopw [5, 6] (fun i j wr => ∃ p q : Nat, p ≤ q ∧ q ≤ ss.length ∧ i = .int .i64 p ∧ j = .int .i64 q ∧ (∀ x, x < p → ss.getD x 0 ≤ t) ∧ (∀ x, q ≤ x → x < ss.length → t < ss.getD x 0) ∧ Below w.heap.size w wr) (fun i j _ => ((intOf j) - (intOf i)).toNat)
  case atStart => exact ⟨0, ss.length, by omega, by omega, rfl, rfl, fun x hx => absurd hx (by omega), fun x h1 h2 => absurd h2 (by omega), Below.refl _ _⟩
  case round =>
    obtain ⟨p, q, hpq, hqn, rfl, rfl, hlo, hhi, hb⟩ := hrel
    by_cases hlt : p < q
    · have h1 : (p : Int) < q := by omega
      have h2 : (q : Int) ≤ 1000000 := by omega
      obtain ⟨m, hm⟩ : ∃ m, (p + q) / 2 = m := ⟨_, rfl⟩
      have hmp : p ≤ m ∧ m < q := by omega
      have e : ((p : Int) + (q : Int)) / 2 = (m : Int) := by omega
      have HLO := Lib.hid hlo
      have HHI := Lib.hid hhi
      have HB := Lib.hid hb
      have hm1 := hmp.1
      have hm2 := hmp.2
      have hm3 : (m : Int) ≤ 1000000 := by omega
      clear hlo hhi hb hm hmp
      go_wp2_with fail
      refine (later_any wr b off ss.length c L T m t (ss.getD m 0) ?_ ?_ ?_ (by omega)).mono ?_
      · rw [HB.out.cell hlL]; exact HL.out
      · rw [HB.out.cell hlT]; exact HT.out
      · have := HSS.out m (by omega)
        rw [HB.out.cell (World.block_lt_of_cell? w _ this)]; exact this
      rintro e w3 ⟨rfl, hb3⟩
      have HB3 := Lib.hid (HB.out.trans (hb3.mono HB.out.size))
      clear hb3
      by_cases ht : t < ss.getD m 0
      · have hd : decide (t < ss.getD m 0) = true := decide_eq_true ht
        rw [hd]
        have HTT := Lib.hid ht
        clear hd ht
        go_wp2
        go_roundw
        case rel =>
          refine ⟨p, m, by omega, by omega, rfl, rfl, HLO.out, fun x hx1 hx2 => ?_, HB3.out⟩
          by_cases hxm : x = m
          · subst hxm; exact HTT.out
          · have h7 := HR.out m x (by omega) hx2
            have h8 := HTT.out
            omega
        case measure => simp [intOf]; omega
      · have hd : decide (t < ss.getD m 0) = false := decide_eq_false ht
        rw [hd]
        have HTT := Lib.hid ht
        clear hd ht
        go_wp2
        go_roundw
        case rel =>
          refine ⟨m + 1, q, by omega, by omega, by go_num, rfl, fun x hx => ?_, HHI.out, HB3.out⟩
          have h8 := HTT.out
          by_cases hxm : x = m
          · subst hxm; omega
          · have h7 := HR.out x m (by omega) (by omega)
            omega
        case measure => simp [intOf]; omega
    · obtain rfl : p = q := by omega
      go_wp2
      go_ret
      exact ⟨p, ⟨hqn, hlo, hhi⟩, rfl, hb⟩

theorem search_none (w : World) (F : Value) : Calls Try.prog 55 #[.int .i64 0, F] w fun e w' => e = .returned (.int .i64 0) ∧ Below w.heap.size w w' := by
  go_enter Try.func55, Try.ntmps55
  go_wp2
  go_loopw [5, 6] (fun i j wr => i = .int .i64 0 ∧ j = .int .i64 0 ∧ Below w.heap.size w wr) (fun i j _ => 0)
  case atStart => exact ⟨rfl, rfl, Below.refl _ _⟩
  case round =>
    obtain ⟨rfl, rfl, hb⟩ := hrel
    go_wp2
    go_ret
    exact ⟨rfl, hb⟩

set_option maxRecDepth 100000 in
set_option maxHeartbeats 1000000 in
theorem upto_any (w : World) (v : Value) (ks : List (Int × List Int)) (t : Int) (hv : Vers w v ks) (hr : Rising (ks.map (·.1))) (hn : ks.length ≤ 1000000) :
    Calls Try.prog 51 #[v, .int .i64 t] w (SearchPost w (ks.map (·.1)) t) := by
  obtain ⟨rs, rfl, ⟨a, c, rfl, hc, hrows⟩, -⟩ := hv
  rw [List.length_map] at hn
  have hlen : (List.map (·.1) (List.map VR.key rs)).length = rs.length := by simp
  obtain ⟨ss, hss⟩ : ∃ ss, List.map (·.1) (List.map VR.key rs) = ss := ⟨_, rfl⟩
  rw [hss] at hr hlen ⊢
  have HLEN := Lib.hid hlen
  have HR := Lib.hid hr
  have HW := Lib.hid hrows
  have HSS := Lib.hid hss
  clear hr hrows hss hlen
  go_enter Try.func51, Try.ntmps51
  go_wp2_with fail
  by_cases h0 : rs.length = 0
  · have hn0 : ((rs.length : Nat) : Int) = 0 := by omega
    have hcall := search_none ((w.alloc (.cells #[.slice a rs.length c] 41)).alloc (.cells #[.int .i64 t] 2)) (.func (Fn.func 56) #[] #[.pointer (some ⟨w.heap.size, 0, none⟩), .pointer (some ⟨w.heap.size + 1, 0, none⟩)])
    rw [← hn0] at hcall
    refine hcall.mono ?_
    rintro e w3 ⟨rfl, hb3⟩
    rw [hn0]
    have HB3 := Lib.hid ((((Below.refl _ w).alloc (Nat.le_refl _) _).alloc (by simp) _).trans (hb3.mono (by simp; omega)))
    have hs0 : ss = [] := List.length_eq_zero_iff.1 (by rw [HLEN.out]; exact h0)
    subst hs0
    clear hb3 hcall hn0
    go_wp2
    go_ret
    exact ⟨0, ⟨Nat.le_refl _, fun i hi => absurd hi (by omega), fun i _ hi => absurd hi (by simp)⟩, rfl, HB3.out⟩
  · obtain ⟨h, -⟩ | ⟨b, off, rfl, hblt, hrow⟩ := HW.out
    · exact absurd h h0
    have hss0 : ∀ k, k < ss.length → ((w.alloc (.cells #[.slice (some ⟨b, off, none⟩) rs.length c] 41)).alloc (.cells #[.int .i64 t] 2)).cell? ⟨b, off + k * 2, none⟩ = some (.int .i64 (ss.getD k 0)) := fun k hk => by
      rw [HLEN.out] at hk
      have h1 := hrow k hk 0 (.int .i64 (rs.getD k ⟨0, [], .slice none 0 0⟩).seq) rfl
      rw [Nat.add_zero] at h1
      have h2 : ss.getD k 0 = (rs.getD k ⟨0, [], .slice none 0 0⟩).seq := by
        rw [← HSS.out]
        simp [List.getD, hk, VR.key]
      have hb : Below w.heap.size w ((w.alloc (.cells #[.slice (some ⟨b, off, none⟩) rs.length c] 41)).alloc (.cells #[.int .i64 t] 2)) := ((Below.refl _ w).alloc (Nat.le_refl _) _).alloc (by simp) _
      rw [hb.cell hblt, h2]
      exact h1
    have hz : (w.alloc (.cells #[.slice (some ⟨b, off, none⟩) rs.length c] 41)).heap.size = w.heap.size + 1 := by simp
    have hL : ((w.alloc (.cells #[.slice (some ⟨b, off, none⟩) rs.length c] 41)).alloc (.cells #[.int .i64 t] 2)).cell? ⟨w.heap.size, 0, none⟩ = some (.slice (some ⟨b, off, none⟩) ss.length c) := by
      rw [HLEN.out]
      have h1 := (Blk.alloc w 41 #[.slice (some ⟨b, off, none⟩) rs.length c])
      exact (h1.below ((Below.refl _ _).alloc (Nat.le_refl _) _) h1.lt).cell 0
    have hT : ((w.alloc (.cells #[.slice (some ⟨b, off, none⟩) rs.length c] 41)).alloc (.cells #[.int .i64 t] 2)).cell? ⟨w.heap.size + 1, 0, none⟩ = some (.int .i64 t) := by
      have h1 := Blk.alloc (w.alloc (.cells #[.slice (some ⟨b, off, none⟩) rs.length c] 41)) 2 #[.int .i64 t]
      rw [hz] at h1
      exact h1.cell 0
    have hcall := search_any _ b off c w.heap.size (w.heap.size + 1) ss t hL hT hss0 HR.out (by rw [HLEN.out]; exact hn)
    rw [HLEN.out] at hcall
    refine hcall.mono ?_
    rintro e w3 ⟨cc, hcut, rfl, hb3⟩
    have HC := Lib.hid hcut
    have HB3 := Lib.hid ((((Below.refl _ w).alloc (Nat.le_refl _) _).alloc (by simp) _).trans (hb3.mono (by simp; omega)))
    clear hcut hb3 hss0 hL hT hcall hz
    go_wp2
    go_ret
    exact ⟨cc, HC.out, rfl, HB3.out⟩
end Go.Proofs.Ytnjmlkohgbbafaa.K
