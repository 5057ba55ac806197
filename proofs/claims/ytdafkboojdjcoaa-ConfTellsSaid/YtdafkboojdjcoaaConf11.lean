/- What the reference's Right returns: what the program's does. -/
import Derived.Test.YtdafkboojdjcoaaConf10
namespace Go.Proofs.Ytdafkboojdjcoaa.K
open Go.ChangeShapes Go.WideShapes Go.ChangeAt Go.RowKit Go.Sort
set_option linter.unusedVariables false

theorem adj_strict (l : List Int) (h : ∀ j, j < l.length → 0 < j → l.getD (j - 1) 0 < l.getD j 0) : l.Pairwise (· < ·) := by
  rw [List.pairwise_iff_getElem]
  have main : ∀ (d i : Nat) (hi : i + (d + 1) < l.length), l.getD i 0 < l.getD (i + (d + 1)) 0 := by
    intro d
    induction d with
    | zero => intro i hi; have := h (i + 1) hi (by omega); simpa using this
    | succ d ih =>
      intro i hi
      have h1 := ih i (by omega)
      have h2 := h (i + (d + 2)) hi (by omega)
      rw [show i + (d + 2) - 1 = i + (d + 1) by omega] at h2
      exact Int.lt_trans h1 h2
  intro i j hi hj hij
  have := main (j - i - 1) i (by omega)
  rw [show i + (j - i - 1 + 1) = j by omega] at this
  simpa [List.getD, hi, hj] using this

theorem right_canon (l : List Int) : rightB l = decide (0 < l.length ∧ canon l = l) := by
  unfold rightB
  rw [decide_eq_decide]
  constructor
  · rintro ⟨h0, h⟩
    refine ⟨h0, strict_ext _ _ (canon_strict l) (adj_strict l (fun j hj h1 => (h j hj).2 h1)) (fun x => ?_)⟩
    rw [canon_mem]
    constructor
    · exact fun h => h.1
    · intro hx
      obtain ⟨j, hj, rfl⟩ := List.getElem_of_mem hx
      have := (h j hj).1
      simp only [okB, decide_eq_true_eq, List.getD, List.getElem?_eq_getElem hj, Option.getD_some] at this
      exact ⟨hx, this⟩
  · rintro ⟨h0, h⟩
    refine ⟨h0, fun j hj => ⟨?_, fun h1 => ?_⟩⟩
    · have hm : l.getD j 0 ∈ canon l := by rw [h, List.getD, List.getElem?_eq_getElem hj]; exact List.getElem_mem hj
      have := (canon_mem l _).1 hm
      unfold okB; exact decide_eq_true this.2
    · have hp := canon_strict l
      rw [h, List.pairwise_iff_getElem] at hp
      have := hp (j - 1) j (by omega) hj (by omega)
      simpa [List.getD, hj, show j - 1 < l.length by omega] using this

set_option maxRecDepth 100000 in
set_option maxHeartbeats 2000000 in
theorem rright_is (v : Value) (l : List Int) (w : World) (hv : IsNums .i64 w v l) (hl : l.length ≤ 900) (r : Bool) (hr : rightB l = r) :
    Calls Try.prog 19 #[v] w fun e w' => e = .returned (.bool r) ∧ Below w.heap.size w w' := by
  obtain ⟨p, c, rfl, -⟩ := id hv
  rw [right_canon] at hr
  have H := Lib.hid hv
  have HR := Lib.hid hr
  clear hv hr
  have hn := canon_len l
  obtain ⟨O, hOO⟩ : ∃ O, canon l = O := ⟨_, rfl⟩
  have HOO := Lib.hid hOO
  rw [hOO] at hn
  clear hOO
  obtain ⟨m, hm⟩ : ∃ m, O.length = m := ⟨_, rfl⟩
  have HM := Lib.hid hm
  rw [hm] at hn
  obtain ⟨n, hn0⟩ : ∃ n, l.length = n := ⟨_, rfl⟩
  have HL := Lib.hid hn0
  rw [hn0] at hl ⊢
  have H := Lib.hid (by have h := H.out; rw [hn0] at h; exact h : IsNums .i64 w (.slice p n c) l)
  clear hn0
  by_cases q : n = 0 ∨ m ≠ n
  · have hf : r = false := by
      rw [← HR.out, HOO.out, HL.out, decide_eq_false_iff_not]
      rintro ⟨h1, h2⟩
      rcases q with h | h
      · omega
      · exact h (by rw [← HM.out, h2, HL.out])
    subst hf
    go_enter Try.func19, Try.ntmps19
    go_wp2_with fail
    refine (rof_is _ l _ H.out (by rw [HL.out]; omega) O m HOO.out hm).mono ?_
    rintro e w1 ⟨pu, cu, rfl, hO, hb⟩
    by_cases q1 : n = 0
    · go_wp2
      go_ret
      exact ⟨rfl, hb⟩
    · have q2 : ((n : Int) == 0) = false := by rw [beq_eq_false_iff_ne]; omega
      have q3 : ((m : Int) == (n : Int)) = false := by rw [beq_eq_false_iff_ne]; omega
      go_wp2
      go_ret
      exact ⟨rfl, hb⟩
  obtain rfl : m = n := by omega
  have q1 : ((m : Int) == 0) = false := by rw [beq_eq_false_iff_ne]; omega
  have q2 : 0 < m := by omega
  clear q
  go_enter Try.func19, Try.ntmps19
  go_wp2_with fail
  refine (rof_is _ l _ H.out (by rw [HL.out]; omega) O m HOO.out hm).mono ?_
  rintro e w1 ⟨pu, cu, rfl, hO, hb⟩
  have hz := hb.size
  have HO := Lib.hid hO
  have H1 := Lib.hid (H.out.below hb (Nat.le_refl _))
  clear hO hm
  go_wp2
  go_loopw [4] (fun i wr => ∃ k : Nat, k ≤ m ∧ i = .int .i64 k ∧ l.take k = O.take k ∧ Below w1.heap.size w1 wr) (fun i _ => m - (intOf i).toNat)
  case atStart => exact ⟨0, Nat.zero_le _, rfl, rfl, Below.refl _ _⟩
  case round =>
    obtain ⟨k, hk, rfl, hpre, hbel⟩ := hrel
    have HP := Lib.hid hpre
    clear hpre
    by_cases hlt : k < m
    · obtain ⟨a0, c0, hv0, hA0⟩ := H1.out
      simp only [Value.slice.injEq] at hv0
      obtain ⟨rfl, -, rfl⟩ := hv0
      obtain h | ⟨b0, off0, rfl, hblk0, hcell0⟩ := hA0
      · have := HL.out; omega
      obtain ⟨a1, c1, hv1, hA1⟩ := HO.out
      simp only [Value.slice.injEq] at hv1
      obtain ⟨rfl, -, rfl⟩ := hv1
      obtain h | ⟨b1, off1, rfl, hblk1, hcell1⟩ := hA1
      · have := HM.out; omega
      have hka : k < l.length := by rw [HL.out]; exact hlt
      have hkb : k < O.length := by rw [HM.out]; exact hlt
      have k0 : wr.cell? ⟨b0, off0 + k, none⟩ = some (.int .i64 (l.getD k 0)) := by rw [hbel.cell hblk0]; exact hcell0 k hka
      have k1 : wr.cell? ⟨b1, off1 + k, none⟩ = some (.int .i64 (O.getD k 0)) := by rw [hbel.cell hblk1]; exact hcell1 k hkb
      obtain ⟨x, hx⟩ : ∃ x, l.getD k 0 = x := ⟨_, rfl⟩
      obtain ⟨y, hy⟩ : ∃ y, O.getD k 0 = y := ⟨_, rfl⟩
      rw [hx] at k0
      rw [hy] at k1
      have HX := Lib.hid hx
      have HY := Lib.hid hy
      have hki : (k : Int) < (m : Int) := by omega
      have HKA := Lib.hid hka
      have HKB := Lib.hid hkb
      clear hcell0 hcell1 hx hy hka hkb
      by_cases he : x = y
      · have hq : (x == y) = true := by simpa using he
        have hnx : l.take (k + 1) = O.take (k + 1) := by
          rw [List.take_succ_eq_append_getElem HKA.out, List.take_succ_eq_append_getElem HKB.out, HP.out]
          have e1 := HX.out
          have e2 := HY.out
          simp only [List.getD, List.getElem?_eq_getElem HKA.out, Option.getD_some] at e1
          simp only [List.getD, List.getElem?_eq_getElem HKB.out, Option.getD_some] at e2
          rw [e1, e2, he]
        have HN := Lib.hid hnx
        clear hnx he
        go_wp2
        go_quiet (fail)
        go_wp2
        go_roundw
        case rel => exact ⟨k + 1, by omega, by go_num, HN.out, below_drewN hbel _⟩
        case measure => simp [intOf]; omega
      · have hq : (x == y) = false := by simpa using he
        have hf : r = false := by
          rw [← HR.out, HOO.out, decide_eq_false_iff_not]
          rintro ⟨-, h2⟩
          apply he
          rw [← HX.out, ← HY.out, h2]
        subst hf
        clear he
        go_wp2
        go_quiet (fail)
        go_wp2
        go_ret
        exact ⟨rfl, hb.trans ((below_drewN hbel _).mono hz)⟩
    · obtain rfl : k = m := by omega
      have ht : r = true := by
        rw [← HR.out, HOO.out, decide_eq_true_eq]
        refine ⟨by rw [HL.out]; exact q2, ?_⟩
        have h1 := HP.out
        rw [← HL.out, List.take_length, HL.out, ← HM.out, List.take_length] at h1
        exact h1.symm
      subst ht
      go_wp2
      go_ret
      exact ⟨rfl, hb.trans (hbel.mono hz)⟩
end Go.Proofs.Ytdafkboojdjcoaa.K
