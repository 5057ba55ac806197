/- What the reference's Lump and its reader's Lump return. -/
import Derived.Test.YtkfcpnmdmoeioaaPackGR1
namespace Go.Proofs.Ytkfcpnmdmoeioaa.K
open Go.ChangeShapes Go.WideShapes Go.ChangeAt Go.RowKit
set_option linter.unusedVariables false

theorem SameB.shift (p a' : Option Addr) (m c m' c' : Nat) {n : Nat} : (a' = p ∨ a' = p.map fun x => x.add n) → SameB (.slice p m c) (.slice a' m' c') := by
  rintro (rfl | rfl) g hg
  · cases a' with
    | none => simp [Value.ownBlock] at hg
    | some x => exact hg
  · cases p with
    | none => simp [Value.ownBlock] at hg
    | some x =>
      by_cases h0 : n = 0
      · subst h0; simpa [Value.ownBlock, Addr.add] using hg
      · simpa [Value.ownBlock, Addr.add, h0] using hg
def RLumpPost (w : World) (B : Nat) (v : Value) (r : List Int × List Int × Int) (en : Ending) (w' : World) : Prop :=
  ∃ p c, en = .returned (.slice p r.1.length c) ∧ NumsLt B .u8 w' (.slice p r.1.length c) r.1 ∧ ∃ v', IsReader w' B v' r.2.1 r.2.2 ∧ Only B w w' ∧ SameB v v' ∧ SameB v (.slice p r.1.length c)

set_option maxHeartbeats 1000000 in
theorem rflump_any (v : Value) (bs : List Int) (w : World) (h : IsNums .u8 w v bs) (hl : bs.length ≤ 100000) :
    Calls Try.prog 32 #[v] w fun en w' => ∃ u, en = .returned u ∧ w'.ownsRow w.heap.size 5 1 u (enc bs.length ++ bs).length ((enc bs.length ++ bs).map (Value.int .u8)) ∧ Below w.heap.size w w' := by
  obtain ⟨p, c, rfl, -⟩ := id h
  have H := Lib.hid h
  clear h
  go_enter Try.func32, Try.ntmps32
  go_wp2_with fail
  refine (rput_any _ [(bs.length : Int)] _ (IsNums.lit .u64 w [(bs.length : Int)] _ _ _ _ rfl rfl) (by intro j hj; simp at hj; subst hj; simp; omega) (by simp)).mono ?_
  rintro en w2 ⟨u, rfl, hown, hb1⟩
  have hb2 : Below w.heap.size w w2 := ((Below.refl _ w).alloc (Nat.le_refl _) _).trans (hb1.mono (by simp))
  rw [show encs [(bs.length : Int)] = enc bs.length by simp [encs]] at hown
  have hown2 := ownsRow_base (B' := w.heap.size) hown (by simp)
  have hel := (enc_len (bs.length : Int)).1
  have H2 := Lib.hid (H.out.below hb2 (Nat.le_refl _))
  have hz := hb2.size
  clear hb1 hown
  go_wp2_with (at_builtin; refine wpList_appN rfl _ _ 22 rfl w.heap.size 5 .u8 1 Try.underlying22 info_u8 (by omega) _ _ _ rfl hown2 _ bs rfl H2.out (by omega) hz ?_; intro v' w' hown' hb')
  go_ret
  refine ⟨_, rfl, ?_, hb2.trans hb'⟩
  rw [List.length_append, List.map_append]
  exact hown'


set_option maxRecDepth 100000 in
set_option maxHeartbeats 2000000 in
theorem rrlump_any (B : Nat) (v : Value) (bs : List Int) (e most : Int) (w : World) (h : IsReader w B v bs e) (m0 : -9223372036854775808 ≤ most) (m1 : most ≤ 9223372036854775807) (hl : bs.length ≤ 100000) :
    Calls Try.prog 46 #[.pointer (some ⟨B, 0, none⟩), .int .i64 most] w fun en w' => RLumpPost w B v (lumpR bs e most) en w' := by
  have hres : lumpR bs e most = if (numR bs e (max most 0)).2.2 = 0 then
    if ((numR bs e (max most 0)).2.1.length : Int) < (numR bs e (max most 0)).1 then ([], [], 21)
    else ((numR bs e (max most 0)).2.1.take (numR bs e (max most 0)).1.toNat, (numR bs e (max most 0)).2.1.drop (numR bs e (max most 0)).1.toNat, 0)
    else ([], (numR bs e (max most 0)).2.1, (numR bs e (max most 0)).2.2) := rfl
  obtain ⟨M, hM⟩ : ∃ M : Int, max most 0 = M := ⟨_, rfl⟩
  rw [hM] at hres
  have hnum := rnum_any B v bs e M w h (by omega)
  have hbd := numR_bd bs e M h.2.2.2.2.2
  obtain ⟨n, hn⟩ : ∃ n : Nat, (numR bs e M).1 = n := ⟨(numR bs e M).1.toNat, by omega⟩
  rw [hn] at hres hnum hbd
  have hll : (numR bs e M).2.1.length ≤ 100000 := by
    unfold numR
    split
    · split
      · simp
      · split
        · simp
        · simp; omega
    · exact hl
  generalize (numR bs e M).2.1 = bs1 at hres hnum hll
  generalize (numR bs e M).2.2 = e1 at hres hnum
  rw [Int.toNat_natCast] at hres
  have hM2 : (most < 0 ∧ M = 0) ∨ (0 ≤ most ∧ most = M) := by omega
  have HN := Lib.hid hnum
  have HR := Lib.hid hres
  clear hnum hres hM hn h
  rcases hM2 with ⟨hm1, rfl⟩ | ⟨hm1, rfl⟩
  all_goals
    go_enter Try.func46, Try.ntmps46
    go_wp2_with fail
    refine HN.out.mono ?_
    rintro en w1 ⟨rfl, v', hr, hon, hsb⟩
    have HSB := Lib.hid hsb
    clear hsb
    have HRd := Lib.hid hr
    have HO := Lib.hid hon
    have hsz := hon.size
    have hBl := hr.lt
    obtain ⟨h0, h1, h2, h3, ⟨p, c, rfl, hc1, hc2, hcells⟩, h5⟩ := hr
    have hnl : NumsLt B .u8 w1 (.slice p bs1.length c) bs1 := ⟨p, c, rfl, hc1, hc2, hcells⟩
    have HNL := Lib.hid hnl
    clear hcells h5 hon hnl
    by_cases he : e1 = 0
    · subst he
      by_cases hm : bs1.length < n
      · have hr0 : lumpR bs e most = ([], [], 21) := by rw [HR.out, if_pos rfl, if_pos (by omega)]
        have HR0 := Lib.hid hr0
        clear hr0
        go_wp2_with (go_at_call 52; ((with_reducible refine (rfail_any B _ _ _ 21 _ HRd.out).mono ?_); rintro en w2 ⟨rfl, hr2, hon2⟩))
        go_ret
        rw [HR0.out]
        exact ⟨none, 0, rfl, ⟨none, 0, rfl, Nat.le_refl _, by omega, .inl rfl⟩, _, hr2, HO.out.trans hon2, SameB.nil _, SameB.nil0 _ _ _⟩
      · have hr0 : lumpR bs e most = (bs1.take n, bs1.drop n, 0) := by rw [HR.out, if_pos rfl, if_neg (by omega)]
        have HR0 := Lib.hid hr0
        clear hr0
        have fin : ∀ (cc : Nat), c = cc → ∀ (a' : Option Addr) (c' : Nat), bs1.length - n ≤ c' → c' ≤ 9223372036854775807 → (bs1.length - n = 0 ∨ a' = p.map fun x => x.add n) →
            NumsLt B .u8 (w1.setCell ⟨B, 0, none⟩ (.slice a' (bs1.length - n) c')) (.slice p (lumpR bs e most).1.length cc) (lumpR bs e most).1 ∧ (lumpR bs e most).1.length = n ∧
            IsReader (w1.setCell ⟨B, 0, none⟩ (.slice a' (bs1.length - n) c')) B (.slice a' (bs1.length - n) c') (lumpR bs e most).2.1 (lumpR bs e most).2.2 ∧ Only B w (w1.setCell ⟨B, 0, none⟩ (.slice a' (bs1.length - n) c')) := by
          intro cc hcc a' c' g1 g2 g3
          subst hcc
          rw [HR0.out]
          have hlen : (bs1.take n).length = n := by simp; omega
          refine ⟨?_, hlen, HRd.out.set (by omega) a' c' g1 g2 ?_, HO.out.trans (Only.set B _ 0 _)⟩
          · show NumsLt B .u8 _ (.slice p (bs1.take n).length c) (bs1.take n)
            rw [hlen]
            exact (HNL.out.take n (by omega)).below ((Below.refl B w1).setCell (p := ⟨B, 0, none⟩) (Nat.le_refl _) _)
          · intro b off hp
            rcases g3 with g3 | g3
            · exact .inl g3
            · right; rw [g3, hp]; simp [Addr.add]
        have FIN := Lib.hid fin
        clear fin
        go_wp2
        all_goals (go_ret; first | (obtain ⟨e1, e2, e3, e4⟩ := FIN.out n (by omega) p 0 (by omega) (by omega) (.inl (by omega)); exact ⟨p, n, by rw [e2]; rfl, e1, _, e3, e4, HSB.out.trans (SameB.shift (n := 0) p _ _ _ _ _ (.inl rfl)), SameB.slice HSB.out⟩) | (obtain ⟨e1, e2, e3, e4⟩ := FIN.out c rfl (Option.map (fun x => x.add n) p) (c - n) (by omega) (by omega) (.inr rfl); exact ⟨p, c, by rw [e2]; rfl, e1, _, e3, e4, HSB.out.trans (SameB.shift (n := n) p _ _ _ _ _ (.inr rfl)), SameB.slice HSB.out⟩))
    · have hr0 : lumpR bs e most = ([], bs1, e1) := by rw [HR.out, if_neg he]
      have HR0 := Lib.hid hr0
      have hq : (e1 == 0) = false := by rw [beq_eq_false_iff_ne]; exact he
      clear hr0 he
      go_wp2
      go_ret
      rw [HR0.out]
      exact ⟨none, 0, rfl, ⟨none, 0, rfl, Nat.le_refl _, by omega, .inl rfl⟩, _, HRd.out, HO.out, HSB.out, SameB.nil0 _ _ _⟩

end Go.Proofs.Ytkfcpnmdmoeioaa.K
