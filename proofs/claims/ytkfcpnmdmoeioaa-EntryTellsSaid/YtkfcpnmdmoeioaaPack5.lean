/- What a pack.Reader's Lump, Left and Err tell of any bytes; what New and Lump make. -/
import Derived.Test.YtkfcpnmdmoeioaaPack4
namespace Go.Proofs.Ytkfcpnmdmoeioaa.K
open Go.ChangeShapes Go.WideShapes Go.ChangeAt Go.RowKit
set_option linter.unusedVariables false

theorem numR_bd (bs : List Int) (e most : Int) (hb : ∀ x ∈ bs, 0 ≤ x ∧ x ≤ 255) : 0 ≤ (numR bs e most).1 ∧ (numR bs e most).1 < 18446744073709551616 := by
  unfold numR
  split
  · cases hd : dec 0 0 bs with
    | err er => simp
    | ok n k =>
      have := (dec_ok bs 0 0 n k hb (by omega) (by simp) hd).1
      simp only []
      split
      · simp
      · simp only []; omega
  · simp

/-- What Lump gives, what is left, the error behind it. -/
def lumpR (bs : List Int) (e most : Int) : List Int × List Int × Int :=
  if (numR bs e (max most 0)).2.2 = 0 then
    if ((numR bs e (max most 0)).2.1.length : Int) < (numR bs e (max most 0)).1 then ([], [], 21)
    else ((numR bs e (max most 0)).2.1.take (numR bs e (max most 0)).1.toNat, (numR bs e (max most 0)).2.1.drop (numR bs e (max most 0)).1.toNat, 0)
  else ([], (numR bs e (max most 0)).2.1, (numR bs e (max most 0)).2.2)

theorem IsLists.lit (w : World) (us : List Value) (ls : List (List Int)) (N : Nat) (T : TypeId) (n c : Nat) (hN : N = w.heap.size) (hn : n = us.length) (hl : us.length = ls.length) (h : ∀ j, j < us.length → IsNums .u8 w (us.getD j default) (ls.getD j [])) :
    IsLists (w.alloc (.cells us.toArray T)) (.slice (some ⟨N, 0, none⟩) n c) ls := by
  subst hN; subst hn
  refine ⟨_, c, by rw [hl], .inr ⟨_, 0, rfl, by simp, fun j hj => ?_⟩⟩
  refine ⟨us.getD j default, ?_, (h j (by omega)).alloc _⟩
  unfold World.cell? World.alloc
  simp [List.getD, show j < us.length by omega]

theorem IsLists.one (w : World) (u : Value) (bs : List Int) (N : Nat) (T : TypeId) (hN : N = w.heap.size) (h : IsNums .u8 w u bs) : IsLists (w.alloc (.cells #[u] T)) (.slice (some ⟨N, 0, none⟩) 1 1) [bs] :=
  IsLists.lit w [u] [bs] N T 1 1 hN rfl rfl (fun j hj => by
    rcases j with _ | j
    · exact h
    · simp at hj)

theorem ownsRow_base {w : World} {B B' : Nat} {e : TypeId} {s : Nat} {v : Value} {n : Nat} {xs : List Value} (h : w.ownsRow B e s v n xs) (hB : B' ≤ B) : w.ownsRow B' e s v n xs := by
  obtain ⟨h1, h2 | ⟨g, cap, cur, a, b, r⟩⟩ := h
  · exact ⟨h1, .inl h2⟩
  · exact ⟨h1, .inr ⟨g, cap, cur, a, Nat.le_trans hB b, r⟩⟩

theorem NumsLt.ofOwn {k : IntKind} {w : World} {B : Nat} {e : TypeId} {v : Value} {n : Nat} {zs : List Int} (h : w.ownsRow B e 1 v n (zs.map (Value.int k))) : NumsLt w.heap.size k w v zs := by
  have hn : n = zs.length := by have := h.1; simpa using this.symm
  subst hn
  rcases h.2 with ⟨rfl, h0⟩ | ⟨g, cap, cur, rfl, hg, hb, h1, h2, h3, h4⟩
  · obtain rfl := List.length_eq_zero_iff.1 h0
    exact ⟨none, 0, rfl, Nat.le_refl _, by omega, .inl rfl⟩
  · refine ⟨_, cap, rfl, h1, h2, .inr ⟨g, 0, rfl, (Array.getElem?_eq_some_iff.1 hb).1, fun j hj => ?_⟩⟩
    have := h.cellAt j (by omega)
    rw [Nat.zero_add, this]
    simp [hj, List.getD]

theorem NumsLt.take {N : Nat} {k : IntKind} {w : World} {a : Option Addr} {len c : Nat} {zs : List Int} (h : NumsLt N k w (.slice a len c) zs) (n : Nat) (hn : n ≤ zs.length) : NumsLt N k w (.slice a n c) (zs.take n) := by
  obtain ⟨a', c', e, h1, h2, h3⟩ := h
  injection e with e1 e2 e3
  subst e1; subst e3
  refine ⟨a, c, by simp [hn], by simp; omega, h2, ?_⟩
  rcases h3 with h3 | ⟨b, off, rfl, hb, hc⟩
  · left; simp; omega
  · right
    refine ⟨b, off, rfl, hb, fun j hj => ?_⟩
    simp at hj
    rw [hc j (by omega)]
    simp only [List.getD, List.getElem?_take]
    rw [if_pos (by omega)]

theorem IsReader.set {w : World} {B : Nat} {a : Option Addr} {len c n : Nat} {bs : List Int} {e : Int} (h : IsReader w B (.slice a len c) bs e) (hn : n ≤ bs.length) (a' : Option Addr) (c' : Nat) (hc1 : bs.length - n ≤ c') (hc2 : c' ≤ 9223372036854775807)
    (ha : ∀ b off, a = some ⟨b, off, none⟩ → bs.length - n = 0 ∨ a' = some ⟨b, off + n, none⟩) : IsReader (w.setCell ⟨B, 0, none⟩ (.slice a' (bs.length - n) c')) B (.slice a' (bs.length - n) c') (bs.drop n) e := by
  obtain ⟨h0, h1, h2, h3, ⟨p, c0, ep, hc3, hc4, hcells⟩, h5⟩ := h
  injection ep with e1 e2 e3
  subst e1; subst e3
  rcases hcells with hz | ⟨b, off, rfl, hblk, hcell⟩
  · have hn0 : bs = [] := List.length_eq_zero_iff.1 hz
    subst hn0
    refine ⟨World.cell?_setCell_same _ _ _ h0, ?_, by rw [World.frozen?_setCell]; exact h2, by rw [World.frozen?_setCell]; exact h3, ⟨a', c', by simp, by simp, hc2, .inl (by simp)⟩, by simp⟩
    rw [World.cell?_setCell_other _ _ _ _ (by simp)]; exact h1
  · exact reader_shift (c := c) h0 h1 h2 h3 hblk hcell h5 hn hc1 hc2 (ha b off rfl)

def LumpPost (w : World) (B : Nat) (r : List Int × List Int × Int) (en : Ending) (w' : World) : Prop :=
  ∃ u, en = .returned u ∧ w'.ownsRow w.heap.size 5 1 u r.1.length (r.1.map (Value.int .u8)) ∧ ∃ v', IsReader w' B v' r.2.1 r.2.2 ∧ Only B w w'

set_option maxRecDepth 100000 in
set_option maxHeartbeats 2000000 in
theorem rlump_any (B : Nat) (v : Value) (bs : List Int) (e most : Int) (w : World) (h : IsReader w B v bs e) (m0 : -9223372036854775808 ≤ most) (m1 : most ≤ 9223372036854775807) (hl : bs.length ≤ 100000) :
    Calls Try.prog 38 #[.pointer (some ⟨B, 0, none⟩), .int .i64 most] w fun en w' => LumpPost w B (lumpR bs e most) en w' := by
  have hres : lumpR bs e most = if (numR bs e (max most 0)).2.2 = 0 then
    if ((numR bs e (max most 0)).2.1.length : Int) < (numR bs e (max most 0)).1 then ([], [], 21)
    else ((numR bs e (max most 0)).2.1.take (numR bs e (max most 0)).1.toNat, (numR bs e (max most 0)).2.1.drop (numR bs e (max most 0)).1.toNat, 0)
    else ([], (numR bs e (max most 0)).2.1, (numR bs e (max most 0)).2.2) := rfl
  obtain ⟨M, hM⟩ : ∃ M : Int, max most 0 = M := ⟨_, rfl⟩
  rw [hM] at hres
  have hnum := num_any B v bs e M w h (by omega)
  have hbd := numR_bd bs e M h.2.2.2.2.2
  obtain ⟨n, hn⟩ : ∃ n : Nat, (numR bs e M).1 = n := ⟨(numR bs e M).1.toNat, by omega⟩
  rw [hn] at hres hnum hbd
  have hll : (numR bs e M).2.1.length ≤ 100000 := by
    unfold numR
    split
    · split
      · simp
      · split
        · simp
        · simp; omega
    · exact hl
  generalize (numR bs e M).2.1 = bs1 at hres hnum hll
  generalize (numR bs e M).2.2 = e1 at hres hnum
  rw [Int.toNat_natCast] at hres
  have hM2 : (most < 0 ∧ M = 0) ∨ (0 ≤ most ∧ most = M) := by omega
  have HN := Lib.hid hnum
  have HR := Lib.hid hres
  clear hnum hres hM hn h
  rcases hM2 with ⟨hm1, rfl⟩ | ⟨hm1, rfl⟩
  all_goals
    go_enter Try.func38, Try.ntmps38
    go_wp2_with fail
    refine HN.out.mono ?_
    rintro en w1 ⟨rfl, v', hr, hon⟩
    have HRd := Lib.hid hr
    have HO := Lib.hid hon
    have hsz := hon.size
    have hBl := hr.lt
    obtain ⟨h0, h1, h2, h3, ⟨p, c, rfl, hc1, hc2, hcells⟩, h5⟩ := hr
    have hnl : NumsLt B .u8 w1 (.slice p bs1.length c) bs1 := ⟨p, c, rfl, hc1, hc2, hcells⟩
    have HNL := Lib.hid hnl
    clear hcells h5 hon hnl
    by_cases he : e1 = 0
    · subst he
      by_cases hm : bs1.length < n
      · have hr0 : lumpR bs e most = ([], [], 21) := by rw [HR.out, if_pos rfl, if_pos (by omega)]
        have HR0 := Lib.hid hr0
        clear hr0
        go_wp2_with (go_at_call 50; ((with_reducible refine (fail_any B _ _ _ 21 _ HRd.out).mono ?_); rintro en w2 ⟨rfl, hr2, hon2⟩))
        go_ret
        rw [HR0.out]
        exact ⟨_, rfl, World.ownsRow_nil _ _ _ _, _, hr2, HO.out.trans hon2⟩
      · have hr0 : lumpR bs e most = (bs1.take n, bs1.drop n, 0) := by rw [HR.out, if_pos rfl, if_neg (by omega)]
        have HR0 := Lib.hid hr0
        clear hr0
        go_wp2_with fail
        refine (join_any _ [bs1.take n] _ (IsLists.one w1 _ _ _ _ rfl ((HNL.out.take n (by omega)).nums (by omega))) (by simp) (by simp [sumLen]; omega)).mono ?_
        rintro en w2 ⟨u, rfl, hown, hb⟩
        have hb1 : Below w1.heap.size w1 w2 := ((Below.refl _ w1).alloc (Nat.le_refl _) _).trans (hb.mono (by simp))
        have hown2 := ownsRow_base (B' := w1.heap.size) hown (by simp)
        have hrd2 := HRd.out.later hb1
        obtain ⟨k0, k1, k2, k3, -, -⟩ := hrd2
        have HRd2 := Lib.hid (HRd.out.later hb1)
        have HB1 := Lib.hid hb1
        have HOw := Lib.hid hown2
        clear hown hb hb1 hown2
        have fin : ∀ (a' : Option Addr) (c' : Nat), bs1.length - n ≤ c' → c' ≤ 9223372036854775807 → (bs1.length - n = 0 ∨ a' = p.map fun x => x.add n) →
            (w2.setCell ⟨B, 0, none⟩ (.slice a' (bs1.length - n) c')).ownsRow w.heap.size 5 1 u (lumpR bs e most).1.length ((lumpR bs e most).1.map (Value.int .u8)) ∧
            ∃ v', IsReader (w2.setCell ⟨B, 0, none⟩ (.slice a' (bs1.length - n) c')) B v' (lumpR bs e most).2.1 (lumpR bs e most).2.2 ∧ Only B w (w2.setCell ⟨B, 0, none⟩ (.slice a' (bs1.length - n) c')) := by
          intro a' c' g1 g2 g3
          rw [HR0.out]
          have ho := HOw.out
          rw [show [bs1.take n].flatten = bs1.take n by simp] at ho
          refine ⟨ownsRow_base (ownsRow_setCell_below ho (a := ⟨B, 0, none⟩) hBl _) hsz, _, HRd2.out.set (by omega) a' c' g1 g2 ?_, (HO.out.trans (Only.ofBelow HB1.out)).trans (Only.set B _ 0 _)⟩
          intro b off hp
          rcases g3 with g3 | g3
          · exact .inl g3
          · right; rw [g3, hp]; simp [Addr.add]
        have FIN := Lib.hid fin
        clear fin
        go_wp2
        all_goals (go_ret; first | exact ⟨u, rfl, FIN.out p 0 (by omega) (by omega) (.inl (by omega))⟩ | exact ⟨u, rfl, FIN.out (Option.map (fun x => x.add n) p) (c - n) (by omega) (by omega) (.inr rfl)⟩)
    · have hr0 : lumpR bs e most = ([], bs1, e1) := by rw [HR.out, if_neg he]
      have HR0 := Lib.hid hr0
      have hq : (e1 == 0) = false := by rw [beq_eq_false_iff_ne]; exact he
      clear hr0 he
      go_wp2
      go_ret
      rw [HR0.out]
      exact ⟨_, rfl, World.ownsRow_nil _ _ _ _, _, HRd.out, HO.out⟩

set_option maxHeartbeats 1000000 in
theorem left_any (B : Nat) (v : Value) (bs : List Int) (e : Int) (w : World) (h : IsReader w B v bs e) :
    Calls Try.prog 17 #[.pointer (some ⟨B, 0, none⟩)] w fun en w' => en = .returned (.int .i64 bs.length) ∧ w = w' := by
  obtain ⟨h0, h1, h2, h3, ⟨p, c, rfl, hc1, hc2, -⟩, -⟩ := h
  go_enter Try.func17, Try.ntmps17
  go_wp2
  go_ret
  exact ⟨rfl, rfl⟩

set_option maxHeartbeats 1000000 in
theorem err_any (B : Nat) (v : Value) (bs : List Int) (e : Int) (w : World) (h : IsReader w B v bs e) :
    Calls Try.prog 39 #[.pointer (some ⟨B, 0, none⟩)] w fun en w' => en = .returned (.int .i64 e) ∧ w = w' := by
  obtain ⟨h0, h1, h2, h3, -, -⟩ := h
  go_enter Try.func39, Try.ntmps39
  go_wp2
  go_ret
  exact ⟨rfl, rfl⟩

set_option maxRecDepth 100000 in
set_option maxHeartbeats 1000000 in
theorem new_any (v : Value) (bs : List Int) (w : World) (h : IsNums .u8 w v bs) (hb : ∀ x ∈ bs, 0 ≤ x ∧ x ≤ 255) (hl : bs.length ≤ 100000) :
    Calls Try.prog 15 #[v] w fun en w' => ∃ B u, en = .returned (.pointer (some ⟨B, 0, none⟩)) ∧ w.heap.size < B ∧ IsReader w' B u bs 0 ∧ Below w.heap.size w w' := by
  obtain ⟨p, c, rfl, -⟩ := id h
  have H := Lib.hid h
  have HB := Lib.hid hb
  clear h hb
  go_enter Try.func15, Try.ntmps15
  go_wp2_with fail
  refine (join_any _ [bs] _ (IsLists.one w _ _ _ _ rfl H.out) (by simp) (by simp [sumLen]; omega)).mono ?_
  rintro en w2 ⟨u, rfl, hown, hb1⟩
  have hb2 : Below w.heap.size w w2 := ((Below.refl _ w).alloc (Nat.le_refl _) _).trans (hb1.mono (by simp))
  rw [show [bs].flatten = bs by simp] at hown
  have hz := hb1.size
  simp at hz
  clear hb1
  have hlt := NumsLt.ofOwn hown
  obtain ⟨pu, cu, rfl, -⟩ := id hlt
  have HU := Lib.hid hlt
  clear hown hlt
  go_wp2
  go_ret
  refine ⟨_, .slice pu bs.length cu, rfl, by omega, ⟨?_, ?_, ?_, ?_, ?_, HB.out⟩, hb2.alloc hb2.size _⟩
  · unfold World.cell? World.alloc; simp
  · unfold World.cell? World.alloc; simp
  · unfold World.frozen? World.alloc; simp
  · unfold World.frozen? World.alloc; simp
  · exact HU.out.below ((Below.refl _ w2).alloc (Nat.le_refl _) _)

set_option maxHeartbeats 1000000 in
/-- pack.Lump. -/
theorem lump_any (v : Value) (bs : List Int) (w : World) (h : IsNums .u8 w v bs) (hl : bs.length ≤ 100000) :
    Calls Try.prog 30 #[v] w fun en w' => ∃ u, en = .returned u ∧ w'.ownsRow w.heap.size 5 1 u (enc bs.length ++ bs).length ((enc bs.length ++ bs).map (Value.int .u8)) ∧ Below w.heap.size w w' := by
  obtain ⟨p, c, rfl, -⟩ := id h
  have H := Lib.hid h
  clear h
  go_enter Try.func30, Try.ntmps30
  go_wp2_with fail
  refine (put_any _ [(bs.length : Int)] _ (IsNums.lit .u64 w [(bs.length : Int)] _ _ _ _ rfl rfl) (by intro j hj; simp at hj; subst hj; simp; omega) (by simp)).mono ?_
  rintro en w2 ⟨u, rfl, hown, hb1⟩
  have hb2 : Below w.heap.size w w2 := ((Below.refl _ w).alloc (Nat.le_refl _) _).trans (hb1.mono (by simp))
  rw [show encs [(bs.length : Int)] = enc bs.length by simp [encs]] at hown
  have hown2 := ownsRow_base (B' := w.heap.size) hown (by simp)
  have hel := (enc_len (bs.length : Int)).1
  have H2 := Lib.hid (H.out.below hb2 (Nat.le_refl _))
  have hz := hb2.size
  clear hb1 hown
  go_wp2_with (at_builtin; refine wpList_appN rfl _ _ 22 rfl w.heap.size 5 .u8 1 Try.underlying22 info_u8 (by omega) _ _ _ rfl hown2 _ bs rfl H2.out (by omega) hz ?_; intro v' w' hown' hb')
  go_ret
  refine ⟨_, rfl, ?_, hb2.trans hb'⟩
  rw [List.length_append, List.map_append]
  exact hown'

end Go.Proofs.Ytkfcpnmdmoeioaa.K
