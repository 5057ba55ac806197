/- mementoref6: Has, Of, Right, BaseRight, SameInts, SameBase. -/
import Derived.Test.YtkfcpnmdmoeioaaRE1
import Derived.Test.YtkfcpnmdmoeioaaEntry5

namespace Go.Proofs.Ytkfcpnmdmoeioaa.K
open Go.ChangeShapes Go.WideShapes Go.ChangeAt Go.RowKit
set_option linter.unusedVariables false

theorem strict_ext : ∀ (a b : List Int), a.Pairwise (· < ·) → b.Pairwise (· < ·) → (∀ x, x ∈ a ↔ x ∈ b) → a = b
  | [], [], _, _, _ => rfl
  | [], y :: b, _, _, h => absurd ((h y).2 (by simp)) (by simp)
  | x :: a, [], _, _, h => absurd ((h x).1 (by simp)) (by simp)
  | x :: a, y :: b, ha, hb, h => by
    have ha' := List.pairwise_cons.1 ha
    have hb' := List.pairwise_cons.1 hb
    have e : x = y := by
      rcases List.mem_cons.1 ((h x).1 (by simp)) with e | h1
      · exact e
      · rcases List.mem_cons.1 ((h y).2 (by simp)) with e | h2
        · exact e.symm
        · have := ha'.1 y h2; have := hb'.1 x h1; omega
    subst e
    congr 1
    refine strict_ext a b ha'.2 hb'.2 (fun z => ⟨fun hz => ?_, fun hz => ?_⟩)
    · rcases List.mem_cons.1 ((h z).1 (by simp [hz])) with e | h1
      · have := ha'.1 z hz; omega
      · exact h1
    · rcases List.mem_cons.1 ((h z).2 (by simp [hz])) with e | h1
      · have := hb'.1 z hz; omega
      · exact h1
/-- The same, told plainly. -/
def canon (l : List Int) : List Int := [0, 1, 2, 3, 4, 5, 6].filter fun n => l.contains n
theorem canon_mem (l : List Int) (x : Int) : x ∈ canon l ↔ x ∈ l ∧ 0 ≤ x ∧ x < 7 := by
  unfold canon
  simp only [List.mem_filter, List.contains_iff_mem, List.mem_cons, List.not_mem_nil, or_false]
  constructor
  · rintro ⟨h, hl⟩; exact ⟨hl, by omega, by omega⟩
  · rintro ⟨hl, h0, h1⟩; exact ⟨by omega, hl⟩
theorem canon_strict (l : List Int) : (canon l).Pairwise (· < ·) := List.Pairwise.filter _ (by decide)
theorem canon_len (l : List Int) : (canon l).length ≤ 7 := List.length_filter_le _ _
theorem info_int : (Try.prog.info? 3).map (fun i => (i.zero, i.size, i.bytes)) = some (some (.int .i64 0), 1, 8) := by kernel_rfl
/-- What a list of members is read as, behind a call that made it. -/
def ListPost (w : World) (l : List Int) (e : Ending) (w' : World) : Prop :=
  ∃ u, e = .returned u ∧ w'.ownsRow w.heap.size 3 1 u l.length (l.map (Value.int .i64)) ∧ Below w.heap.size w w'
theorem contains_snoc (l : List Int) (n : Int) (k : Nat) (h : k < l.length) : (l.take (k + 1)).contains n = ((l.take k).contains n || (l.getD k 0 == n)) := by
  rw [List.take_succ_eq_append_getElem h, Bool.eq_iff_iff]
  simp only [List.contains_iff_mem, List.mem_append, List.mem_singleton, Bool.or_eq_true, beq_iff_eq, List.getD, List.getElem?_eq_getElem h, Option.getD_some]
  constructor
  · rintro (h | h)
    · exact .inl h
    · exact .inr h.symm
  · rintro (h | h)
    · exact .inl h
    · exact .inr h.symm
set_option maxRecDepth 100000 in
set_option maxHeartbeats 2000000 in
theorem rhas_any (v : Value) (l : List Int) (n : Int) (w : World) (hv : IsNums .i64 w v l) (hl : l.length ≤ 1000) :
    Calls Try.prog 40 #[v, .int .i64 n] w fun e w' => e = .returned (.bool (l.contains n)) ∧ w = w' := by
  obtain ⟨p, c, rfl, h⟩ := hv
  have H := Lib.hid h
  clear h
  go_enter Try.func40, Try.ntmps40
  go_wp2
  go_loop [5] (fun i => ∃ k : Nat, k ≤ l.length ∧ i = .int .i64 k ∧ (l.take k).contains n = false) (fun i => l.length - (intOf i).toNat)
  case atStart => exact ⟨0, Nat.zero_le _, rfl, rfl⟩
  case round =>
    obtain ⟨k, hk, rfl, hno⟩ := hrel
    by_cases hlt : k < l.length
    · obtain h0 | ⟨b, off, rfl, hblk, hcell⟩ := H.out
      · omega
      have hc := hcell k hlt
      have hsn := contains_snoc l n k hlt
      rw [hno] at hsn
      have hm : l.getD k 0 ∈ l := by simp [List.getD, hlt]
      obtain ⟨x, hx⟩ : ∃ x, l.getD k 0 = x := ⟨_, rfl⟩
      rw [hx] at hc hsn hm
      cases hq : x == n with
      | true =>
        have hyes : l.contains n = true := by
          have e : x = n := by simpa using hq
          subst e; simpa using hm
        have HY := Lib.hid hyes
        clear hcell hsn hx hno hyes hm
        go_wp2
        go_ret
        exact ⟨ret_bool (by have h := HY.out; simp at h; simp [h]), rfl⟩
      | false =>
        rw [hq] at hsn
        have HS := Lib.hid hsn
        clear hcell hsn hx hno hm
        go_wp2
        go_round
        case rel => exact ⟨k + 1, by omega, by go_num, by rw [HS.out]; rfl⟩
        case measure => simp [intOf]; omega
    · obtain rfl : k = l.length := by omega
      rw [List.take_length] at hno
      have HN := Lib.hid hno
      clear hno
      go_wp2
      go_ret
      exact ⟨ret_bool (by have h := HN.out; simp at h; simp [h]), rfl⟩
def canonTo (l : List Int) (k : Nat) : List Int := ((List.range k).map fun (n : Nat) => (n : Int)).filter fun n => l.contains n
theorem canonTo_snoc (l : List Int) (k : Nat) : canonTo l (k + 1) = canonTo l k ++ if l.contains (k : Int) = true then [(k : Int)] else [] := by
  unfold canonTo
  rw [List.range_succ, List.map_append, List.filter_append]
  congr 1
  simp only [List.map_cons, List.map_nil, List.filter_cons, List.filter_nil]
theorem canonTo_len (l : List Int) (k : Nat) : (canonTo l k).length ≤ k := by
  unfold canonTo
  refine Nat.le_trans (List.length_filter_le _ _) ?_
  simp
set_option maxRecDepth 100000 in
set_option maxHeartbeats 2000000 in
theorem rof_any (v : Value) (l : List Int) (w : World) (hv : IsNums .i64 w v l) (hl : l.length ≤ 1000) :
    Calls Try.prog 18 #[v] w (ListPost w (canon l)) := by
  have hdef : canonTo l 7 = canon l := rfl
  rw [← hdef]
  obtain ⟨p, c, rfl, -⟩ := id hv
  have H := Lib.hid hv
  clear hv hdef
  go_enter Try.func18, Try.ntmps18
  go_wp2
  go_loopw [3, 4] (fun u i wr => ∃ k : Nat, k ≤ 7 ∧ i = .int .i64 k ∧ wr.ownsRow w.heap.size 3 1 u (canonTo l k).length ((canonTo l k).map (Value.int .i64)) ∧ Below w.heap.size w wr) (fun _ i _ => 7 - (intOf i).toNat)
  case atStart => exact ⟨0, by omega, rfl, World.ownsRow_nil _ _ _ _, Below.refl _ _⟩
  case round =>
    obtain ⟨k, hk, rfl, hown, hbel⟩ := hrel
    have hsz := hbel.size
    have hcl := canonTo_len l k
    by_cases hlt : k < 7
    · have hsn := canonTo_snoc l k
      have HR := Lib.hid (H.out.below hbel (Nat.le_refl _))
      obtain ⟨N, hN⟩ : ∃ N, (canonTo l k).length = N := ⟨_, rfl⟩
      rw [hN] at hown hcl
      have HN := Lib.hid hN
      clear hN
      have hhas := rhas_any _ l (k : Int) wr HR.out (by omega)
      cases hq : l.contains (k : Int) with
      | true =>
        rw [hq] at hsn hhas
        rw [if_pos rfl] at hsn
        have HS := Lib.hid hsn
        clear hsn hq
        go_wp2_with (first | (go_at_call 40; ((with_reducible refine hhas.mono ?_); rintro e w' ⟨rfl, rfl⟩)) | (at_builtin; refine wpList_app1 rfl _ _ 25 rfl w.heap.size 3 .i64 8 Try.underlying25 info_int (by omega) _ _ _ rfl hown _ 1 rfl (by omega) hsz ?_; intro v' w' hown' hb'))
        go_roundw
        case rel => exact ⟨k + 1, by omega, by go_num, by rw [HS.out, List.length_append, List.map_append, HN.out]; exact hown', hbel.trans hb'⟩
        case measure => simp [intOf]; omega
      | false =>
        rw [hq] at hsn hhas
        rw [if_neg (by simp), List.append_nil] at hsn
        have HS := Lib.hid hsn
        clear hsn hq
        go_wp2_with (go_at_call 40; ((with_reducible refine hhas.mono ?_); rintro e w' ⟨rfl, rfl⟩))
        go_roundw
        case rel => exact ⟨k + 1, by omega, by go_num, by rw [HS.out, HN.out]; exact hown, hbel⟩
        case measure => simp [intOf]; omega
    · obtain rfl : k = 7 := by omega
      go_wp2
      go_ret
      exact ⟨_, rfl, hown, hbel⟩
theorem rof_is (v : Value) (l : List Int) (w : World) (hv : IsNums .i64 w v l) (hl : l.length ≤ 1000) (S : List Int) (n : Nat) (hS : canon l = S) (hn : S.length = n) :
    Calls Try.prog 18 #[v] w fun e w' => ∃ p c, e = .returned (.slice p n c) ∧ IsNums .i64 w' (.slice p n c) S ∧ Below w.heap.size w w' := by
  subst hS; subst hn
  refine (rof_any v l w hv hl).mono fun e w' h => ?_
  obtain ⟨u, rfl, hown, hbel⟩ := h
  have hN := IsNums.ofOwn hown
  obtain ⟨p, c, rfl, -⟩ := id hN
  exact ⟨p, c, rfl, hN, hbel⟩
theorem adj_strict (l : List Int) (h : ∀ j, j < l.length → 0 < j → l.getD (j - 1) 0 < l.getD j 0) : l.Pairwise (· < ·) := by
  rw [List.pairwise_iff_getElem]
  have main : ∀ (d i : Nat) (hi : i + (d + 1) < l.length), l.getD i 0 < l.getD (i + (d + 1)) 0 := by
    intro d
    induction d with
    | zero => intro i hi; have := h (i + 1) hi (by omega); simpa using this
    | succ d ih =>
      intro i hi
      have h1 := ih i (by omega)
      have h2 := h (i + (d + 2)) hi (by omega)
      rw [show i + (d + 2) - 1 = i + (d + 1) by omega] at h2
      exact Int.lt_trans h1 h2
  intro i j hi hj hij
  have := main (j - i - 1) i (by omega)
  rw [show i + (j - i - 1 + 1) = j by omega] at this
  simpa [List.getD, hi, hj] using this
theorem right_canon (l : List Int) : rightB l = decide (0 < l.length ∧ canon l = l) := by
  unfold rightB
  rw [decide_eq_decide]
  constructor
  · rintro ⟨h0, h⟩
    refine ⟨h0, strict_ext _ _ (canon_strict l) (adj_strict l (fun j hj h1 => (h j hj).2 h1)) (fun x => ?_)⟩
    rw [canon_mem]
    constructor
    · exact fun h => h.1
    · intro hx
      obtain ⟨j, hj, rfl⟩ := List.getElem_of_mem hx
      have := (h j hj).1
      simp only [okB, decide_eq_true_eq, List.getD, List.getElem?_eq_getElem hj, Option.getD_some] at this
      exact ⟨hx, this⟩
  · rintro ⟨h0, h⟩
    refine ⟨h0, fun j hj => ⟨?_, fun h1 => ?_⟩⟩
    · have hm : l.getD j 0 ∈ canon l := by rw [h, List.getD, List.getElem?_eq_getElem hj]; exact List.getElem_mem hj
      have := (canon_mem l _).1 hm
      unfold okB; exact decide_eq_true this.2
    · have hp := canon_strict l
      rw [h, List.pairwise_iff_getElem] at hp
      have := hp (j - 1) j (by omega) hj (by omega)
      simpa [List.getD, hj, show j - 1 < l.length by omega] using this
set_option maxRecDepth 100000 in
set_option maxHeartbeats 2000000 in
theorem rright_is (v : Value) (l : List Int) (w : World) (hv : IsNums .i64 w v l) (hl : l.length ≤ 900) (r : Bool) (hr : rightB l = r) :
    Calls Try.prog 42 #[v] w fun e w' => e = .returned (.bool r) ∧ Below w.heap.size w w' := by
  obtain ⟨p, c, rfl, -⟩ := id hv
  rw [right_canon] at hr
  have H := Lib.hid hv
  have HR := Lib.hid hr
  clear hv hr
  have hn := canon_len l
  obtain ⟨O, hOO⟩ : ∃ O, canon l = O := ⟨_, rfl⟩
  have HOO := Lib.hid hOO
  rw [hOO] at hn
  clear hOO
  obtain ⟨m, hm⟩ : ∃ m, O.length = m := ⟨_, rfl⟩
  have HM := Lib.hid hm
  rw [hm] at hn
  obtain ⟨n, hn0⟩ : ∃ n, l.length = n := ⟨_, rfl⟩
  have HL := Lib.hid hn0
  rw [hn0] at hl ⊢
  have H := Lib.hid (by have h := H.out; rw [hn0] at h; exact h : IsNums .i64 w (.slice p n c) l)
  clear hn0
  by_cases q : n = 0 ∨ m ≠ n
  · have hf : r = false := by
      rw [← HR.out, HOO.out, HL.out, decide_eq_false_iff_not]
      rintro ⟨h1, h2⟩
      rcases q with h | h
      · omega
      · exact h (by rw [← HM.out, h2, HL.out])
    subst hf
    go_enter Try.func42, Try.ntmps42
    go_wp2_with fail
    refine (rof_is _ l _ H.out (by rw [HL.out]; omega) O m HOO.out hm).mono ?_
    rintro e w1 ⟨pu, cu, rfl, hO, hb⟩
    by_cases q1 : n = 0
    · go_wp2
      go_ret
      exact ⟨rfl, hb⟩
    · have q2 : ((n : Int) == 0) = false := by rw [beq_eq_false_iff_ne]; omega
      have q3 : ((m : Int) == (n : Int)) = false := by rw [beq_eq_false_iff_ne]; omega
      go_wp2
      go_ret
      exact ⟨rfl, hb⟩
  obtain rfl : m = n := by omega
  have q1 : ((m : Int) == 0) = false := by rw [beq_eq_false_iff_ne]; omega
  have q2 : 0 < m := by omega
  clear q
  go_enter Try.func42, Try.ntmps42
  go_wp2_with fail
  refine (rof_is _ l _ H.out (by rw [HL.out]; omega) O m HOO.out hm).mono ?_
  rintro e w1 ⟨pu, cu, rfl, hO, hb⟩
  have hz := hb.size
  have HO := Lib.hid hO
  have H1 := Lib.hid (H.out.below hb (Nat.le_refl _))
  clear hO hm
  go_wp2
  go_loopw [4] (fun i wr => ∃ k : Nat, k ≤ m ∧ i = .int .i64 k ∧ l.take k = O.take k ∧ Below w1.heap.size w1 wr) (fun i _ => m - (intOf i).toNat)
  case atStart => exact ⟨0, Nat.zero_le _, rfl, rfl, Below.refl _ _⟩
  case round =>
    obtain ⟨k, hk, rfl, hpre, hbel⟩ := hrel
    have HP := Lib.hid hpre
    clear hpre
    by_cases hlt : k < m
    · obtain ⟨a0, c0, hv0, hA0⟩ := H1.out
      simp only [Value.slice.injEq] at hv0
      obtain ⟨rfl, -, rfl⟩ := hv0
      obtain h | ⟨b0, off0, rfl, hblk0, hcell0⟩ := hA0
      · have := HL.out; omega
      obtain ⟨a1, c1, hv1, hA1⟩ := HO.out
      simp only [Value.slice.injEq] at hv1
      obtain ⟨rfl, -, rfl⟩ := hv1
      obtain h | ⟨b1, off1, rfl, hblk1, hcell1⟩ := hA1
      · have := HM.out; omega
      have hka : k < l.length := by rw [HL.out]; exact hlt
      have hkb : k < O.length := by rw [HM.out]; exact hlt
      have k0 : wr.cell? ⟨b0, off0 + k, none⟩ = some (.int .i64 (l.getD k 0)) := by rw [hbel.cell hblk0]; exact hcell0 k hka
      have k1 : wr.cell? ⟨b1, off1 + k, none⟩ = some (.int .i64 (O.getD k 0)) := by rw [hbel.cell hblk1]; exact hcell1 k hkb
      obtain ⟨x, hx⟩ : ∃ x, l.getD k 0 = x := ⟨_, rfl⟩
      obtain ⟨y, hy⟩ : ∃ y, O.getD k 0 = y := ⟨_, rfl⟩
      rw [hx] at k0
      rw [hy] at k1
      have HX := Lib.hid hx
      have HY := Lib.hid hy
      have hki : (k : Int) < (m : Int) := by omega
      have HKA := Lib.hid hka
      have HKB := Lib.hid hkb
      clear hcell0 hcell1 hx hy hka hkb
      by_cases he : x = y
      · have hq : (x == y) = true := by simpa using he
        have hnx : l.take (k + 1) = O.take (k + 1) := by
          rw [List.take_succ_eq_append_getElem HKA.out, List.take_succ_eq_append_getElem HKB.out, HP.out]
          have e1 := HX.out
          have e2 := HY.out
          simp only [List.getD, List.getElem?_eq_getElem HKA.out, Option.getD_some] at e1
          simp only [List.getD, List.getElem?_eq_getElem HKB.out, Option.getD_some] at e2
          rw [e1, e2, he]
        have HN := Lib.hid hnx
        clear hnx he
        go_wp2
        go_quiet (fail)
        go_wp2
        go_roundw
        case rel => exact ⟨k + 1, by omega, by go_num, HN.out, below_drewN hbel _⟩
        case measure => simp [intOf]; omega
      · have hq : (x == y) = false := by simpa using he
        have hf : r = false := by
          rw [← HR.out, HOO.out, decide_eq_false_iff_not]
          rintro ⟨-, h2⟩
          apply he
          rw [← HX.out, ← HY.out, h2]
        subst hf
        clear he
        go_wp2
        go_quiet (fail)
        go_wp2
        go_ret
        exact ⟨rfl, hb.trans ((below_drewN hbel _).mono hz)⟩
    · obtain rfl : k = m := by omega
      have ht : r = true := by
        rw [← HR.out, HOO.out, decide_eq_true_eq]
        refine ⟨by rw [HL.out]; exact q2, ?_⟩
        have h1 := HP.out
        rw [← HL.out, List.take_length, HL.out, ← HM.out, List.take_length] at h1
        exact h1.symm
      subst ht
      go_wp2
      go_ret
      exact ⟨rfl, hb.trans (hbel.mono hz)⟩
set_option maxRecDepth 100000 in
theorem rbaseRight_any (i t : Int) (vc vd : Value) (cf d : List Int) (w : World) (hc : IsNums .i64 w vc cf) (hv : IsNums .u8 w vd d) (hl : cf.length ≤ 900) :
    Calls Try.prog 22 #[baseV i t vc vd] w fun e w' => e = .returned (.bool (baseOk i t cf d)) ∧ Below w.heap.size w w' := by
  have hb := (Below.refl w.heap.size w).alloc (Nat.le_refl _) (.cells #[.int .i64 i, .int .i64 t, vc, vd] 27)
  have hx := Blk.alloc w 27 #[.int .i64 i, .int .i64 t, vc, vd]
  have hn := hc.alloc (.cells #[.int .i64 i, .int .i64 t, vc, vd] 27)
  obtain ⟨ac, cc, rfl, -⟩ := id hc
  obtain ⟨ad, cd, rfl, -⟩ := id hv
  obtain ⟨n, hnl⟩ : ∃ n, d.length = n := ⟨_, rfl⟩
  rw [hnl] at hb hx hn ⊢
  have x0 := hx.cell 0
  have x1 := hx.cell 1
  have x2 := hx.cell 2
  have x3 := hx.cell 3
  have B := Lib.hid hb
  have HNN := Lib.hid hn
  have XX := Lib.hid hx
  unfold baseV
  have hz : baseOk i t cf d = (timeOk i 0 && timeOk t 0 && rightB cf && decide (n ≤ 32767)) := by unfold baseOk; rw [hnl]
  rw [hz]
  clear hz hb hx hn hc hv hnl
  cases h1 : timeOk i 0 with
  | false =>
    have H1 := Lib.hid h1
    clear h1
    go_enter Try.func22, Try.ntmps22
    go_wp2_with fail
    refine (rtime_any i _).mono ?_
    rintro e w1 ⟨rfl, rfl⟩
    rw [H1.out]
    go_wp2
    go_ret
    exact ⟨rfl, B.out⟩
  | true =>
    have H1 := Lib.hid h1
    clear h1
    cases h2 : timeOk t 0 with
    | false =>
      have H2 := Lib.hid h2
      clear h2
      go_enter Try.func22, Try.ntmps22
      go_wp2_with fail
      refine (rtime_any i _).mono ?_
      rintro e w1 ⟨rfl, rfl⟩
      rw [H1.out]
      go_wp2_with fail
      refine (rtime_any t _).mono ?_
      rintro e w1 ⟨rfl, rfl⟩
      rw [H2.out]
      go_wp2
      go_ret
      exact ⟨rfl, B.out⟩
    | true =>
      have H2 := Lib.hid h2
      clear h2
      cases h3 : rightB cf with
      | false =>
        have H3 := Lib.hid h3
        clear h3
        go_enter Try.func22, Try.ntmps22
        go_wp2_with fail
        refine (rtime_any i _).mono ?_
        rintro e w1 ⟨rfl, rfl⟩
        rw [H1.out]
        go_wp2_with fail
        refine (rtime_any t _).mono ?_
        rintro e w1 ⟨rfl, rfl⟩
        rw [H2.out]
        go_wp2_with fail
        refine (rright_is _ cf _ HNN.out hl false H3.out).mono ?_
        rintro e w1 ⟨rfl, hb1⟩
        have BB := Lib.hid (B.out.trans (hb1.mono B.out.size))
        clear hb1
        go_wp2
        go_ret
        exact ⟨rfl, BB.out⟩
      | true =>
        have H3 := Lib.hid h3
        clear h3
        by_cases hn : n ≤ 32767
        · have hnI : (n : Int) ≤ 32767 := by omega
          go_enter Try.func22, Try.ntmps22
          go_wp2_with fail
          refine (rtime_any i _).mono ?_
          rintro e w1 ⟨rfl, rfl⟩
          rw [H1.out]
          go_wp2_with fail
          refine (rtime_any t _).mono ?_
          rintro e w1 ⟨rfl, rfl⟩
          rw [H2.out]
          go_wp2_with fail
          refine (rright_is _ cf _ HNN.out hl true H3.out).mono ?_
          rintro e w1 ⟨rfl, hb1⟩
          have BB := Lib.hid (B.out.trans (hb1.mono B.out.size))
          have y3 := (XX.out.below hb1 XX.out.lt).cell 3
          clear hb1
          go_wp2
          go_ret
          exact ⟨ret_bool (by simp; exact hn), BB.out⟩
        · have hnI : ¬ (n : Int) ≤ 32767 := by omega
          go_enter Try.func22, Try.ntmps22
          go_wp2_with fail
          refine (rtime_any i _).mono ?_
          rintro e w1 ⟨rfl, rfl⟩
          rw [H1.out]
          go_wp2_with fail
          refine (rtime_any t _).mono ?_
          rintro e w1 ⟨rfl, rfl⟩
          rw [H2.out]
          go_wp2_with fail
          refine (rright_is _ cf _ HNN.out hl true H3.out).mono ?_
          rintro e w1 ⟨rfl, hb1⟩
          have BB := Lib.hid (B.out.trans (hb1.mono B.out.size))
          have y3 := (XX.out.below hb1 XX.out.lt).cell 3
          clear hb1
          go_wp2
          go_ret
          exact ⟨ret_bool (by simp; omega), BB.out⟩

set_option maxRecDepth 100000 in
theorem reqInts_any (w : World) (u v : Value) (xs ys : List Int) (hu : IsNums .i64 w u xs) (hv : IsNums .i64 w v ys) (hl : xs.length ≤ 1000000) :
    Calls Try.prog 44 #[u, v] w fun e w' => e = .returned (.bool (decide (xs = ys))) ∧ Below w.heap.size w w' := by
  obtain ⟨p, c, rfl, hx⟩ := hu
  obtain ⟨q, c', rfl, hy⟩ := hv
  by_cases hn : xs.length = ys.length
  · have HX := Lib.hid hx
    have HY := Lib.hid hy
    obtain ⟨n, hnn⟩ : ∃ n, xs.length = n := ⟨_, rfl⟩
    have hyn : ys.length = n := by omega
    rw [hnn] at hl ⊢
    rw [hyn]
    have HXN := Lib.hid hnn
    have HYN := Lib.hid hyn
    have hlI : (n : Int) ≤ 1000000 := by omega
    clear hx hy hn hnn hyn
    go_enter Try.func44, Try.ntmps44
    go_wp2
    go_loopw [5] (fun i wr => ∃ k : Nat, k ≤ n ∧ i = .int .i64 k ∧ (∀ j, j < k → xs.getD j 0 = ys.getD j 0) ∧ Below w.heap.size w wr) (fun i _ => n - (intOf i).toNat)
    case atStart => exact ⟨0, Nat.zero_le _, rfl, fun j hj => absurd hj (Nat.not_lt_zero _), Below.refl _ _⟩
    case round =>
      obtain ⟨k, hk, rfl, heq, hbel⟩ := hrel
      by_cases hlt : k < n
      · obtain h0 | ⟨b, o, rfl, hb, hc⟩ := HX.out
        · have := HXN.out; omega
        obtain h0 | ⟨b', o', rfl, hb', hc'⟩ := HY.out
        · have := HYN.out; omega
        have c1 := hc k (by have := HXN.out; omega)
        have c2 := hc' k (by have := HYN.out; omega)
        obtain ⟨x, hxe⟩ : ∃ x, xs.getD k 0 = x := ⟨_, rfl⟩
        obtain ⟨y, hye⟩ : ∃ x, ys.getD k 0 = x := ⟨_, rfl⟩
        rw [hxe] at c1
        rw [hye] at c2
        have d1 : wr.cell? ⟨b, o + k, none⟩ = some (.int .i64 x) := by rw [hbel.cell hb]; exact c1
        have d2 : wr.cell? ⟨b', o' + k, none⟩ = some (.int .i64 y) := by rw [hbel.cell hb']; exact c2
        have HEQ := Lib.hid heq
        have HBL := Lib.hid hbel
        have HXE := Lib.hid hxe
        have HYE := Lib.hid hye
        have hkI : (k : Int) < n := by omega
        clear hc hc' c1 c2 heq hbel hxe hye
        by_cases q : x = y
        · subst q
          go_wp2_with fail
          go_quiet (fail)
          go_wp2
          go_roundw
          case rel => exact ⟨k + 1, by omega, by go_num, fun j hj => (by
              by_cases e : j = k
              · rw [e, HXE.out, HYE.out]
              · exact HEQ.out j (by omega)), HBL.out.trans ⟨rfl, rfl, rfl, Nat.le_refl _, fun _ _ => rfl⟩⟩
          case measure => simp [intOf]; omega
        · have q2 : (x == y) = false := by rw [beq_eq_false_iff_ne]; exact q
          have Q := Lib.hid q
          go_wp2_with fail
          go_quiet (fail)
          go_wp2
          go_ret
          exact ⟨ret_bool (by first | rfl | (symm; rw [decide_eq_false_iff_not]; intro h; exact Q.out (by rw [← HXE.out, ← HYE.out, h]))), HBL.out.trans ⟨rfl, rfl, rfl, Nat.le_refl _, fun _ _ => rfl⟩⟩
      · obtain rfl : k = n := by omega
        have HEQ := Lib.hid heq
        have HBL := Lib.hid hbel
        clear heq hbel
        go_wp2
        go_ret
        refine ⟨ret_bool ?_, HBL.out⟩
        symm
        rw [decide_eq_true_iff]
        refine List.ext_getElem? fun j => ?_
        by_cases hj : j < k
        · have := HEQ.out j hj
          rw [List.getD_eq_getElem?_getD, List.getD_eq_getElem?_getD, List.getElem?_eq_getElem (by rw [HXN.out]; exact hj), List.getElem?_eq_getElem (by rw [HYN.out]; exact hj)] at this
          rw [List.getElem?_eq_getElem (by rw [HXN.out]; exact hj), List.getElem?_eq_getElem (by rw [HYN.out]; exact hj)]
          exact congrArg some this
        · rw [List.getElem?_eq_none (by rw [HXN.out]; omega), List.getElem?_eq_none (by rw [HYN.out]; omega)]
  · have hnI : ¬ (xs.length : Int) = ys.length := by omega
    have hne : decide (xs = ys) = false := by rw [decide_eq_false_iff_not]; intro h; exact hn (by rw [h])
    rw [hne]
    clear hx hy hne hl
    go_enter Try.func44, Try.ntmps44
    go_wp2
    go_ret
    exact ⟨rfl, Below.refl _ _⟩

set_option maxRecDepth 100000 in
set_option maxHeartbeats 1000000 in
theorem rbaseSame_any (i t i' t' : Int) (vc vd vc' vd' : Value) (cf d cf' d' : List Int) (w : World) (hc : IsNums .i64 w vc cf) (hc' : IsNums .i64 w vc' cf') (hv : IsNums .u8 w vd d) (hv' : IsNums .u8 w vd' d') (hd : ∀ x ∈ d, 0 ≤ x ∧ x ≤ 255) (hd' : ∀ x ∈ d', 0 ≤ x ∧ x ≤ 255) (hl : cf.length ≤ 1000000) :
    Calls Try.prog 24 #[baseV i t vc vd, baseV i' t' vc' vd'] w fun e w' => e = .returned (.bool (decide ((i, t, cf, d) = (i', t', cf', d')))) ∧ Below w.heap.size w w' := by
  obtain ⟨a, c, rfl, -⟩ := id hv
  obtain ⟨a', c', rfl, -⟩ := id hv'
  obtain ⟨ac, cc, rfl, -⟩ := id hc
  obtain ⟨ac', cc', rfl, -⟩ := id hc'
  obtain ⟨n, hn⟩ : ∃ n, d.length = n := ⟨_, rfl⟩
  obtain ⟨n', hn'⟩ : ∃ n, d'.length = n := ⟨_, rfl⟩
  obtain ⟨m, hm⟩ : ∃ n, cf.length = n := ⟨_, rfl⟩
  obtain ⟨m', hm'⟩ : ∃ n, cf'.length = n := ⟨_, rfl⟩
  rw [hn] at hv ⊢
  rw [hn'] at hv' ⊢
  rw [hm] at hc ⊢
  rw [hm'] at hc' ⊢
  have hb := ((Below.refl w.heap.size w).alloc (Nat.le_refl _) (.cells #[.int .i64 i, .int .i64 t, .slice ac m cc, .slice a n c] 27))
  have hx := Blk.alloc w 27 #[.int .i64 i, .int .i64 t, .slice ac m cc, .slice a n c]
  obtain ⟨w1, hw1⟩ : ∃ x, w.alloc (.cells #[.int .i64 i, .int .i64 t, .slice ac m cc, .slice a n c] 27) = x := ⟨_, rfl⟩
  rw [hw1] at hb hx
  have hb2 := hb.alloc hb.size (.cells #[.int .i64 i', .int .i64 t', .slice ac' m' cc', .slice a' n' c'] 27)
  have hy := Blk.alloc w1 27 #[.int .i64 i', .int .i64 t', .slice ac' m' cc', .slice a' n' c']
  have hx2 := hx.below ((Below.refl w1.heap.size w1).alloc (Nat.le_refl _) (.cells #[.int .i64 i', .int .i64 t', .slice ac' m' cc', .slice a' n' c'] 27)) hx.lt
  obtain ⟨w2, hw2⟩ : ∃ x, w1.alloc (.cells #[.int .i64 i', .int .i64 t', .slice ac' m' cc', .slice a' n' c'] 27) = x := ⟨_, rfl⟩
  rw [hw2] at hb2 hy hx2
  have x0 := hx2.cell 0
  have x1 := hx2.cell 1
  have x2 := hx2.cell 2
  have x3 := hx2.cell 3
  have y0 := hy.cell 0
  have y1 := hy.cell 1
  have y2 := hy.cell 2
  have y3 := hy.cell 3
  have XX := Lib.hid hx2
  have YY := Lib.hid hy
  have B := Lib.hid hb2
  have V := Lib.hid (hv.below hb2 (Nat.le_refl _))
  have V' := Lib.hid (hv'.below hb2 (Nat.le_refl _))
  have C := Lib.hid (hc.below hb2 (Nat.le_refl _))
  have C' := Lib.hid (hc'.below hb2 (Nat.le_refl _))
  have HD := Lib.hid hd
  have HD' := Lib.hid hd'
  unfold baseV
  clear hv hv' hb hx hb2 hy hx2 hd hd' hn hn' hc hc' hm hm'
  by_cases ei : i = i'
  · subst ei
    by_cases et : t = t'
    · subst et
      go_enter Try.func24, Try.ntmps24
      go_wp2_with fail
      refine (reqInts_any w2 _ _ cf cf' C.out C'.out hl).mono ?_
      rintro e w3 ⟨rfl, hb3⟩
      have x03 := (XX.out.below hb3 XX.out.lt).cell 3
      have y03 := (YY.out.below hb3 YY.out.lt).cell 3
      have B3 := Lib.hid (B.out.trans (hb3.mono B.out.size))
      have V3 := Lib.hid (V.out.below hb3 (Nat.le_refl _))
      have V3' := Lib.hid (V'.out.below hb3 (Nat.le_refl _))
      clear hb3
      by_cases q : cf = cf'
      · rw [decide_eq_true q]
        have Q := Lib.hid q
        clear q
        have k1 := conv_str (P := Try.prog) V3.out 22 5 Try.underlying22 Try.underlying5 9 Try.underlying9
        have k2 := conv_str (P := Try.prog) V3'.out 22 5 Try.underlying22 Try.underlying5 9 Try.underlying9
        have HE := Lib.hid (str_beq HD.out HD'.out)
        go_wp2
        go_ret
        exact ⟨ret_bool (by rw [HE.out]; exact decide_eq_decide.2 ⟨fun h => by rw [Q.out, h], fun h => by injection h with h1 h2; injection h2 with h2 h3; injection h3 with h3 h4⟩), B3.out⟩
      · rw [decide_eq_false q]
        have Q := Lib.hid q
        clear q
        go_wp2
        go_ret
        exact ⟨ret_bool (by first | rfl | (symm; rw [decide_eq_false_iff_not]; intro h; injection h with h1 h2; injection h2 with h2 h3; injection h3 with h3 h4; exact Q.out h3)), B3.out⟩
    · have et' : (t == t') = false := by rw [beq_eq_false_iff_ne]; exact et
      go_enter Try.func24, Try.ntmps24
      go_wp2
      go_ret
      exact ⟨ret_bool (by first | rfl | (symm; rw [decide_eq_false_iff_not]; intro h; injection h with h1 h2; injection h2 with h2 h3; exact et h2)), B.out⟩
  · have ei' : (i == i') = false := by rw [beq_eq_false_iff_ne]; exact ei
    go_enter Try.func24, Try.ntmps24
    go_wp2
    go_ret
    exact ⟨ret_bool (by first | rfl | (symm; rw [decide_eq_false_iff_not]; intro h; injection h with h1 h2; exact ei h1)), B.out⟩
end Go.Proofs.Ytkfcpnmdmoeioaa.K
