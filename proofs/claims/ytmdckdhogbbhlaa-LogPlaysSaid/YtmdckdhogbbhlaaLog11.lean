/- LogFollows' walk. -/
import Derived.Test.YtmdckdhogbbhlaaLog10
namespace Go.Proofs.Ytmdckdhogbbhlaa.K
open Go.ChangeShapes Go.WideShapes Go.ChangeAt Go.RowKit
set_option linter.unusedVariables false
set_option linter.unusedSimpArgs false

theorem fl28lf : flatS Try.prog 28 [.int .i64 0, .int .i64 0, .slice none 0 0, .slice none 0 0] = true := by kernel_rfl
theorem inf3lf : (Try.prog.info? 3).map (fun i => (i.zero, i.size, i.bytes)) = some (some (.int .i64 0), 1, 8) := by kernel_rfl
theorem sz28lf : (Try.prog.info? 28).map (·.size) = some 4 := by kernel_rfl
theorem zc28lf : ((Try.prog.info? 28).bind (·.zero)).map (·.cells.toList) = some [.int .i64 0, .int .i64 0, .slice none 0 0, .slice none 0 0] := by kernel_rfl

theorem rterm_any (B : Nat) (bi bt : Int) (cf d : List Int) (es : List (Int × Int × Int × List Int)) (pc pd pl : Option Addr) (cc cd cl : Nat) (w0 : World) (i : Int) (hB : Blk w0 B 41 [.int .i64 bi, .int .i64 bt, .slice pc cf.length cc, .slice pd d.length cd, .slice pl (es.map entD).length cl]) (hl : Rd (fun _ => True) w0 (.slice pl (es.map entD).length cl) (.l 4 (es.map entD))) (hbi : -1000000000000000000 ≤ bi ∧ bi ≤ 1000000000000000000) (hn : es.length ≤ 1000000) :
    Calls Try.prog 12 #[.pointer (some ⟨B, 0, none⟩), .int .i64 i] w0 fun e w' => e = .returned (.int .i64 (termL bi bt es i)) ∧ Below w0.heap.size w0 w' := by
  unfold termL
  by_cases h1 : i = bi
  · subst h1; rw [if_pos rfl]; exact rterm_at B i bt cf d es pc pd pl cc cd cl w0 hB hl hbi hn
  · rw [if_neg h1]
    by_cases h2 : inB bi es i
    · rw [if_pos h2]
      obtain ⟨k, a1, a2, a3, a4⟩ := inB_at h2
      rw [a3]
      obtain ⟨⟨ei, et, ek, ed⟩, he⟩ : ∃ e, es.getD k e0 = e := ⟨_, rfl⟩
      rw [he] at a4 ⊢
      exact rterm_in B bi bt cf d es pc pd pl cc cd cl w0 k i hB hl hbi hn a4 a1
    · rw [if_neg h2]
      exact rterm_out B bi bt cf d es pc pd pl cc cd cl w0 i hB hl hbi hn (by unfold inB at h2; omega)
theorem folL_len {bi : Int} {es : List (Int × Int × Int × List Int)} : ∀ l2, (folL bi es l2).length ≤ es.length + l2.length
  | [] => Nat.le_add_right _ _
  | e :: r => by
    show (cutL bi es e.1 ++ (e :: r).take (runN (bi + (cutL bi es e.1).length) (e :: r))).length ≤ _
    rw [List.length_append, List.length_take]
    have := cutL_len bi es e.1
    omega
theorem folR_len {prev bi : Int} {es ls : List (Int × Int × Int × List Int)} : (folR prev bi es ls).2.1.length ≤ es.length + ls.length := by
  unfold folR
  refine Nat.le_trans (folL_len _) ?_
  rw [List.length_drop, List.length_take]; omega
theorem follow_ex (X : Cx) (B : Nat) (bi bt : Int) (cf d : List Int) (es : List (Int × Int × Int × List Int)) (pc pd pl : Option Addr) (cc cd cl : Nat) (prev tm : Int) (ls : List (Int × Int × Int × List Int)) (pa : Option Addr) (nn ca : Nat) (w0 : World) (hbi : -1000000000000000000 ≤ bi ∧ bi ≤ 1000000000000000000) (hpv : bi ≤ prev ∧ prev ≤ 1000000000000000000) (hn : es.length + ls.length ≤ 1000000) (hok : EntsOk ls) (m0 : MemOk X w0 [(1, .box B 56 [.int .i64 bi, .int .i64 bt, .slice pc cf.length cc, .slice pd d.length cd, .slice pl (es.map entD).length cl]), (2, .seg (.slice pl (es.map entD).length cl) 32 4 (es.map entD)), (3, .dat (.slice pc cf.length cc) (.ns .i64 cf)), (4, .dat (.slice pd d.length cd) (.ns .u8 d)), (5, .dat (.slice pa nn ca) (.l 4 (ls.map entD)))] w0) :
    Calls Try.prog 13 #[.pointer (some ⟨B, 0, none⟩), .int .i64 prev, .int .i64 tm, .slice pa nn ca] w0 fun e w' => ∃ (bb : Bool) (kx : Int) (es' x2 : List (Int × Int × Int × List Int)) (pl' : Option Addr) (cl' : Nat) (pr : Option Addr) (cr : Nat), e = .returned (.tuple #[.slice pr (x2.map entD).length cr, .int .i64 kx, .bool bb]) ∧ (bb = false → es' = es ∧ (bi + es.length < prev ∨ ¬ termL bi bt es prev = tm)) ∧ (bb = true → folR prev bi es ls = (x2, es', kx) ∧ (bi ≤ prev → prev ≤ bi + es.length ∧ termL bi bt es prev = tm)) ∧ es'.length ≤ es.length + ls.length ∧ MemOk X w0 [(1, .box B 56 [.int .i64 bi, .int .i64 bt, .slice pc cf.length cc, .slice pd d.length cd, .slice pl' (es'.map entD).length cl']), (2, .seg (.slice pl' (es'.map entD).length cl') 32 4 (es'.map entD)), (3, .dat (.slice pc cf.length cc) (.ns .i64 cf)), (4, .dat (.slice pd d.length cd) (.ns .u8 d)), (5, .dat (.slice pr (x2.map entD).length cr) (.l 4 (x2.map entD)))] w' := by
  by_cases h : prev ≤ bi + es.length ∧ termL bi bt es prev = tm
  · refine (follow_is X B bi bt cf d es pc pd pl cc cd cl prev tm ls pa nn ca w0 (l2 := (folR prev bi es ls).1) (es' := (folR prev bi es ls).2.1) (last := (folR prev bi es ls).2.2) hbi (by omega) hn hok (fun _ => h) rfl m0).mono ?_
    rintro e w' ⟨pl', cl', pr, cr, rfl, hm⟩
    exact ⟨true, _, _, _, pl', cl', pr, cr, rfl, (fun h => by cases h), fun _ => ⟨rfl, fun _ => h⟩, folR_len, hm⟩
  · have hno : bi + es.length < prev ∨ ¬ termL bi bt es prev = tm := by
      by_cases h1 : prev ≤ bi + es.length
      · exact .inr (fun h2 => h ⟨h1, h2⟩)
      · exact .inl (by omega)
    refine (follow_no X B bi bt cf d es pc pd pl cc cd cl prev tm ls pa nn ca w0 hbi (by omega) hpv.1 hno m0).mono ?_
    rintro e w' ⟨rfl, hm⟩
    exact ⟨false, 0, es, [], pl, cl, none, 0, rfl, fun _ => ⟨rfl, hno⟩, (fun h => by cases h), by omega, (hm.dat 5 rfl (.l0 none 0 4)).only [1, 2, 3, 4, 5]⟩
theorem term_at' {es : List (Int × Int × Int × List Int)} {n j : Nat} (h : n + j < es.length) : termL 0 0 es ((n : Int) + 1 + j) = (es.getD (n + j) e0).2.1 := by
  unfold termL
  rw [if_neg (by omega), if_pos (by unfold inB; omega)]
  congr 3; omega
theorem tw_mem {p : Int × Int × Int × List Int → Bool} : ∀ {l : List (Int × Int × Int × List Int)} {x : Int × Int × Int × List Int}, x ∈ l.takeWhile p → p x = true
  | [], x, h => by cases h
  | a :: l, x, h => by
    rw [List.takeWhile_cons] at h
    split at h
    · rename_i ha
      rcases List.mem_cons.1 h with rfl | h
      · exact ha
      · exact tw_mem h
    · cases h
theorem fol_law {em eh ll x2 es' : List (Int × Int × Int × List Int)} {kx : Int} {n : Nat} (hm : Seq 0 em) (hh : Seq 0 eh) (hl : eh.drop n = ll) (hn : n ≤ eh.length) (hnm : n ≤ em.length) (hR : folR (n : Int) 0 em ll = (x2, es', kx)) :
    kx = eh.length ∧ eh.length ≤ es'.length ∧ ∀ j, n ≤ j → j < eh.length → (es'.getD j e0).2.1 = (eh.getD j e0).2.1 := by
  have hll : ll.length = eh.length - n := by rw [← hl, List.length_drop]
  have hsl : Seq (n : Int) ll := by have := hh.drop n; rw [hl] at this; simpa using this
  have hget : ∀ j, ll.getD j e0 = eh.getD (n + j) e0 := fun j => by rw [← hl, List.getD, List.getElem?_drop]; rfl
  unfold folR at hR
  simp only [hsl.run, Prod.mk.injEq] at hR
  obtain ⟨r1, r2, r3⟩ := hR
  obtain ⟨s, hs⟩ : ∃ s, skipN 0 em ll = s := ⟨_, rfl⟩
  rw [hs] at r1 r2
  have hsle : s ≤ ll.length := by rw [← hs]; unfold skipN; exact (List.takeWhile_sublist _).length_le
  have hskip : ∀ j, j < s → skipB 0 em (ll.getD j e0) = true := by
    intro j hj
    have hmem : ll.getD j e0 ∈ ll.takeWhile (skipB 0 em) := by
      have htw : ll.takeWhile (skipB 0 em) = ll.take s := by
        rw [← hs]; unfold skipN
        exact (List.prefix_iff_eq_take.1 (List.takeWhile_prefix _))
      rw [htw, List.getD, List.getElem?_eq_getElem (by omega)]
      exact List.mem_take_iff_getElem.2 ⟨j, by omega, rfl⟩
    exact tw_mem hmem
  have hterm : ∀ j, j < s → n + j < em.length ∧ (em.getD (n + j) e0).2.1 = (eh.getD (n + j) e0).2.1 := by
    intro j hj
    have h1 := hskip j hj
    have h2 := hsl j (by omega)
    unfold skipB hasB at h1
    rw [h2] at h1
    simp only [Bool.or_eq_true, decide_eq_true_eq] at h1
    rcases h1 with h1 | ⟨h1, h3⟩
    · omega
    · unfold inB at h1
      rw [show ((n : Int) + 1 + j - 0 - 1).toNat = n + j by omega, hget] at h3
      exact ⟨by omega, h3⟩
  refine ⟨by rw [← r3]; omega, ?_⟩
  cases hx : ll.drop s with
  | nil =>
    have hsl' : s = ll.length := by have := congrArg List.length hx; rw [List.length_drop] at this; simp at this; omega
    rw [hx] at r2
    have he : em = es' := r2
    subst he
    refine ⟨?_, fun j h1 h2 => ?_⟩
    · by_cases h0 : s = 0
      · omega
      · have := (hterm (s - 1) (by omega)).1; omega
    · have := (hterm (j - n) (by omega)).2
      rwa [show n + (j - n) = j by omega] at this
  | cons e r =>
    have hlt : s < ll.length := by
      have := congrArg List.length hx; rw [List.length_drop] at this; simp at this; omega
    have hei : e = ll.getD s e0 := by
      have : (ll.drop s)[0]? = some e := by rw [hx]; rfl
      rw [List.getElem?_drop, Nat.add_zero] at this
      rw [List.getD, this]; rfl
    have he1 : e.1 = (n : Int) + 1 + s := by rw [hei]; exact hsl s hlt
    have hns : n + s ≤ em.length := by
      by_cases h0 : s = 0
      · omega
      · have := (hterm (s - 1) (by omega)).1; omega
    have hcut : cutL 0 em e.1 = em.take (n + s) := by
      unfold cutL
      by_cases hin : inB 0 em e.1
      · rw [if_pos hin, show (e.1 - 0 - 1).toNat = n + s by omega]
      · rw [if_neg hin, List.take_of_length_le]
        unfold inB at hin; omega
    have hcl : (em.take (n + s)).length = n + s := by rw [List.length_take]; omega
    have hs2 : Seq ((n : Int) + s) (ll.drop s) := hsl.drop s
    rw [hx] at r2 hs2
    have hr2 : em.take (n + s) ++ (e :: r) = es' := by
      have : folL 0 em (e :: r) = cutL 0 em e.1 ++ (e :: r).take (runN (0 + (cutL 0 em e.1).length) (e :: r)) := rfl
      rw [this, hcut, hcl, show ((0 : Int) + ((n + s : Nat) : Int)) = (n : Int) + s by omega, hs2.run] at r2
      exact r2
    have hel : (e :: r).length = ll.length - s := by rw [← hx, List.length_drop]
    refine ⟨by rw [← hr2, List.length_append, hcl, hel]; omega, fun j h1 h2 => ?_⟩
    rw [← hr2, List.getD]
    by_cases hjs : j < n + s
    · rw [List.getElem?_append_left (by rw [hcl]; exact hjs), List.getElem?_take_of_lt hjs]
      have := (hterm (j - n) (by omega)).2
      rw [show n + (j - n) = j by omega] at this
      exact this
    · rw [List.getElem?_append_right (by rw [hcl]; omega), hcl, ← hx, List.getElem?_drop]
      have := hget (j - n)
      rw [show n + (j - n) = j by omega] at this
      rw [show s + (j - (n + s)) = j - n by omega]
      rw [List.getD] at this
      exact congrArg (fun x : Int × Int × Int × List Int => x.2.1) this
set_option maxRecDepth 100000
set_option maxHeartbeats 4000000
theorem logfollows_walk (mine his : List Int) (prv : Nat) (p1 p2 : Option Addr) (c1 c2 : Nat) (w0 : World) (hprv : prv ≤ 255) (hm0 : Rd (fun _ => True) w0 (.slice p1 mine.length c1) (.ns .u8 mine)) (hh0 : Rd (fun _ => True) w0 (.slice p2 his.length c2) (.ns .u8 his)) (hmb : ∀ j, j < mine.length → 0 ≤ mine.getD j 0 ∧ mine.getD j 0 ≤ 255) (hhb : ∀ j, j < his.length → 0 ≤ his.getD j 0 ∧ his.getD j 0 ≤ 255) :
    Calls Try.prog 4 #[.slice p1 mine.length c1, .slice p2 his.length c2, .int .u8 (prv : Int)] w0 fun e w' => e = .returned (.bool true) ∧ Below w0.heap.size w0 w' := by
  refine enter (fn := Try.f4) Try.func4 rfl Try.ntmps4 rfl (fun a0 ha0 => ?_)
  simp only [List.zipIdx_cons, List.zipIdx_nil, List.map_cons, List.map_nil, Nat.reduceAdd, Nat.zero_add] at ha0
  have m0 := MemOk.start (fun _ => False) w0
  refine wp_seq_k (fun K0 hK0 => ?_)
  refine wp_region_lit ?_
  refine st_y ha0 rfl (y_assign ha0 rfl) ?_
  clear ha0 a0; intro a1 ha1
  refine wpList_nil ?_
  refine hK0 _ _ ?_; clear hK0; try clear K0
  refine wp_seq_k (fun K1 hK1 => ?_)
  refine wp_seq_k (fun K2 hK2 => ?_)
  refine wp_region_lit ?_
  refine wpList_plain rfl (fun K hK => ?_)
  refine e_call ha1 Try.func7 rfl rfl rfl rfl (lknown_any _) ?_
  rintro e w2 ⟨rfl, hb2⟩
  have m3 := m0.later hb2
  clear m0
  clear hb2
  refine ⟨_, rfl, fun a4 ha4 => ?_⟩; clear ha1 a1
  refine hK _ _ ?_; clear hK K
  refine st_y ha4 rfl (y_not ha4 rfl) ?_
  clear ha4 a4; intro a5 ha5
  refine wpList_nil ?_
  refine hK2 _ _ ?_; clear hK2; try clear K2
  refine wp_cond_false (ha5.ev (x := .tmp 17) rfl) ?_
  refine wp_skip ?_
  refine hK1 _ _ ?_; clear hK1; try clear K1
  refine wp_seq_k (fun K3 hK3 => ?_)
  refine wp_seq_k (fun K4 hK4 => ?_)
  refine wp_region_lit ?_
  refine st_y ha5 rfl (y_move ha5 rfl) ?_
  clear ha5 a5; intro a6 ha6
  refine st_y ha6 rfl (y_len ha6 rfl Try.underlying23) ?_
  clear ha6 a6; intro a7 ha7
  refine st_y ha7 rfl (y_gtr ha7 rfl rfl) ?_
  clear ha7 a7; intro a8 ha8
  refine st_y ha8 rfl (y_move ha8 rfl) ?_
  clear ha8 a8; intro a9 ha9
  refine bool_cases ha9 (t := 21) rfl (fun hb10 ha10 => ?_) (fun hb10 ha10 => ?_)
  · skip
    clear ha9
    try simp only [decide_eq_true_eq, decide_eq_false_iff_not, Bool.not_eq_true, Bool.not_eq_false, Bool.not_eq_eq_eq_not, Bool.not_true, Bool.not_false, Bool.not_not, Int.not_lt, Int.not_le, ne_eq, Decidable.not_not] at hb10
    refine st_skip ha10 rfl rfl rfl rfl ?_
    clear ha10 a9; intro a11 ha11
    refine st_skip ha11 rfl rfl rfl rfl ?_
    clear ha11 a11; intro a12 ha12
    refine st_skip ha12 rfl rfl rfl rfl ?_
    clear ha12 a12; intro a13 ha13
    refine st_y ha13 rfl (y_pickT ha13 rfl rfl) ?_
    clear ha13 a13; intro a14 ha14
    refine wpList_nil ?_
    refine hK4 _ _ ?_; clear hK4; try clear K4
    refine wp_cond_true (ha14.ev (x := .tmp 25) rfl) ?_
    refine wp_seq_k (fun K5 hK5 => ?_)
    have ha15 : Has 104 [(0, _), (1, _), (2, _), (6, _)] a14 := ha14.only [0, 1, 2, 6]; clear ha14
    refine wp_region_lit ?_
    refine st_y ha15 rfl (y_assign ha15 rfl) ?_
    clear ha15 a14; intro a16 ha16
    refine wpList_nil ?_
    refine hK5 _ _ ?_; clear hK5; try clear K5
    refine wp_ret ?_
    try dsimp only [Exit.then, Exit.inBlock]
    refine (ret1 (fn := Try.f4) ha16 rfl rfl ?_)
    exact ⟨(by first | rfl | simp), m3.below⟩
  · skip
    clear ha9
    try simp only [decide_eq_true_eq, decide_eq_false_iff_not, Bool.not_eq_true, Bool.not_eq_false, Bool.not_eq_eq_eq_not, Bool.not_true, Bool.not_false, Bool.not_not, Int.not_lt, Int.not_le, ne_eq, Decidable.not_not] at hb10
    refine st_g ha10 rfl rfl rfl rfl (y_move ha10 rfl) ?_
    clear ha10 a9; intro a17 ha17
    refine st_g ha17 rfl rfl rfl rfl (y_len ha17 rfl Try.underlying23) ?_
    clear ha17 a17; intro a18 ha18
    refine st_g ha18 rfl rfl rfl rfl (y_gtr ha18 rfl rfl) ?_
    clear ha18 a18; intro a19 ha19
    refine st_y ha19 rfl (y_pickF ha19 rfl rfl) ?_
    clear ha19 a19; intro a20 ha20
    refine wpList_nil ?_
    refine hK4 _ _ ?_; clear hK4; try clear K4
    refine bool_cases ha20 (t := 25) rfl (fun hb21 ha21 => ?_) (fun hb21 ha21 => ?_)
    · skip
      clear ha20
      try simp only [decide_eq_true_eq, decide_eq_false_iff_not, Bool.not_eq_true, Bool.not_eq_false, Bool.not_eq_eq_eq_not, Bool.not_true, Bool.not_false, Bool.not_not, Int.not_lt, Int.not_le, ne_eq, Decidable.not_not] at hb21
      refine wp_cond_true (ha21.ev (x := .tmp 25) rfl) ?_
      refine wp_seq_k (fun K6 hK6 => ?_)
      have ha22 : Has 104 [(0, _), (1, _), (2, _), (6, _)] a20 := ha21.only [0, 1, 2, 6]; clear ha21
      refine wp_region_lit ?_
      refine st_y ha22 rfl (y_assign ha22 rfl) ?_
      clear ha22 a20; intro a23 ha23
      refine wpList_nil ?_
      refine hK6 _ _ ?_; clear hK6; try clear K6
      refine wp_ret ?_
      try dsimp only [Exit.then, Exit.inBlock]
      refine (ret1 (fn := Try.f4) ha23 rfl rfl ?_)
      exact ⟨(by first | rfl | simp), m3.below⟩
    · skip
      clear ha20
      try simp only [decide_eq_true_eq, decide_eq_false_iff_not, Bool.not_eq_true, Bool.not_eq_false, Bool.not_eq_eq_eq_not, Bool.not_true, Bool.not_false, Bool.not_not, Int.not_lt, Int.not_le, ne_eq, Decidable.not_not] at hb21
      obtain ⟨em, hem⟩ : ∃ x, entsN 1 mine mine.length = x := ⟨_, rfl⟩
      obtain ⟨eh, heh⟩ : ∃ x, entsN 1 his his.length = x := ⟨_, rfl⟩
      have heml : em.length = mine.length := by rw [← hem, entsN_len]
      have hehl : eh.length = his.length := by rw [← heh, entsN_len]
      have hsm : Seq 0 em := by rw [← hem]; exact seq_ents 1 mine
      have hsh : Seq 0 eh := by rw [← heh]; exact seq_ents 1 his
      have hmok : EntsOk em := by rw [← hem]; exact ents_ok hmb
      have hhok : EntsOk eh := by rw [← heh]; exact ents_ok hhb
      have hrm : em.take (runN 0 em) = em := hsm.run
      have hrh : eh.take (runN 0 eh) = eh := hsh.run
      obtain ⟨nn, hnn⟩ : ∃ x, prv % (his.length + 1) = x := ⟨_, rfl⟩
      have hnl : nn ≤ his.length := by rw [← hnn]; have := Nat.mod_lt prv (show 0 < his.length + 1 by omega); omega
      obtain ⟨ll, hll⟩ : ∃ x, eh.drop nn = x := ⟨_, rfl⟩
      have hlll : ll.length = eh.length - nn := by rw [← hll, List.length_drop]
      have hfr : rfr eh ((nn : Int) + 1) (his.length : Int) eh.length = ll := by
        rw [rfr_seq hsh _ (Nat.le_refl _), List.take_length, show ((nn : Int) + 1 - 0 - 1).toNat = nn from by omega, hll]
        exact List.take_of_length_le (by rw [hlll]; omega)
      have hlok : EntsOk ll := fun e he => hhok e (by rw [← hll] at he; exact List.mem_of_mem_drop he)
      refine wp_cond_false (ha21.ev (x := .tmp 25) rfl) ?_
      refine wp_skip ?_
      refine hK3 _ _ ?_; clear hK3; try clear K3
      refine wp_seq_k (fun K7 hK7 => ?_)
      have ha24 : Has 104 [(0, _), (1, _), (2, _), (6, _)] a20 := ha21.only [0, 1, 2, 6]; clear ha21
      refine wp_region_lit ?_
      refine wpList_plain rfl (fun K hK => ?_)
      refine e_litN ha24 m3 40 (k := .i64) rfl rfl Try.underlying26 inf3lf rfl rfl rfl rfl ?_
      clear ha24 a20 m3; intro g25 a26 w26 ha26 m26 
      refine hK _ _ ?_; clear hK K
      refine st_y ha26 rfl (y_build ha26 rfl zc28lf fl28lf rfl (by dsimp only [setL, List.set] <;> rfl)) ?_
      clear ha26 a26; intro a27 ha27
      refine wpList_plain rfl (fun K hK => ?_)
      refine e_alloc ha27 m26 41 zc28lf rfl ?_
      clear ha27 a27 m26; intro g28 a29 w29 ha29 m29 hB29 hg29
      clear hB29 hg29
      refine hK _ _ ?_; clear hK K
      refine wpList_plain rfl (fun K hK => ?_)
      refine e_storeW ha29 m29 41 rfl rfl rfl rfl rfl sz28lf ?_
      clear m29; intro w30 m30 hB30
      clear hB30
      refine hK _ _ ?_; clear hK K
      refine wpList_nil ?_
      refine hK7 _ _ ?_; clear hK7; try clear K7
      refine wp_seq_k (fun K8 hK8 => ?_)
      have m31 : MemOk _ _ [(40, _), (41, _)] _ := m30.only [40, 41]; clear m30
      refine region_m 5 (B := [(41, _)]) (m31.to ⟨.inl rfl, trivial⟩) m31 (by kernel_rfl) (fun w32 mB32 m32 => ?_); clear m31 mB32
      refine d_h 0 ha29 rfl rfl (m32.to ⟨.inl rfl, trivial⟩) (by kernel_rfl) (by kernel_rfl) (by kernel_rfl) (by kernel_rfl) (by kernel_rfl) (fun _ _ _ h => h) (fun W hW => y_loadBR ha29 hW (i := 41) rfl rfl Try.underlying28 rfl sz28lf (by simp) (by dsimp only [List.drop, List.take] <;> rfl)) ?_
      clear ha29 a29; intro a33 ha33
      refine d_y 1 ha33 rfl rfl (fun _ => (m32.to ⟨.inl rfl, trivial⟩)) (by kernel_rfl) (by kernel_rfl) (by kernel_rfl) (by rfl) (fun _ _ _ h => h) (fun W => y_move ha33 rfl) ?_
      clear ha33 a33; intro a34 ha34
      refine stepE_only 2 rfl (by kernel_rfl) rfl (fun K hK => ?_)
      refine e_call ha34 Try.func8 rfl rfl rfl rfl (ents_any 1 mine _ _ _ ((hm0.now' m32 rfl).any) (by decide) (by omega) hmb) ?_
      rintro e w35 ⟨p35, c35, rfl, hd35, hb35⟩
      have m36 := m32.callF 42 rfl hb35 hd35
      clear m32
      clear hb35 hd35
      refine ⟨_, rfl, fun a37 ha37 => ?_⟩; clear ha34 a34
      refine hK _ _ (m36.to ⟨.inl rfl, trivial⟩) ?_; clear hK K
      rw [hem] at m36 ha37
      have m38 := m36.freezeN 40 rfl; clear m36
      have m39 := m38.dat 43 rfl (m38.rd (i := 40) rfl); clear m38
      have m40 := m39.dat 44 rfl (Rd.nilN _ _ .u8 none); clear m39
      have m41 := m40.dat 45 rfl (m40.rd (i := 42) rfl); clear m40
      refine stepE_only 3 rfl (by kernel_rfl) rfl (fun K hK => ?_)
      refine e_call ha37 Try.func9 rfl rfl rfl rfl (new_is _ 0 0 [0] [] em _ _ _ _ _ _ _ _ (by decide) (by decide) (by decide) (by omega) hmok hrm (m41.into [(5, 43), (6, 44), (7, 45)] (by decide) rfl)) ?_
      rintro e w42 ⟨B42, pc42, cc42, pd42, cd42, pl42, cl42, rfl, hm42⟩
      have mx42 := m41.back hm42 [(11, 1), (12, 2), (13, 3), (14, 4)] (by decide); clear hm42 m41
      have m42 : MemOk _ _ [(11, _), (12, _), (13, _), (14, _), (40, _), (41, _), (42, _)] _ := mx42.only [11, 12, 13, 14, 40, 41, 42]; clear mx42
      refine ⟨_, rfl, fun a43 ha43 => ?_⟩; clear ha37 a37
      refine hK _ _ (m42.to ⟨.inl rfl, trivial⟩) ?_; clear hK K
      refine d_y 4 ha43 rfl rfl (fun _ => (m42.to ⟨.inl rfl, trivial⟩)) (by kernel_rfl) (by kernel_rfl) (by kernel_rfl) (by rfl) (fun _ _ _ h => h) (fun W => y_assign ha43 rfl) ?_
      clear ha43 a43; intro a44 ha44
      refine wpAnyE_done (by kernel_rfl) ?_ _
      refine hK8 _ _ ?_; clear hK8; try clear K8
      refine wp_seq_k (fun K9 hK9 => ?_)
      have ha45 : Has 104 [(1, _), (2, _), (6, _), (7, _), (8, _)] a44 := ha44.only [1, 2, 6, 7, 8]; clear ha44
      have m46 : MemOk _ _ [(11, _), (12, _), (13, _), (14, _), (40, _), (41, _), (42, _)] _ := m42.only [11, 12, 13, 14, 40, 41, 42]; clear m42
      refine region_m 5 (B := [(41, _)]) (m46.to ⟨.inl rfl, trivial⟩) m46 (by kernel_rfl) (fun w47 mB47 m47 => ?_); clear m46 mB47
      refine d_h 0 ha45 rfl rfl (m47.to ⟨.inl rfl, trivial⟩) (by kernel_rfl) (by kernel_rfl) (by kernel_rfl) (by kernel_rfl) (by kernel_rfl) (fun _ _ _ h => h) (fun W hW => y_loadBR ha45 hW (i := 41) rfl rfl Try.underlying28 rfl sz28lf (by simp) (by dsimp only [List.drop, List.take] <;> rfl)) ?_
      clear ha45 a44; intro a48 ha48
      refine d_y 1 ha48 rfl rfl (fun _ => (m47.to ⟨.inl rfl, trivial⟩)) (by kernel_rfl) (by kernel_rfl) (by kernel_rfl) (by rfl) (fun _ _ _ h => h) (fun W => y_move ha48 rfl) ?_
      clear ha48 a48; intro a49 ha49
      refine stepE_only 2 rfl (by kernel_rfl) rfl (fun K hK => ?_)
      refine e_call ha49 Try.func8 rfl rfl rfl rfl (ents_any 1 his _ _ _ ((hh0.now' m47 rfl).any) (by decide) (by omega) hhb) ?_
      rintro e w50 ⟨p50, c50, rfl, hd50, hb50⟩
      have m51 := m47.callF 46 rfl hb50 hd50
      clear m47
      clear hb50 hd50
      refine ⟨_, rfl, fun a52 ha52 => ?_⟩; clear ha49 a49
      refine hK _ _ (m51.to ⟨.inl rfl, trivial⟩) ?_; clear hK K
      rw [heh] at m51 ha52
      have m53 := m51.dat 47 rfl (m51.rd (i := 40) rfl); clear m51
      have m54 := m53.dat 48 rfl (Rd.nilN _ _ .u8 none); clear m53
      have m55 := m54.dat 49 rfl (m54.rd (i := 46) rfl); clear m54
      refine stepE_only 3 rfl (by kernel_rfl) rfl (fun K hK => ?_)
      refine e_call ha52 Try.func10 rfl rfl rfl rfl (rnew_fr _ 0 0 [0] [] eh _ _ _ _ _ _ _ _ (by decide) (by omega) (m55.into [(5, 47), (6, 48), (7, 49)] (by decide) rfl)) ?_
      rintro e w56 ⟨B56, pl56, cl56, rfl, hm56⟩
      have mx56 := m55.back hm56 [(21, 1), (22, 2), (23, 3), (24, 4)] (by decide); clear hm56 m55
      have m56 : MemOk _ _ [(21, _), (22, _), (23, _), (24, _), (11, _), (12, _), (13, _), (14, _), (40, _), (41, _), (42, _), (46, _)] _ := mx56.only [21, 22, 23, 24, 11, 12, 13, 14, 40, 41, 42, 46]; clear mx56
      refine ⟨_, rfl, fun a57 ha57 => ?_⟩; clear ha52 a52
      refine hK _ _ (m56.to ⟨.inl rfl, trivial⟩) ?_; clear hK K
      rw [hrh] at m56
      refine d_y 4 ha57 rfl rfl (fun _ => (m56.to ⟨.inl rfl, trivial⟩)) (by kernel_rfl) (by kernel_rfl) (by kernel_rfl) (by rfl) (fun _ _ _ h => h) (fun W => y_assign ha57 rfl) ?_
      clear ha57 a57; intro a58 ha58
      refine wpAnyE_done (by kernel_rfl) ?_ _
      refine hK9 _ _ ?_; clear hK9; try clear K9
      refine wp_seq_k (fun K10 hK10 => ?_)
      refine wp_region_lit ?_
      refine st_y ha58 rfl (y_move ha58 rfl) ?_
      clear ha58 a58; intro a59 ha59
      refine st_y ha59 rfl (y_conv ha59 rfl Try.underlying5 Try.underlying3 (r := (prv : Int)) (IntWalk.i64_in _ (by omega))) ?_
      clear ha59 a59; intro a60 ha60
      refine st_y ha60 rfl (y_move ha60 rfl) ?_
      clear ha60 a60; intro a61 ha61
      refine st_y ha61 rfl (y_len ha61 rfl Try.underlying23) ?_
      clear ha61 a61; intro a62 ha62
      refine st_y ha62 rfl (y_add ha62 rfl rfl (r := ((his.length + 1 : Nat) : Int)) (by rw [IntWalk.i64_in _ (by omega)]; omega)) ?_
      clear ha62 a62; intro a63 ha63
      refine st_y ha63 rfl (y_rem ha63 rfl rfl (by omega) (r := (nn : Int)) (by rw [tmod_nat, hnn])) ?_
      clear ha63 a63; intro a64 ha64
      refine st_y ha64 rfl (y_assign ha64 rfl) ?_
      clear ha64 a64; intro a65 ha65
      refine wpList_nil ?_
      refine hK10 _ _ ?_; clear hK10; try clear K10
      refine wp_seq_k (fun K11 hK11 => ?_)
      have ha66 : Has 104 [(1, _), (6, _), (8, _), (9, _), (10, _)] a65 := ha65.only [1, 6, 8, 9, 10]; clear ha65
      refine wp_region_lit ?_
      refine st_y ha66 rfl (y_move ha66 rfl) ?_
      clear ha66 a65; intro a67 ha67
      refine st_y ha67 rfl (y_move ha67 rfl) ?_
      clear ha67 a67; intro a68 ha68
      refine st_y ha68 rfl (y_add ha68 rfl rfl (r := (nn : Int) + 1) (IntWalk.i64_in _ (by omega))) ?_
      clear ha68 a68; intro a69 ha69
      refine st_y ha69 rfl (y_move ha69 rfl) ?_
      clear ha69 a69; intro a70 ha70
      refine st_y ha70 rfl (y_len ha70 rfl Try.underlying23) ?_
      clear ha70 a70; intro a71 ha71
      refine wpList_plain rfl (fun K hK => ?_)
      refine e_call ha71 Try.func24 rfl rfl rfl rfl (rfrom_fr _ _ 0 0 [0] [] eh _ _ _ _ _ _ ((nn : Int) + 1) (his.length : Int) _ (by omega) (m56.into [(1, 21), (2, 22), (3, 23), (4, 24)] (by decide) rfl)) ?_
      rintro e w72 ⟨pl72, cl72, pr72, cr72, rfl, hm72⟩
      have mx72 := m56.back hm72 [(21, 1), (22, 2), (23, 3), (24, 4), (30, 5)] (by decide); clear hm72 m56
      have m72 : MemOk _ _ [(21, _), (22, _), (23, _), (24, _), (30, _), (11, _), (12, _), (13, _), (14, _), (40, _), (41, _), (42, _), (46, _)] _ := mx72.only [21, 22, 23, 24, 30, 11, 12, 13, 14, 40, 41, 42, 46]; clear mx72
      refine ⟨_, rfl, fun a73 ha73 => ?_⟩; clear ha71 a71
      refine hK _ _ ?_; clear hK K
      rw [hfr] at m72 ha73
      refine st_y ha73 rfl (y_assign ha73 rfl) ?_
      clear ha73 a73; intro a74 ha74
      refine wpList_nil ?_
      refine hK11 _ _ ?_; clear hK11; try clear K11
      refine wp_seq_k (fun K12 hK12 => ?_)
      have ha75 : Has 104 [(1, _), (6, _), (8, _), (9, _), (10, _), (11, _)] a74 := ha74.only [1, 6, 8, 9, 10, 11]; clear ha74
      refine wp_region_lit ?_
      refine st_y ha75 rfl (y_move ha75 rfl) ?_
      clear ha75 a74; intro a76 ha76
      refine st_y ha76 rfl (y_move ha76 rfl) ?_
      clear ha76 a76; intro a77 ha77
      refine st_y ha77 rfl (y_move ha77 rfl) ?_
      clear ha77 a77; intro a78 ha78
      refine st_y ha78 rfl (y_move ha78 rfl) ?_
      clear ha78 a78; intro a79 ha79
      refine wpList_plain rfl (fun K hK => ?_)
      refine e_call ha79 Try.func12 rfl rfl rfl rfl (rterm_any _ 0 0 [0] [] eh _ _ _ _ _ _ _ _ (m72.ok 21 _ rfl : Res.ok _ _ _ _ (.box _ _ _)).1 ((m72.ok 22 _ rfl : Res.ok _ _ _ _ (.seg _ _ _ _)).1.rd (S' := fun _ => True) (fun _ _ _ => trivial) (fun _ _ => trivial)) (by decide) (by omega)) ?_
      rintro e w80 ⟨rfl, hb80⟩
      have m81 := m72.later hb80
      clear m72
      clear hb80
      refine ⟨_, rfl, fun a82 ha82 => ?_⟩; clear ha79 a79
      refine hK _ _ ?_; clear hK K
      refine st_y ha82 rfl (y_move ha82 rfl) ?_
      clear ha82 a82; intro a83 ha83
      have m84 := m81.dat 50 rfl (m81.rd (i := 30) rfl); clear m81
      refine wpList_plain rfl (fun K hK => ?_)
      refine e_call ha83 Try.func13 rfl rfl rfl rfl (follow_ex _ _ 0 0 [0] [] em _ _ _ _ _ _ (nn : Int) _ ll _ _ _ _ (by decide) (by omega) (by omega) hlok (m84.into [(1, 11), (2, 12), (3, 13), (4, 14), (5, 50)] (by decide) rfl)) ?_
      rintro e w85 ⟨bb, kx, es', x2, pl85, cl85, pr85, cr85, rfl, hbf, hbt, hesl, hm85⟩
      have mx85 := m84.back hm85 [(11, 1), (12, 2), (13, 3), (14, 4), (50, 5)] (by decide); clear hm85 m84
      have m85 : MemOk _ _ [(11, _), (12, _), (13, _), (14, _), (50, _), (21, _), (22, _), (23, _), (24, _), (30, _), (40, _), (41, _), (42, _), (46, _)] _ := mx85.only [11, 12, 13, 14, 50, 21, 22, 23, 24, 30, 40, 41, 42, 46]; clear mx85
      refine ⟨_, rfl, fun a86 ha86 => ?_⟩; clear ha83 a83
      refine hK _ _ ?_; clear hK K
      refine st_y ha86 rfl (y_move ha86 rfl) ?_
      clear ha86 a86; intro a87 ha87
      refine st_y ha87 rfl (y_extract ha87 rfl rfl) ?_
      clear ha87 a87; intro a88 ha88
      refine st_y ha88 rfl (y_extract ha88 rfl rfl) ?_
      clear ha88 a88; intro a89 ha89
      refine st_y ha89 rfl (y_extract ha89 rfl rfl) ?_
      clear ha89 a89; intro a90 ha90
      refine st_y ha90 rfl (y_assign ha90 rfl) ?_
      clear ha90 a90; intro a91 ha91
      refine st_y ha91 rfl (y_assign ha91 rfl) ?_
      clear ha91 a91; intro a92 ha92
      refine st_y ha92 rfl (y_assign ha92 rfl) ?_
      clear ha92 a92; intro a93 ha93
      refine wpList_nil ?_
      refine hK12 _ _ ?_; clear hK12; try clear K12
      refine wp_seq_k (fun K13 hK13 => ?_)
      refine wp_seq_k (fun K14 hK14 => ?_)
      have ha94 : Has 104 [(1, _), (6, _), (8, _), (9, _), (10, _), (13, _), (14, _)] a93 := ha93.only [1, 6, 8, 9, 10, 13, 14]; clear ha93
      refine wp_region_lit ?_
      refine st_y ha94 rfl (y_move ha94 rfl) ?_
      clear ha94 a93; intro a95 ha95
      refine st_y ha95 rfl (y_not ha95 rfl) ?_
      clear ha95 a95; intro a96 ha96
      refine wpList_nil ?_
      refine hK14 _ _ ?_; clear hK14; try clear K14
      refine bool_cases ha96 (t := 60) rfl (fun hb97 ha97 => ?_) (fun hb97 ha97 => ?_)
      · skip
        clear ha96
        try simp only [decide_eq_true_eq, decide_eq_false_iff_not, Bool.not_eq_true, Bool.not_eq_false, Bool.not_eq_eq_eq_not, Bool.not_true, Bool.not_false, Bool.not_not, Int.not_lt, Int.not_le, ne_eq, Decidable.not_not] at hb97
        have hb1 : bb = false := by simpa using hb97
        obtain ⟨hes1, hno⟩ := hbf hb1
        refine wp_cond_true (ha97.ev (x := .tmp 60) rfl) ?_
        refine wp_seq_k (fun K15 hK15 => ?_)
        refine wp_region_lit ?_
        refine st_y ha97 rfl (y_move ha97 rfl) ?_
        clear ha97 a96; intro a98 ha98
        refine st_y ha98 rfl (y_nilCheck ha98 rfl) ?_
        clear ha98 a98; intro a99 ha99
        refine st_y ha99 rfl (y_fieldAddr ha99 (off := 0) rfl Try.underlying56 rfl (s := 4) (by kernel_rfl) rfl) ?_
        clear ha99 a99; intro a100 ha100
        refine wpList_plain rfl (fun K hK => ?_)
        refine e_call ha100 Try.func25 rfl rfl rfl rfl (last_any _ 0 (es'.map entD).length _ _ _ _ _ _ (m85.ok 11 _ rfl : Res.ok _ _ _ _ (.box _ _ _)).1 (by decide) (by rw [List.length_map]; omega)) ?_
        rintro e w101 ⟨rfl, hb101⟩
        have m102 := m85.later hb101
        clear m85
        clear hb101
        refine ⟨_, rfl, fun a103 ha103 => ?_⟩; clear ha100 a100
        refine hK _ _ ?_; clear hK K
        refine st_y ha103 rfl (y_move ha103 rfl) ?_
        clear ha103 a103; intro a104 ha104
        refine st_y ha104 rfl (y_lss ha104 rfl rfl) ?_
        clear ha104 a104; intro a105 ha105
        refine st_y ha105 rfl (y_move ha105 rfl) ?_
        clear ha105 a105; intro a106 ha106
        refine bool_cases ha106 (t := 67) rfl (fun hb107 ha107 => ?_) (fun hb107 ha107 => ?_)
        · skip
          clear ha106
          try simp only [decide_eq_true_eq, decide_eq_false_iff_not, Bool.not_eq_true, Bool.not_eq_false, Bool.not_eq_eq_eq_not, Bool.not_true, Bool.not_false, Bool.not_not, Int.not_lt, Int.not_le, ne_eq, Decidable.not_not] at hb107
          refine st_skip ha107 rfl rfl rfl rfl ?_
          clear ha107 a106; intro a108 ha108
          refine st_skip ha108 rfl rfl rfl rfl ?_
          clear ha108 a108; intro a109 ha109
          refine st_skip ha109 rfl rfl rfl rfl ?_
          clear ha109 a109; intro a110 ha110
          refine st_skip ha110 rfl rfl rfl rfl ?_
          clear ha110 a110; intro a111 ha111
          refine st_skip ha111 rfl rfl rfl rfl ?_
          clear ha111 a111; intro a112 ha112
          refine st_skip ha112 rfl rfl rfl rfl ?_
          clear ha112 a112; intro a113 ha113
          refine st_skip ha113 rfl rfl rfl rfl ?_
          clear ha113 a113; intro a114 ha114
          refine st_y ha114 rfl (y_pickT ha114 rfl rfl) ?_
          clear ha114 a114; intro a115 ha115
          refine st_y ha115 rfl (y_assign ha115 rfl) ?_
          clear ha115 a115; intro a116 ha116
          refine wpList_nil ?_
          refine hK15 _ _ ?_; clear hK15; try clear K15
          refine wp_ret ?_
          try dsimp only [Exit.then, Exit.inBlock]
          refine (ret1 (fn := Try.f4) ha116 rfl rfl ?_)
          exact ⟨(by first | rfl | simp), m102.below⟩
        · skip
          clear ha106
          try simp only [decide_eq_true_eq, decide_eq_false_iff_not, Bool.not_eq_true, Bool.not_eq_false, Bool.not_eq_eq_eq_not, Bool.not_true, Bool.not_false, Bool.not_not, Int.not_lt, Int.not_le, ne_eq, Decidable.not_not] at hb107
          refine st_g ha107 rfl rfl rfl rfl (y_move ha107 rfl) ?_
          clear ha107 a106; intro a117 ha117
          refine st_g ha117 rfl rfl rfl rfl (y_move ha117 rfl) ?_
          clear ha117 a117; intro a118 ha118
          refine st_ge ha118 rfl rfl rfl rfl (fun K hK => ?_)
          refine e_call ha118 Try.func26 rfl rfl rfl rfl (term_any _ 0 0 [0] [] es' _ _ _ _ _ _ _ _ (m102.ok 11 _ rfl : Res.ok _ _ _ _ (.box _ _ _)).1 ((m102.ok 12 _ rfl : Res.ok _ _ _ _ (.seg _ _ _ _)).1.rd (S' := fun _ => True) (fun _ _ _ => trivial) (fun _ _ => trivial)) (by decide) (by omega)) ?_
          rintro e w119 ⟨rfl, hb119⟩
          have m120 := m102.later hb119
          clear m102
          clear hb119
          refine ⟨_, rfl, fun a121 ha121 => ?_⟩; clear ha118 a118
          refine hK _ _ ?_; clear hK K
          refine st_g ha121 rfl rfl rfl rfl (y_move ha121 rfl) ?_
          clear ha121 a121; intro a122 ha122
          refine st_g ha122 rfl rfl rfl rfl (y_move ha122 rfl) ?_
          clear ha122 a122; intro a123 ha123
          refine st_ge ha123 rfl rfl rfl rfl (fun K hK => ?_)
          refine e_call ha123 Try.func12 rfl rfl rfl rfl (rterm_any _ 0 0 [0] [] eh _ _ _ _ _ _ _ _ (m120.ok 21 _ rfl : Res.ok _ _ _ _ (.box _ _ _)).1 ((m120.ok 22 _ rfl : Res.ok _ _ _ _ (.seg _ _ _ _)).1.rd (S' := fun _ => True) (fun _ _ _ => trivial) (fun _ _ => trivial)) (by decide) (by omega)) ?_
          rintro e w124 ⟨rfl, hb124⟩
          have m125 := m120.later hb124
          clear m120
          clear hb124
          refine ⟨_, rfl, fun a126 ha126 => ?_⟩; clear ha123 a123
          refine hK _ _ ?_; clear hK K
          refine st_g ha126 rfl rfl rfl rfl (y_neq ha126 rfl rfl) ?_
          clear ha126 a126; intro a127 ha127
          refine st_y ha127 rfl (y_pickF ha127 rfl rfl) ?_
          clear ha127 a127; intro a128 ha128
          refine st_y ha128 rfl (y_assign ha128 rfl) ?_
          clear ha128 a128; intro a129 ha129
          refine wpList_nil ?_
          refine hK15 _ _ ?_; clear hK15; try clear K15
          refine wp_ret ?_
          try dsimp only [Exit.then, Exit.inBlock]
          refine (ret1 (fn := Try.f4) ha129 rfl rfl ?_)
          exact ⟨(by subst hes1; have h9 := hb107; rw [List.length_map] at h9; rw [decide_eq_true (hno.resolve_left (by omega))]), m125.below⟩
      · skip
        clear ha96
        try simp only [decide_eq_true_eq, decide_eq_false_iff_not, Bool.not_eq_true, Bool.not_eq_false, Bool.not_eq_eq_eq_not, Bool.not_true, Bool.not_false, Bool.not_not, Int.not_lt, Int.not_le, ne_eq, Decidable.not_not] at hb97
        have hb1 : bb = true := by simpa using hb97
        obtain ⟨hR, hin⟩ := hbt hb1
        obtain ⟨hkx, hge, hterm⟩ := fol_law hsm hsh hll (by omega) (by have := (hin (by omega)).1; omega) hR
        refine wp_cond_false (ha97.ev (x := .tmp 60) rfl) ?_
        refine wp_skip ?_
        refine hK13 _ _ ?_; clear hK13; try clear K13
        refine wp_seq_k (fun K16 hK16 => ?_)
        refine wp_seq_k (fun K17 hK17 => ?_)
        refine wp_region_lit ?_
        refine st_y ha97 rfl (y_move ha97 rfl) ?_
        clear ha97 a96; intro a130 ha130
        refine st_y ha130 rfl (y_move ha130 rfl) ?_
        clear ha130 a130; intro a131 ha131
        refine st_y ha131 rfl (y_len ha131 rfl Try.underlying23) ?_
        clear ha131 a131; intro a132 ha132
        refine st_y ha132 rfl (y_neq ha132 rfl rfl) ?_
        clear ha132 a132; intro a133 ha133
        refine st_y ha133 rfl (y_move ha133 rfl) ?_
        clear ha133 a133; intro a134 ha134
        refine bool_cases ha134 (t := 80) rfl (fun hb135 ha135 => ?_) (fun hb135 ha135 => ?_)
        · exact absurd hb135 (by simp; omega)
        clear ha134 hb135
        refine st_g ha135 rfl rfl rfl rfl (y_move ha135 rfl) ?_
        clear ha135 a134; intro a136 ha136
        refine st_g ha136 rfl rfl rfl rfl (y_nilCheck ha136 rfl) ?_
        clear ha136 a136; intro a137 ha137
        refine st_g ha137 rfl rfl rfl rfl (y_fieldAddr ha137 (off := 0) rfl Try.underlying56 rfl (s := 4) (by kernel_rfl) rfl) ?_
        clear ha137 a137; intro a138 ha138
        refine st_ge ha138 rfl rfl rfl rfl (fun K hK => ?_)
        refine e_call ha138 Try.func25 rfl rfl rfl rfl (last_any _ 0 (es'.map entD).length _ _ _ _ _ _ (m85.ok 11 _ rfl : Res.ok _ _ _ _ (.box _ _ _)).1 (by decide) (by rw [List.length_map]; omega)) ?_
        rintro e w139 ⟨rfl, hb139⟩
        have m140 := m85.later hb139
        clear m85
        clear hb139
        refine ⟨_, rfl, fun a141 ha141 => ?_⟩; clear ha138 a138
        refine hK _ _ ?_; clear hK K
        refine st_g ha141 rfl rfl rfl rfl (y_move ha141 rfl) ?_
        clear ha141 a141; intro a142 ha142
        refine st_g ha142 rfl rfl rfl rfl (y_len ha142 rfl Try.underlying23) ?_
        clear ha142 a142; intro a143 ha143
        refine st_g ha143 rfl rfl rfl rfl (y_lss ha143 rfl rfl) ?_
        clear ha143 a143; intro a144 ha144
        refine st_y ha144 rfl (y_pickF ha144 rfl rfl) ?_
        clear ha144 a144; intro a145 ha145
        refine wpList_nil ?_
        refine hK17 _ _ ?_; clear hK17; try clear K17
        refine bool_cases ha145 (t := 88) rfl (fun hb146 ha146 => ?_) (fun hb146 ha146 => ?_)
        · exact absurd hb146 (by simp; omega)
        clear ha145 hb146
        refine wp_cond_false (ha146.ev (x := .tmp 88) rfl) ?_
        refine wp_skip ?_
        refine hK16 _ _ ?_; clear hK16; try clear K16
        refine wp_seq_k (fun K18 hK18 => ?_)
        refine wp_seq_k (fun K19 hK19 => ?_)
        have ha147 : Has 104 [(1, _), (6, _), (8, _), (9, _), (10, _)] a145 := ha146.only [1, 6, 8, 9, 10]; clear ha146
        refine wp_region_lit ?_
        refine st_y ha147 rfl (y_move ha147 rfl) ?_
        clear ha147 a145; intro a148 ha148
        refine st_y ha148 rfl (y_add ha148 rfl rfl (r := (nn : Int) + 1) (IntWalk.i64_in _ (by omega))) ?_
        clear ha148 a148; intro a149 ha149
        refine st_y ha149 rfl (y_assign ha149 rfl) ?_
        clear ha149 a149; intro a150 ha150
        refine wpList_nil ?_
        refine hK19 _ _ ?_; clear hK19; try clear K19
        refine wp_block ?_
        refine wp_loop_ghost (fun g a w => ∃ (j : Nat) (tt : Int) (BB CC : Nat) (pc1 pd1 pl1 pc2 pd2 pl2 : Option Addr) (cc1 cd1 cl1 cc2 cd2 cl2 : Nat), j ≤ eh.length - nn ∧ g = eh.length - nn - j ∧ tt = (nn : Int) + 1 + (j : Int) ∧ Has 104 [(1, .slice p2 his.length c2), (8, .pointer (some ⟨BB, 0, none⟩)), (9, .pointer (some ⟨CC, 0, none⟩)), (15, .int .i64 tt)] a ∧ MemOk (cn w0) w0 [(11, .box BB 56 [.int .i64 0, .int .i64 0, .slice pc1 ([0] : List Int).length cc1, .slice pd1 ([] : List Int).length cd1, .slice pl1 (es'.map entD).length cl1]), (12, .seg (.slice pl1 (es'.map entD).length cl1) 32 4 (es'.map entD)), (13, .dat (.slice pc1 ([0] : List Int).length cc1) (.ns .i64 ([0] : List Int))), (14, .dat (.slice pd1 ([] : List Int).length cd1) (.ns .u8 ([] : List Int))), (21, .box CC 41 [.int .i64 0, .int .i64 0, .slice pc2 ([0] : List Int).length cc2, .slice pd2 ([] : List Int).length cd2, .slice pl2 (eh.map entD).length cl2]), (22, .seg (.slice pl2 (eh.map entD).length cl2) 32 4 (eh.map entD)), (23, .dat (.slice pc2 ([0] : List Int).length cc2) (.ns .i64 ([0] : List Int))), (24, .dat (.slice pd2 ([] : List Int).length cd2) (.ns .u8 ([] : List Int)))] w) (eh.length - nn) ?_ ?_
        · exact ⟨0, _, _, _, _, _, _, _, _, _, _, _, _, _, _, _, Nat.zero_le _, rfl, (Int.add_zero _).symm, ha150.only [1, 8, 9, 15], m140.only [11, 12, 13, 14, 21, 22, 23, 24]⟩
        · skip
          clear ha150 m140
          rintro g a151 w151 ⟨j, tt, BB, CC, pc1, pd1, pl1, pc2, pd2, pl2, cc1, cd1, cl1, cc2, cd2, cl2, hjl, hg, rfl, ha151, m151⟩
          refine wp_seq_k (fun K20 hK20 => ?_)
          refine wp_seq_k (fun K21 hK21 => ?_)
          refine wp_region_lit ?_
          refine st_y ha151 rfl (y_move ha151 rfl) ?_
          clear ha151 a151; intro a152 ha152
          refine st_y ha152 rfl (y_move ha152 rfl) ?_
          clear ha152 a152; intro a153 ha153
          refine st_y ha153 rfl (y_len ha153 rfl Try.underlying23) ?_
          clear ha153 a153; intro a154 ha154
          refine st_y ha154 rfl (y_leq ha154 rfl rfl) ?_
          clear ha154 a154; intro a155 ha155
          refine wpList_nil ?_
          refine hK21 _ _ ?_; clear hK21; try clear K21
          refine bool_cases ha155 (t := 94) rfl (fun hb156 ha156 => ?_) (fun hb156 ha156 => ?_)
          · skip
            clear ha155
            try simp only [decide_eq_true_eq, decide_eq_false_iff_not, Bool.not_eq_true, Bool.not_eq_false, Bool.not_eq_eq_eq_not, Bool.not_true, Bool.not_false, Bool.not_not, Int.not_lt, Int.not_le, ne_eq, Decidable.not_not] at hb156
            have hjl : nn + j < eh.length := by omega
            have htj : termL 0 0 es' ((nn : Int) + 1 + j) = termL 0 0 eh ((nn : Int) + 1 + j) := by
              rw [term_at' (by omega), term_at' (by omega)]; exact hterm _ (by omega) hjl
            refine wp_cond_true (ha156.ev (x := .tmp 94) rfl) ?_
            refine wp_skip ?_
            refine hK20 _ _ ?_; clear hK20; try clear K20
            refine wp_seq_k (fun K22 hK22 => ?_)
            refine wp_block ?_
            refine wp_seq_k (fun K23 hK23 => ?_)
            refine wp_region_lit ?_
            refine st_y ha156 rfl (y_move ha156 rfl) ?_
            clear ha156 a155; intro a157 ha157
            refine st_y ha157 rfl (y_move ha157 rfl) ?_
            clear ha157 a157; intro a158 ha158
            refine wpList_plain rfl (fun K hK => ?_)
            refine e_call ha158 Try.func26 rfl rfl rfl rfl (term_any _ 0 0 [0] [] es' _ _ _ _ _ _ _ _ (m151.ok 11 _ rfl : Res.ok _ _ _ _ (.box _ _ _)).1 ((m151.ok 12 _ rfl : Res.ok _ _ _ _ (.seg _ _ _ _)).1.rd (S' := fun _ => True) (fun _ _ _ => trivial) (fun _ _ => trivial)) (by decide) (by omega)) ?_
            rintro e w159 ⟨rfl, hb159⟩
            have m160 := m151.later hb159
            clear m151
            clear hb159
            refine ⟨_, rfl, fun a161 ha161 => ?_⟩; clear ha158 a158
            refine hK _ _ ?_; clear hK K
            refine st_y ha161 rfl (y_move ha161 rfl) ?_
            clear ha161 a161; intro a162 ha162
            refine st_y ha162 rfl (y_move ha162 rfl) ?_
            clear ha162 a162; intro a163 ha163
            refine wpList_plain rfl (fun K hK => ?_)
            refine e_call ha163 Try.func12 rfl rfl rfl rfl (rterm_any _ 0 0 [0] [] eh _ _ _ _ _ _ _ _ (m160.ok 21 _ rfl : Res.ok _ _ _ _ (.box _ _ _)).1 ((m160.ok 22 _ rfl : Res.ok _ _ _ _ (.seg _ _ _ _)).1.rd (S' := fun _ => True) (fun _ _ _ => trivial) (fun _ _ => trivial)) (by decide) (by omega)) ?_
            rintro e w164 ⟨rfl, hb164⟩
            have m165 := m160.later hb164
            clear m160
            clear hb164
            refine ⟨_, rfl, fun a166 ha166 => ?_⟩; clear ha163 a163
            refine hK _ _ ?_; clear hK K
            refine st_y ha166 rfl (y_neq ha166 rfl rfl) ?_
            clear ha166 a166; intro a167 ha167
            refine wpList_nil ?_
            refine hK23 _ _ ?_; clear hK23; try clear K23
            refine bool_cases ha167 (t := 103) rfl (fun hb168 ha168 => ?_) (fun hb168 ha168 => ?_)
            · exact absurd hb168 (by simp [htj])
            clear ha167 hb168
            refine wp_cond_false (ha168.ev (x := .tmp 103) rfl) ?_
            refine wp_skip ?_
            refine hK22 _ _ ?_; clear hK22; try clear K22
            have ha169 : Has 104 [(1, _), (8, _), (9, _), (15, _)] a167 := ha168.only [1, 8, 9, 15]; clear ha168
            refine wp_region_lit ?_
            refine st_y ha169 rfl (y_move ha169 rfl) ?_
            clear ha169 a167; intro a170 ha170
            refine st_y ha170 rfl (y_add ha170 rfl rfl (r := (nn : Int) + 1 + ((j + 1 : Nat) : Int)) (by rw [IntWalk.i64_in _ (by omega)]; omega)) ?_
            clear ha170 a170; intro a171 ha171
            refine st_y ha171 rfl (y_assign ha171 rfl) ?_
            clear ha171 a171; intro a172 ha172
            refine wpList_nil ?_
            show ∃ n', n' < _ ∧ _
            exact ⟨eh.length - nn - (j + 1), by omega, j + 1, _, _, _, _, _, _, _, _, _, _, _, _, _, _, _, by omega, rfl, rfl, ha172.only [1, 8, 9, 15], m165.only [11, 12, 13, 14, 21, 22, 23, 24]⟩
          · skip
            clear ha155
            try simp only [decide_eq_true_eq, decide_eq_false_iff_not, Bool.not_eq_true, Bool.not_eq_false, Bool.not_eq_eq_eq_not, Bool.not_true, Bool.not_false, Bool.not_not, Int.not_lt, Int.not_le, ne_eq, Decidable.not_not] at hb156
            refine wp_cond_false (ha156.ev (x := .tmp 94) rfl) ?_
            refine wp_exit ?_
            refine hK18 _ _ ?_; clear hK18; try clear K18
            refine wp_seq_k (fun K24 hK24 => ?_)
            refine wp_region_lit ?_
            refine st_y ha156 rfl (y_assign ha156 rfl) ?_
            clear ha156 a155; intro a173 ha173
            refine wpList_nil ?_
            refine hK24 _ _ ?_; clear hK24; try clear K24
            refine wp_ret ?_
            try dsimp only [Exit.then, Exit.inBlock]
            refine (ret1 (fn := Try.f4) ha173 rfl rfl ?_)
            exact ⟨(by first | rfl | simp), m151.below⟩
end Go.Proofs.Ytmdckdhogbbhlaa.K
