/- LogCompacts' walk. -/
import Derived.Test.YtmdckdhogbbhlaaLog8
namespace Go.Proofs.Ytmdckdhogbbhlaa.K
open Go.ChangeShapes Go.WideShapes Go.ChangeAt Go.RowKit
set_option linter.unusedVariables false
set_option linter.unusedSimpArgs false

theorem fl28lc : flatS Try.prog 28 [.int .i64 0, .int .i64 0, .slice none 0 0, .slice none 0 0] = true := by kernel_rfl
theorem inf3lc : (Try.prog.info? 3).map (fun i => (i.zero, i.size, i.bytes)) = some (some (.int .i64 0), 1, 8) := by kernel_rfl
theorem sz28lc : (Try.prog.info? 28).map (·.size) = some 4 := by kernel_rfl
theorem zc28lc : ((Try.prog.info? 28).bind (·.zero)).map (·.cells.toList) = some [.int .i64 0, .int .i64 0, .slice none 0 0, .slice none 0 0] := by kernel_rfl

theorem confTo_len {cf : List Int} (h : cf.length ≤ 7) : ∀ (l : List (Int × Int × Int × List Int)), (confTo cf l).length ≤ 7 := by
  intro l
  induction l generalizing cf with
  | nil => exact h
  | cons e l ih =>
    show (confTo (confStep cf e) l).length ≤ 7
    refine ih ?_
    unfold confStep; split
    · exact chgL_len _ _
    · exact h
theorem confL_len {cf : List Int} (h : cf.length ≤ 7) (es : List (Int × Int × Int × List Int)) (i : Int) : (confL cf es i).length ≤ 7 := confTo_len h _
theorem seq_tw {pv : Int} : ∀ {es : List (Int × Int × Int × List Int)}, Seq pv es → ∀ (n : Nat), n ≤ es.length → es.takeWhile (fun e => decide (e.1 ≤ pv + n)) = es.take n := by
  intro es h n hn
  exact (takeWhile_at (p := fun e => decide (e.1 ≤ pv + n)) (es := es) (k := n) (fun j hj => decide_eq_true (by rw [h j (by omega)]; omega)) (by
    by_cases hl : n = es.length
    · exact .inl hl
    · exact .inr ⟨by omega, decide_eq_false (by rw [h n (by omega)]; omega)⟩) hn).symm
theorem conf_self {pv : Int} {es : List (Int × Int × Int × List Int)} {ms : List Int} (h : Seq pv es) : confL ms es pv = ms := by
  unfold confL
  have := seq_tw h 0 (Nat.zero_le _)
  simp only [Int.natCast_zero, Int.add_zero, List.take_zero] at this
  rw [this]; rfl
theorem conf_two {cf : List Int} {es : List (Int × Int × Int × List Int)} {k j : Nat} (h : Seq 3 es) (hk : k < es.length) (hj : j ≤ es.length - (k + 1)) : confL (confL cf es (3 + 1 + (k : Int))) (es.drop (k + 1)) (3 + 1 + (k : Int) + j) = confL cf es (3 + 1 + (k : Int) + j) := by
  have h1 := seq_tw h (k + 1) (by omega)
  have h2 := seq_tw h (k + 1 + j) (by omega)
  have h3 := seq_tw (h.drop (k + 1)) j (by rw [List.length_drop]; omega)
  rw [show ((3 : Int) + ((k + 1 : Nat) : Int)) = 3 + 1 + (k : Int) by omega] at h1 h3
  rw [show ((3 : Int) + ((k + 1 + j : Nat) : Int)) = 3 + 1 + (k : Int) + j by omega] at h2
  unfold confL
  rw [h1, h2, h3]
  unfold confTo
  have e : es.take (k + 1 + j) = es.take (k + 1) ++ (es.drop (k + 1)).take j := List.take_add
  rw [e, List.foldl_append]
theorem term_two {es : List (Int × Int × Int × List Int)} {k j : Nat} {ei et ek : Int} {ed : List Int} (hes : es[k]? = some (ei, et, ek, ed)) (hj : j ≤ es.length - (k + 1)) : termL (3 + 1 + (k : Int)) et (es.drop (k + 1)) (3 + 1 + (k : Int) + j) = termL 3 1 es (3 + 1 + (k : Int) + j) := by
  have hk := (List.getElem?_eq_some_iff.1 hes).1
  have hdl : (es.drop (k + 1)).length = es.length - (k + 1) := List.length_drop
  have hr : termL 3 1 es (3 + 1 + (k : Int) + j) = (es.getD (k + j) e0).2.1 := by
    unfold termL
    rw [if_neg (by omega), if_pos (by unfold inB; omega)]
    congr 3; omega
  rw [hr]
  unfold termL
  by_cases h0 : j = 0
  · subst h0
    rw [if_pos (by omega), Nat.add_zero, List.getD, hes]; rfl
  · rw [if_neg (by omega), if_pos (by unfold inB; omega)]
    have e : (3 + 1 + (k : Int) + j - (3 + 1 + (k : Int)) - 1).toNat = j - 1 := by omega
    rw [e, List.getD, List.getElem?_drop, List.getD]
    congr 4; omega
set_option maxRecDepth 100000
set_option maxHeartbeats 4000000
theorem logcompacts_walk (l data : List Int) (att : Nat) (p0 p2 : Option Addr) (c0 c2 : Nat) (w0 : World) (hatt : att ≤ 255) (hl0 : Rd (fun _ => True) w0 (.slice p0 l.length c0) (.ns .u8 l)) (hd0 : Rd (fun _ => True) w0 (.slice p2 data.length c2) (.ns .u8 data)) (hlb : ∀ j, j < l.length → 0 ≤ l.getD j 0 ∧ l.getD j 0 ≤ 255) :
    Calls Try.prog 5 #[.slice p0 l.length c0, .int .u8 (att : Int), .slice p2 data.length c2] w0 fun e w' => e = .returned (.bool true) ∧ Below w0.heap.size w0 w' := by
  refine enter (fn := Try.f5) Try.func5 rfl Try.ntmps5 rfl (fun a0 ha0 => ?_)
  simp only [List.zipIdx_cons, List.zipIdx_nil, List.map_cons, List.map_nil, Nat.reduceAdd, Nat.zero_add] at ha0
  have m0 := (MemOk.start (fun _ => True) w0).dat 2 rfl (hd0.cast (fun _ _ => free_nil (fun _ => trivial)))
  refine wp_seq_k (fun K0 hK0 => ?_)
  refine wp_region_lit ?_
  refine st_y ha0 rfl (y_assign ha0 rfl) ?_
  clear ha0 a0; intro a1 ha1
  refine wpList_nil ?_
  refine hK0 _ _ ?_; clear hK0; try clear K0
  refine wp_seq_k (fun K1 hK1 => ?_)
  refine wp_seq_k (fun K2 hK2 => ?_)
  refine wp_region_lit ?_
  refine wpList_plain rfl (fun K hK => ?_)
  refine e_call ha1 Try.func7 rfl rfl rfl rfl (lknown_any _) ?_
  rintro e w2 ⟨rfl, hb2⟩
  have m3 := m0.later hb2
  clear m0
  clear hb2
  refine ⟨_, rfl, fun a4 ha4 => ?_⟩; clear ha1 a1
  refine hK _ _ ?_; clear hK K
  refine st_y ha4 rfl (y_not ha4 rfl) ?_
  clear ha4 a4; intro a5 ha5
  refine wpList_nil ?_
  refine hK2 _ _ ?_; clear hK2; try clear K2
  refine wp_cond_false (ha5.ev (x := .tmp 13) rfl) ?_
  refine wp_skip ?_
  refine hK1 _ _ ?_; clear hK1; try clear K1
  refine wp_seq_k (fun K3 hK3 => ?_)
  refine wp_seq_k (fun K4 hK4 => ?_)
  refine wp_region_lit ?_
  refine st_y ha5 rfl (y_move ha5 rfl) ?_
  clear ha5 a5; intro a6 ha6
  refine st_y ha6 rfl (y_len ha6 rfl Try.underlying23) ?_
  clear ha6 a6; intro a7 ha7
  refine st_y ha7 rfl (y_gtr ha7 rfl rfl) ?_
  clear ha7 a7; intro a8 ha8
  refine st_y ha8 rfl (y_move ha8 rfl) ?_
  clear ha8 a8; intro a9 ha9
  refine bool_cases ha9 (t := 17) rfl (fun hb10 ha10 => ?_) (fun hb10 ha10 => ?_)
  · skip
    clear ha9
    try simp only [decide_eq_true_eq, decide_eq_false_iff_not, Bool.not_eq_true, Bool.not_eq_false, Bool.not_eq_eq_eq_not, Bool.not_true, Bool.not_false, Bool.not_not, Int.not_lt, Int.not_le, ne_eq, Decidable.not_not] at hb10
    refine st_skip ha10 rfl rfl rfl rfl ?_
    clear ha10 a9; intro a11 ha11
    refine st_skip ha11 rfl rfl rfl rfl ?_
    clear ha11 a11; intro a12 ha12
    refine st_skip ha12 rfl rfl rfl rfl ?_
    clear ha12 a12; intro a13 ha13
    refine st_y ha13 rfl (y_pickT ha13 rfl rfl) ?_
    clear ha13 a13; intro a14 ha14
    refine st_y ha14 rfl (y_move ha14 rfl) ?_
    clear ha14 a14; intro a15 ha15
    refine st_skip ha15 rfl rfl rfl rfl ?_
    clear ha15 a15; intro a16 ha16
    refine st_skip ha16 rfl rfl rfl rfl ?_
    clear ha16 a16; intro a17 ha17
    refine st_skip ha17 rfl rfl rfl rfl ?_
    clear ha17 a17; intro a18 ha18
    refine st_y ha18 rfl (y_pickT ha18 rfl rfl) ?_
    clear ha18 a18; intro a19 ha19
    refine wpList_nil ?_
    refine hK4 _ _ ?_; clear hK4; try clear K4
    refine wp_cond_true (ha19.ev (x := .tmp 26) rfl) ?_
    refine wp_seq_k (fun K5 hK5 => ?_)
    have ha20 : Has 140 [(0, _), (1, _), (2, _), (6, _)] a19 := ha19.only [0, 1, 2, 6]; clear ha19
    refine wp_region_lit ?_
    refine st_y ha20 rfl (y_assign ha20 rfl) ?_
    clear ha20 a19; intro a21 ha21
    refine wpList_nil ?_
    refine hK5 _ _ ?_; clear hK5; try clear K5
    refine wp_ret ?_
    try dsimp only [Exit.then, Exit.inBlock]
    refine (ret1 (fn := Try.f5) ha21 rfl rfl ?_)
    exact ⟨by first | rfl | simp, m3.below⟩
  · skip
    clear ha9
    try simp only [decide_eq_true_eq, decide_eq_false_iff_not, Bool.not_eq_true, Bool.not_eq_false, Bool.not_eq_eq_eq_not, Bool.not_true, Bool.not_false, Bool.not_not, Int.not_lt, Int.not_le, ne_eq, Decidable.not_not] at hb10
    refine st_g ha10 rfl rfl rfl rfl (y_move ha10 rfl) ?_
    clear ha10 a9; intro a22 ha22
    refine st_g ha22 rfl rfl rfl rfl (y_len ha22 rfl Try.underlying23) ?_
    clear ha22 a22; intro a23 ha23
    refine st_g ha23 rfl rfl rfl rfl (y_eql ha23 rfl rfl) ?_
    clear ha23 a23; intro a24 ha24
    refine st_y ha24 rfl (y_pickF ha24 rfl rfl) ?_
    clear ha24 a24; intro a25 ha25
    refine st_y ha25 rfl (y_move ha25 rfl) ?_
    clear ha25 a25; intro a26 ha26
    refine bool_cases ha26 (t := 22) rfl (fun hb27 ha27 => ?_) (fun hb27 ha27 => ?_)
    · skip
      clear ha26
      try simp only [decide_eq_true_eq, decide_eq_false_iff_not, Bool.not_eq_true, Bool.not_eq_false, Bool.not_eq_eq_eq_not, Bool.not_true, Bool.not_false, Bool.not_not, Int.not_lt, Int.not_le, ne_eq, Decidable.not_not] at hb27
      refine st_skip ha27 rfl rfl rfl rfl ?_
      clear ha27 a26; intro a28 ha28
      refine st_skip ha28 rfl rfl rfl rfl ?_
      clear ha28 a28; intro a29 ha29
      refine st_skip ha29 rfl rfl rfl rfl ?_
      clear ha29 a29; intro a30 ha30
      refine st_y ha30 rfl (y_pickT ha30 rfl rfl) ?_
      clear ha30 a30; intro a31 ha31
      refine wpList_nil ?_
      refine hK4 _ _ ?_; clear hK4; try clear K4
      refine wp_cond_true (ha31.ev (x := .tmp 26) rfl) ?_
      refine wp_seq_k (fun K6 hK6 => ?_)
      have ha32 : Has 140 [(0, _), (1, _), (2, _), (6, _)] a31 := ha31.only [0, 1, 2, 6]; clear ha31
      refine wp_region_lit ?_
      refine st_y ha32 rfl (y_assign ha32 rfl) ?_
      clear ha32 a31; intro a33 ha33
      refine wpList_nil ?_
      refine hK6 _ _ ?_; clear hK6; try clear K6
      refine wp_ret ?_
      try dsimp only [Exit.then, Exit.inBlock]
      refine (ret1 (fn := Try.f5) ha33 rfl rfl ?_)
      exact ⟨by first | rfl | simp, m3.below⟩
    · skip
      clear ha26
      try simp only [decide_eq_true_eq, decide_eq_false_iff_not, Bool.not_eq_true, Bool.not_eq_false, Bool.not_eq_eq_eq_not, Bool.not_true, Bool.not_false, Bool.not_not, Int.not_lt, Int.not_le, ne_eq, Decidable.not_not] at hb27
      refine st_g ha27 rfl rfl rfl rfl (y_move ha27 rfl) ?_
      clear ha27 a26; intro a34 ha34
      refine st_g ha34 rfl rfl rfl rfl (y_len ha34 rfl Try.underlying23) ?_
      clear ha34 a34; intro a35 ha35
      refine st_g ha35 rfl rfl rfl rfl (y_gtr ha35 rfl rfl) ?_
      clear ha35 a35; intro a36 ha36
      refine st_y ha36 rfl (y_pickF ha36 rfl rfl) ?_
      clear ha36 a36; intro a37 ha37
      refine wpList_nil ?_
      refine hK4 _ _ ?_; clear hK4; try clear K4
      refine bool_cases ha37 (t := 26) rfl (fun hb38 ha38 => ?_) (fun hb38 ha38 => ?_)
      · skip
        clear ha37
        try simp only [decide_eq_true_eq, decide_eq_false_iff_not, Bool.not_eq_true, Bool.not_eq_false, Bool.not_eq_eq_eq_not, Bool.not_true, Bool.not_false, Bool.not_not, Int.not_lt, Int.not_le, ne_eq, Decidable.not_not] at hb38
        refine wp_cond_true (ha38.ev (x := .tmp 26) rfl) ?_
        refine wp_seq_k (fun K7 hK7 => ?_)
        have ha39 : Has 140 [(0, _), (1, _), (2, _), (6, _)] a37 := ha38.only [0, 1, 2, 6]; clear ha38
        refine wp_region_lit ?_
        refine st_y ha39 rfl (y_assign ha39 rfl) ?_
        clear ha39 a37; intro a40 ha40
        refine wpList_nil ?_
        refine hK7 _ _ ?_; clear hK7; try clear K7
        refine wp_ret ?_
        try dsimp only [Exit.then, Exit.inBlock]
        refine (ret1 (fn := Try.f5) ha40 rfl rfl ?_)
        exact ⟨by first | rfl | simp, m3.below⟩
      · skip
        clear ha37
        try simp only [decide_eq_true_eq, decide_eq_false_iff_not, Bool.not_eq_true, Bool.not_eq_false, Bool.not_eq_eq_eq_not, Bool.not_true, Bool.not_false, Bool.not_not, Int.not_lt, Int.not_le, ne_eq, Decidable.not_not] at hb38
        obtain ⟨es, hes⟩ : ∃ x, entsN 4 l l.length = x := ⟨_, rfl⟩
        have hesl : es.length = l.length := by rw [← hes, entsN_len]
        have hseq : Seq 3 es := by rw [← hes]; exact seq_ents 4 l
        have heok : EntsOk es := by rw [← hes]; exact ents_ok hlb
        have hebb : EntsB es := by rw [← hes]; exact ents_b hlb
        have hrun : es.take (runN 3 es) = es := hseq.run
        obtain ⟨kk, hkk⟩ : ∃ x, att % l.length = x := ⟨_, rfl⟩
        have hkl : kk < l.length := by rw [← hkk]; exact Nat.mod_lt _ (by omega)
        obtain ⟨⟨ei, et, ek, ed⟩, hesk⟩ : ∃ e, es[kk]? = some e := ⟨_, List.getElem?_eq_getElem (by omega)⟩
        obtain ⟨ii, hii⟩ : ∃ x : Int, x = 3 + 1 + kk := ⟨_, rfl⟩
        obtain ⟨ms, hms⟩ : ∃ x, confL [0, 1] es ii = x := ⟨_, rfl⟩
        obtain ⟨es2, hes2⟩ : ∃ x, es.drop (kk + 1) = x := ⟨_, rfl⟩
        have hes2l : es2.length = es.length - (kk + 1) := by rw [← hes2, List.length_drop]
        have hmsl : ms.length ≤ 7 := by rw [← hms]; exact confL_len (by decide) _ _
        have hsq2 : Seq ii es2 := by have := hseq.drop (kk + 1); rw [hes2] at this; rw [hii]; intro j hj; have := this j hj; omega
        have heok2 : EntsOk es2 := fun e he => heok e (by rw [← hes2] at he; exact List.mem_of_mem_drop he)
        have hebb2 : EntsB es2 := fun e he => hebb e (by rw [← hes2] at he; exact List.mem_of_mem_drop he)
        have hf1 : fromL ii es2 0 99 = es2 := by unfold fromL; rw [show ((0 : Int) - ii - 1).toNat = 0 from by omega, List.drop_zero]; exact List.take_of_length_le (by show es2.length ≤ 99; omega)
        have hf2 : fromL 3 es (ii + 1) 99 = es2 := by unfold fromL; rw [show (ii + 1 - 3 - 1).toNat = kk + 1 from by omega, hes2]; exact List.take_of_length_le (by show es2.length ≤ 99; omega)
        have hcj2 : confL ms es2 ii = ms := conf_self hsq2
        have hml : (es.map entD).length = es.length := List.length_map _
        have hml2 : (es2.map entD).length = es2.length := List.length_map _
        have htm : termL ii et es2 (ii - 1) = -1 := by unfold termL; rw [if_neg (by omega), if_neg (by unfold inB; omega)]
        refine wp_cond_false (ha38.ev (x := .tmp 26) rfl) ?_
        refine wp_skip ?_
        refine hK3 _ _ ?_; clear hK3; try clear K3
        refine wp_seq_k (fun K8 hK8 => ?_)
        have ha41 : Has 140 [(0, _), (1, _), (2, _), (6, _)] a37 := ha38.only [0, 1, 2, 6]; clear ha38
        refine wp_region_lit ?_
        refine wpList_plain rfl (fun K hK => ?_)
        refine e_litN ha41 m3 40 (k := .i64) rfl rfl Try.underlying26 inf3lc rfl rfl rfl rfl ?_
        clear ha41 a37 m3; intro g42 a43 w43 ha43 m43 
        refine hK _ _ ?_; clear hK K
        refine st_y ha43 rfl (y_build ha43 rfl zc28lc fl28lc rfl (by dsimp only [setL, List.set] <;> rfl)) ?_
        clear ha43 a43; intro a44 ha44
        refine wpList_plain rfl (fun K hK => ?_)
        refine e_alloc ha44 m43 41 zc28lc rfl ?_
        clear ha44 a44 m43; intro g45 a46 w46 ha46 m46 hB46 hg46
        clear hB46 hg46
        refine hK _ _ ?_; clear hK K
        refine wpList_plain rfl (fun K hK => ?_)
        refine e_storeW ha46 m46 41 rfl rfl rfl rfl rfl sz28lc ?_
        clear m46; intro w47 m47 hB47
        clear hB47
        refine hK _ _ ?_; clear hK K
        refine wpList_nil ?_
        refine hK8 _ _ ?_; clear hK8; try clear K8
        refine wp_seq_k (fun K9 hK9 => ?_)
        have m48 : MemOk _ _ [(2, _), (40, _), (41, _)] _ := m47.only [2, 40, 41]; clear m47
        refine region_m 10 (B := [(41, _)]) (m48.to ⟨.inl rfl, trivial⟩) m48 (by kernel_rfl) (fun w49 mB49 m49 => ?_); clear m48 mB49
        refine d_h 0 ha46 rfl rfl (m49.to ⟨.inl rfl, trivial⟩) (by kernel_rfl) (by kernel_rfl) (by kernel_rfl) (by kernel_rfl) (by kernel_rfl) (fun _ _ _ h => h) (fun W hW => y_loadBR ha46 hW (i := 41) rfl rfl Try.underlying28 rfl sz28lc (by simp) (by dsimp only [List.drop, List.take] <;> rfl)) ?_
        clear ha46 a46; intro a50 ha50
        refine d_y 1 ha50 rfl rfl (fun _ => (m49.to ⟨.inl rfl, trivial⟩)) (by kernel_rfl) (by kernel_rfl) (by kernel_rfl) (by rfl) (fun _ _ _ h => h) (fun W => y_move ha50 rfl) ?_
        clear ha50 a50; intro a51 ha51
        refine d_h 4 ha51 rfl rfl (m49.to ⟨.inl rfl, trivial⟩) (by kernel_rfl) (by kernel_rfl) (by kernel_rfl) (by kernel_rfl) (by kernel_rfl) (fun _ _ _ h => h) (fun W hW => y_loadBR ha51 hW (i := 41) rfl rfl Try.underlying28 rfl sz28lc (by simp) (by dsimp only [List.drop, List.take] <;> rfl)) ?_
        clear ha51 a51; intro a52 ha52
        refine d_y 5 ha52 rfl rfl (fun _ => (m49.to ⟨.inl rfl, trivial⟩)) (by kernel_rfl) (by kernel_rfl) (by kernel_rfl) (by rfl) (fun _ _ _ h => h) (fun W => y_move ha52 rfl) ?_
        clear ha52 a52; intro a53 ha53
        refine stepE_only 2 rfl (by kernel_rfl) rfl (fun K hK => ?_)
        refine e_call ha53 Try.func8 rfl rfl rfl rfl (ents_any 4 l _ _ _ ((hl0.now' m49 rfl).any) (by decide) (by omega) hlb) ?_
        rintro e w54 ⟨p54, c54, rfl, hd54, hb54⟩
        have m55 := m49.callF 42 rfl hb54 hd54
        clear m49
        clear hb54 hd54
        refine ⟨_, rfl, fun a56 ha56 => ?_⟩; clear ha53 a53
        refine hK _ _ (m55.to ⟨.inl rfl, trivial⟩) ?_; clear hK K
        rw [hes] at m55 ha56
        have m57 := m55.freezeN 40 rfl; clear m55
        have m58 := m57.dat 43 rfl (m57.rd (i := 40) rfl); clear m57
        have m59 := m58.dat 44 rfl (Rd.nilN _ _ .u8 none); clear m58
        have m60 := m59.dat 45 rfl (m59.rd (i := 42) rfl); clear m59
        refine stepE_only 3 rfl (by kernel_rfl) rfl (fun K hK => ?_)
        refine e_call ha56 Try.func9 rfl rfl rfl rfl (new_is _ 3 1 [0, 1] [] es _ _ _ _ _ _ _ _ (by decide) (by decide) (by decide) (by omega) heok hrun (m60.into [(5, 43), (6, 44), (7, 45)] (by decide) rfl)) ?_
        rintro e w61 ⟨B61, pc61, cc61, pd61, cd61, pl61, cl61, rfl, hm61⟩
        have mx61 := m60.back hm61 [(11, 1), (12, 2), (13, 3), (14, 4)] (by decide); clear hm61 m60
        have m61 : MemOk _ _ [(11, _), (12, _), (13, _), (14, _), (2, _), (40, _), (41, _), (42, _)] _ := mx61.only [11, 12, 13, 14, 2, 40, 41, 42]; clear mx61
        refine ⟨_, rfl, fun a62 ha62 => ?_⟩; clear ha56 a56
        refine hK _ _ (m61.to ⟨.inl rfl, trivial⟩) ?_; clear hK K
        refine stepE_only 6 rfl (by kernel_rfl) rfl (fun K hK => ?_)
        refine e_call ha62 Try.func8 rfl rfl rfl rfl (ents_any 4 l _ _ _ ((hl0.now' m61 rfl).any) (by decide) (by omega) hlb) ?_
        rintro e w63 ⟨p63, c63, rfl, hd63, hb63⟩
        have m64 := m61.callF 46 rfl hb63 hd63
        clear m61
        clear hb63 hd63
        refine ⟨_, rfl, fun a65 ha65 => ?_⟩; clear ha62 a62
        refine hK _ _ (m64.to ⟨.inl rfl, trivial⟩) ?_; clear hK K
        rw [hes] at m64 ha65
        have m66 := m64.dat 47 rfl (m64.rd (i := 40) rfl); clear m64
        have m67 := m66.dat 48 rfl (Rd.nilN _ _ .u8 none); clear m66
        have m68 := m67.dat 49 rfl (m67.rd (i := 46) rfl); clear m67
        refine stepE_only 7 rfl (by kernel_rfl) rfl (fun K hK => ?_)
        refine e_call ha65 Try.func9 rfl rfl rfl rfl (new_is _ 3 1 [0, 1] [] es _ _ _ _ _ _ _ _ (by decide) (by decide) (by decide) (by omega) heok hrun (m68.into [(5, 47), (6, 48), (7, 49)] (by decide) rfl)) ?_
        rintro e w69 ⟨B69, pc69, cc69, pd69, cd69, pl69, cl69, rfl, hm69⟩
        have mx69 := m68.back hm69 [(21, 1), (22, 2), (23, 3), (24, 4)] (by decide); clear hm69 m68
        have m69 : MemOk _ _ [(21, _), (22, _), (23, _), (24, _), (2, _), (11, _), (12, _), (13, _), (14, _), (40, _), (41, _), (42, _), (46, _)] _ := mx69.only [21, 22, 23, 24, 2, 11, 12, 13, 14, 40, 41, 42, 46]; clear mx69
        refine ⟨_, rfl, fun a70 ha70 => ?_⟩; clear ha65 a65
        refine hK _ _ (m69.to ⟨.inl rfl, trivial⟩) ?_; clear hK K
        refine d_y 8 ha70 rfl rfl (fun _ => (m69.to ⟨.inl rfl, trivial⟩)) (by kernel_rfl) (by kernel_rfl) (by kernel_rfl) (by rfl) (fun _ _ _ h => h) (fun W => y_assign ha70 rfl) ?_
        clear ha70 a70; intro a71 ha71
        refine d_y 9 ha71 rfl rfl (fun _ => (m69.to ⟨.inl rfl, trivial⟩)) (by kernel_rfl) (by kernel_rfl) (by kernel_rfl) (by rfl) (fun _ _ _ h => h) (fun W => y_assign ha71 rfl) ?_
        clear ha71 a71; intro a72 ha72
        refine wpAnyE_done (by kernel_rfl) ?_ _
        refine hK9 _ _ ?_; clear hK9; try clear K9
        refine wp_seq_k (fun K10 hK10 => ?_)
        have ha73 : Has 140 [(0, _), (1, _), (2, _), (6, _), (8, _), (9, _)] a72 := ha72.only [0, 1, 2, 6, 8, 9]; clear ha72
        refine wp_region_lit ?_
        refine st_y ha73 rfl (y_move ha73 rfl) ?_
        clear ha73 a72; intro a74 ha74
        refine st_y ha74 rfl (y_conv ha74 rfl Try.underlying5 Try.underlying3 (r := (att : Int)) (IntWalk.i64_in _ (by omega))) ?_
        clear ha74 a74; intro a75 ha75
        refine st_y ha75 rfl (y_move ha75 rfl) ?_
        clear ha75 a75; intro a76 ha76
        refine st_y ha76 rfl (y_len ha76 rfl Try.underlying23) ?_
        clear ha76 a76; intro a77 ha77
        refine st_y ha77 rfl (y_rem ha77 rfl rfl (by omega) (r := (kk : Int)) (by rw [tmod_nat, hkk])) ?_
        clear ha77 a77; intro a78 ha78
        refine st_y ha78 rfl (y_add ha78 rfl rfl (r := ii) (by rw [hii]; exact IntWalk.i64_in _ (by omega))) ?_
        clear ha78 a78; intro a79 ha79
        refine st_y ha79 rfl (y_assign ha79 rfl) ?_
        clear ha79 a79; intro a80 ha80
        refine wpList_nil ?_
        refine hK10 _ _ ?_; clear hK10; try clear K10
        refine wp_seq_k (fun K11 hK11 => ?_)
        refine wp_seq_k (fun K12 hK12 => ?_)
        have ha81 : Has 140 [(2, _), (6, _), (8, _), (9, _), (10, _)] a80 := ha80.only [2, 6, 8, 9, 10]; clear ha80
        have m82 : MemOk _ _ [(2, _), (11, _), (12, _), (13, _), (14, _), (21, _), (22, _), (23, _), (24, _), (40, _), (41, _), (42, _), (46, _)] _ := m69.only [2, 11, 12, 13, 14, 21, 22, 23, 24, 40, 41, 42, 46]; clear m69
        refine region_m 48 (B := [(2, _)]) (m82.to ⟨.inl rfl, trivial⟩) m82 (by kernel_rfl) (fun w83 mB83 m83 => ?_); clear m82 mB83
        refine d_y 0 ha81 rfl rfl (fun _ => (m83.to ⟨.inl rfl, trivial⟩)) (by kernel_rfl) (by kernel_rfl) (by kernel_rfl) (by rfl) (fun _ _ _ h => h) (fun W => y_move ha81 rfl) ?_
        clear ha81 a80; intro a84 ha84
        refine d_y 1 ha84 rfl rfl (fun _ => (m83.to ⟨.inl rfl, trivial⟩)) (by kernel_rfl) (by kernel_rfl) (by kernel_rfl) (by rfl) (fun _ _ _ h => h) (fun W => y_move ha84 rfl) ?_
        clear ha84 a84; intro a85 ha85
        refine d_y 2 ha85 rfl rfl (fun _ => (m83.to ⟨.inl rfl, trivial⟩)) (by kernel_rfl) (by kernel_rfl) (by kernel_rfl) (by rfl) (fun _ _ _ h => h) (fun W => y_move ha85 rfl) ?_
        clear ha85 a85; intro a86 ha86
        have m87 := m83.dat 50 rfl (m83.rd (i := 2) rfl); clear m83
        refine stepE_only 3 rfl (by kernel_rfl) rfl (fun K hK => ?_)
        refine e_call ha86 Try.func19 rfl rfl rfl rfl (compact_is _ _ 3 1 [0, 1] [] es _ _ _ _ _ _ kk ii data _ _ _ (by decide) (by omega) (by omega) (by decide) hebb hesk hii hms (m87.into [(1, 11), (2, 12), (3, 13), (4, 14), (5, 50)] (by decide) rfl)) ?_
        rintro e w88 ⟨pc88, cc88, pd88, cd88, pl88, cl88, rfl, hm88⟩
        have mx88 := m87.back hm88 [(11, 1), (12, 2), (13, 3), (14, 4)] (by decide); clear hm88 m87
        have m88 : MemOk _ _ [(11, _), (12, _), (13, _), (14, _), (2, _), (21, _), (22, _), (23, _), (24, _), (40, _), (41, _), (42, _), (46, _)] _ := mx88.only [11, 12, 13, 14, 2, 21, 22, 23, 24, 40, 41, 42, 46]; clear mx88
        refine ⟨_, rfl, fun a89 ha89 => ?_⟩; clear ha86 a86
        refine hK _ _ (m88.to ⟨.inl rfl, trivial⟩) ?_; clear hK K
        rw [hes2] at m88
        refine d_y 4 ha89 rfl rfl (fun _ => (m88.to ⟨.inl rfl, trivial⟩)) (by kernel_rfl) (by kernel_rfl) (by kernel_rfl) (by rfl) (fun _ _ _ h => h) (fun W => y_not ha89 rfl) ?_
        clear ha89 a89; intro a90 ha90
        refine d_y 5 ha90 rfl rfl (fun _ => (m88.to ⟨.inl rfl, trivial⟩)) (by kernel_rfl) (by kernel_rfl) (by kernel_rfl) (by rfl) (fun _ _ _ h => h) (fun W => y_move ha90 rfl) ?_
        clear ha90 a90; intro a91 ha91
        refine d_yg 6 ha91 rfl rfl rfl rfl rfl (fun _ => (m88.to ⟨.inl rfl, trivial⟩)) (by kernel_rfl) (by kernel_rfl) (by kernel_rfl) (by rfl) (fun _ _ _ h => h) (fun W => y_move ha91 rfl) ?_
        clear ha91 a91; intro a92 ha92
        refine d_yg 7 ha92 rfl rfl rfl rfl rfl (fun _ => (m88.to ⟨.inl rfl, trivial⟩)) (by kernel_rfl) (by kernel_rfl) (by kernel_rfl) (by rfl) (fun _ _ _ h => h) (fun W => y_move ha92 rfl) ?_
        clear ha92 a92; intro a93 ha93
        refine d_yg 8 ha93 rfl rfl rfl rfl rfl (fun _ => (m88.to ⟨.inl rfl, trivial⟩)) (by kernel_rfl) (by kernel_rfl) (by kernel_rfl) (by rfl) (fun _ _ _ h => h) (fun W => y_move ha93 rfl) ?_
        clear ha93 a93; intro a94 ha94
        have m95 := m88.dat 51 rfl (m88.rd (i := 2) rfl); clear m88
        refine stepE_only 9 rfl (by kernel_rfl) (wantedG ha94 rfl rfl rfl rfl) (fun K hK => ?_)
        refine e_call ha94 Try.func19 rfl rfl rfl rfl (compact_no _ _ ii et ms data es2 _ _ _ _ _ _ _ data _ _ _ (by omega) (by omega) (by omega) (m95.into [(1, 11), (2, 12), (3, 13), (4, 14), (5, 51)] (by decide) rfl)) ?_
        rintro e w96 ⟨rfl, hm96⟩
        have mx96 := m95.back hm96 [(11, 1), (12, 2), (13, 3), (14, 4)] (by decide); clear hm96 m95
        have m96 : MemOk _ _ [(11, _), (12, _), (13, _), (14, _), (2, _), (21, _), (22, _), (23, _), (24, _), (40, _), (41, _), (42, _), (46, _)] _ := mx96.only [11, 12, 13, 14, 2, 21, 22, 23, 24, 40, 41, 42, 46]; clear mx96
        refine ⟨_, rfl, fun a97 ha97 => ?_⟩; clear ha94 a94
        refine hK _ _ (m96.to ⟨.inl rfl, trivial⟩) ?_; clear hK K
        refine d_y 10 ha97 rfl rfl (fun _ => (m96.to ⟨.inl rfl, trivial⟩)) (by kernel_rfl) (by kernel_rfl) (by kernel_rfl) (by rfl) (fun _ _ _ h => h) (fun W => y_pickF ha97 rfl rfl) ?_
        clear ha97 a97; intro a98 ha98
        refine d_y 11 ha98 rfl rfl (fun _ => (m96.to ⟨.inl rfl, trivial⟩)) (by kernel_rfl) (by kernel_rfl) (by kernel_rfl) (by rfl) (fun _ _ _ h => h) (fun W => y_move ha98 rfl) ?_
        clear ha98 a98; intro a99 ha99
        refine d_yg 12 ha99 rfl rfl rfl rfl rfl (fun _ => (m96.to ⟨.inl rfl, trivial⟩)) (by kernel_rfl) (by kernel_rfl) (by kernel_rfl) (by rfl) (fun _ _ _ h => h) (fun W => y_move ha99 rfl) ?_
        clear ha99 a99; intro a100 ha100
        refine d_yg 13 ha100 rfl rfl rfl rfl rfl (fun _ => (m96.to ⟨.inl rfl, trivial⟩)) (by kernel_rfl) (by kernel_rfl) (by kernel_rfl) (by rfl) (fun _ _ _ h => h) (fun W => y_move ha100 rfl) ?_
        clear ha100 a100; intro a101 ha101
        refine d_yg 14 ha101 rfl rfl rfl rfl rfl (fun _ => (m96.to ⟨.inl rfl, trivial⟩)) (by kernel_rfl) (by kernel_rfl) (by kernel_rfl) (by rfl) (fun _ _ _ h => h) (fun W => y_nilCheck ha101 rfl) ?_
        clear ha101 a101; intro a102 ha102
        refine d_yg 15 ha102 rfl rfl rfl rfl rfl (fun _ => (m96.to ⟨.inl rfl, trivial⟩)) (by kernel_rfl) (by kernel_rfl) (by kernel_rfl) (by rfl) (fun _ _ _ h => h) (fun W => y_fieldAddr ha102 (off := 0) rfl Try.underlying56 rfl (s := 4) (by kernel_rfl) rfl) ?_
        clear ha102 a102; intro a103 ha103
        refine d_yg 18 ha103 rfl rfl rfl rfl rfl (fun _ => (m96.to ⟨.inl rfl, trivial⟩)) (by kernel_rfl) (by kernel_rfl) (by kernel_rfl) (by rfl) (fun _ _ _ h => h) (fun W => y_move ha103 rfl) ?_
        clear ha103 a103; intro a104 ha104
        refine stepE_only 16 rfl (by kernel_rfl) (wantedG ha104 rfl rfl rfl rfl) (fun K hK => ?_)
        refine e_call ha104 Try.func25 rfl rfl rfl rfl (last_any _ ii (es2.map entD).length _ _ _ _ _ _ (m96.ok 11 _ rfl : Res.ok _ _ _ _ (.box _ _ _)).1 (by omega) (by rw [List.length_map]; omega)) ?_
        rintro e w105 ⟨rfl, hb105⟩
        have m106 := m96.later hb105
        clear m96
        clear hb105
        refine ⟨_, rfl, fun a107 ha107 => ?_⟩; clear ha104 a104
        refine hK _ _ (m106.to ⟨.inl rfl, trivial⟩) ?_; clear hK K
        refine d_yg 17 ha107 rfl rfl rfl rfl rfl (fun _ => (m106.to ⟨.inl rfl, trivial⟩)) (by kernel_rfl) (by kernel_rfl) (by kernel_rfl) (by rfl) (fun _ _ _ h => h) (fun W => y_add ha107 rfl rfl (r := ii + es2.length + 1) (by rw [List.length_map]; exact IntWalk.i64_in _ (by omega))) ?_
        clear ha107 a107; intro a108 ha108
        have m109 := m106.dat 52 rfl (m106.rd (i := 2) rfl); clear m106
        refine stepE_only 19 rfl (by kernel_rfl) (wantedG ha108 rfl rfl rfl rfl) (fun K hK => ?_)
        refine e_call ha108 Try.func19 rfl rfl rfl rfl (compact_no _ _ ii et ms data es2 _ _ _ _ _ _ _ data _ _ _ (by omega) (by omega) (by omega) (m109.into [(1, 11), (2, 12), (3, 13), (4, 14), (5, 52)] (by decide) rfl)) ?_
        rintro e w110 ⟨rfl, hm110⟩
        have mx110 := m109.back hm110 [(11, 1), (12, 2), (13, 3), (14, 4)] (by decide); clear hm110 m109
        have m110 : MemOk _ _ [(11, _), (12, _), (13, _), (14, _), (2, _), (21, _), (22, _), (23, _), (24, _), (40, _), (41, _), (42, _), (46, _)] _ := mx110.only [11, 12, 13, 14, 2, 21, 22, 23, 24, 40, 41, 42, 46]; clear mx110
        refine ⟨_, rfl, fun a111 ha111 => ?_⟩; clear ha108 a108
        refine hK _ _ (m110.to ⟨.inl rfl, trivial⟩) ?_; clear hK K
        refine d_y 20 ha111 rfl rfl (fun _ => (m110.to ⟨.inl rfl, trivial⟩)) (by kernel_rfl) (by kernel_rfl) (by kernel_rfl) (by rfl) (fun _ _ _ h => h) (fun W => y_pickF ha111 rfl rfl) ?_
        clear ha111 a111; intro a112 ha112
        refine d_y 21 ha112 rfl rfl (fun _ => (m110.to ⟨.inl rfl, trivial⟩)) (by kernel_rfl) (by kernel_rfl) (by kernel_rfl) (by rfl) (fun _ _ _ h => h) (fun W => y_move ha112 rfl) ?_
        clear ha112 a112; intro a113 ha113
        refine d_yg 22 ha113 rfl rfl rfl rfl rfl (fun _ => (m110.to ⟨.inl rfl, trivial⟩)) (by kernel_rfl) (by kernel_rfl) (by kernel_rfl) (by rfl) (fun _ _ _ h => h) (fun W => y_move ha113 rfl) ?_
        clear ha113 a113; intro a114 ha114
        refine d_yg 25 ha114 rfl rfl rfl rfl rfl (fun _ => (m110.to ⟨.inl rfl, trivial⟩)) (by kernel_rfl) (by kernel_rfl) (by kernel_rfl) (by rfl) (fun _ _ _ h => h) (fun W => y_move ha114 rfl) ?_
        clear ha114 a114; intro a115 ha115
        refine stepE_only 23 rfl (by kernel_rfl) (wantedG ha115 rfl rfl rfl rfl) (fun K hK => ?_)
        refine e_call ha115 Try.func27 rfl rfl rfl rfl (lbase_any _ ii et ms data es2 _ _ _ _ _ _ _ (m110.ok 11 _ rfl : Res.ok _ _ _ _ (.box _ _ _)).1 ((m110.ok 12 _ rfl : Res.ok _ _ _ _ (.seg _ _ _ _)).1.rd (S' := fun _ => True) (fun _ _ _ => trivial) (fun _ _ => trivial)) (by omega) (by omega) (m110.rd (i := 13) rfl).any (m110.rd (i := 14) rfl).any (by omega) (by omega)) ?_
        rintro e w116 ⟨p116, c116, q116, b116, rfl, hc116, hd116, hb116⟩
        have m117 := m110.callFF 53 54 rfl rfl hb116 hc116 hd116
        clear m110
        clear hb116 hc116 hd116
        refine ⟨_, rfl, fun a118 ha118 => ?_⟩; clear ha115 a115
        refine hK _ _ (m117.to ⟨.inl rfl, trivial⟩) ?_; clear hK K
        refine d_yg 24 ha118 rfl rfl rfl rfl rfl (fun _ => (m117.to ⟨.inl rfl, trivial⟩)) (by kernel_rfl) (by kernel_rfl) (by kernel_rfl) (by rfl) (fun _ _ _ h => h) (fun W => y_field1 ha118 rfl Try.underlying28 rfl (td := _) Try.underlying3 rfl rfl) ?_
        clear ha118 a118; intro a119 ha119
        refine d_yg 26 ha119 rfl rfl rfl rfl rfl (fun _ => (m117.to ⟨.inl rfl, trivial⟩)) (by kernel_rfl) (by kernel_rfl) (by kernel_rfl) (by rfl) (fun _ _ _ h => h) (fun W => y_neq ha119 rfl rfl) ?_
        clear ha119 a119; intro a120 ha120
        refine d_y 27 ha120 rfl rfl (fun _ => (m117.to ⟨.inl rfl, trivial⟩)) (by kernel_rfl) (by kernel_rfl) (by kernel_rfl) (by rfl) (fun _ _ _ h => h) (fun W => y_pickF ha120 rfl rfl) ?_
        clear ha120 a120; intro a121 ha121
        refine d_y 28 ha121 rfl rfl (fun _ => (m117.to ⟨.inl rfl, trivial⟩)) (by kernel_rfl) (by kernel_rfl) (by kernel_rfl) (by rfl) (fun _ _ _ h => h) (fun W => y_move ha121 rfl) ?_
        clear ha121 a121; intro a122 ha122
        refine bool_cases ha122 (t := 71) rfl (fun hb123 ha123 => ?_) (fun hb123 ha123 => ?_)
        · exact absurd hb123 (by simp)
        clear ha122 hb123
        refine d_yg 29 ha123 rfl rfl rfl rfl rfl (fun _ => (m117.to ⟨.inl rfl, trivial⟩)) (by kernel_rfl) (by kernel_rfl) (by kernel_rfl) (by rfl) (fun _ _ _ h => h) (fun W => y_move ha123 rfl) ?_
        clear ha123 a122; intro a124 ha124
        refine d_yg 33 ha124 rfl rfl rfl rfl rfl (fun _ => (m117.to ⟨.inl rfl, trivial⟩)) (by kernel_rfl) (by kernel_rfl) (by kernel_rfl) (by rfl) (fun _ _ _ h => h) (fun W => y_move ha124 rfl) ?_
        clear ha124 a124; intro a125 ha125
        refine d_hg 34 ha125 rfl rfl rfl rfl rfl (m117.to ⟨.inl rfl, trivial⟩) (by kernel_rfl) (by kernel_rfl) (by kernel_rfl) (by kernel_rfl) (by kernel_rfl) (fun _ _ _ h => h) (fun W hW => y_str ha125 rfl (hW.nums (i := 2) rfl) Try.underlying23 Try.underlying5 Try.underlying9) ?_
        clear ha125 a125; intro a126 ha126
        refine stepE_only 30 rfl (by kernel_rfl) (wantedG ha126 rfl rfl rfl rfl) (fun K hK => ?_)
        refine e_call ha126 Try.func27 rfl rfl rfl rfl (lbase_any _ ii et ms data es2 _ _ _ _ _ _ _ (m117.ok 11 _ rfl : Res.ok _ _ _ _ (.box _ _ _)).1 ((m117.ok 12 _ rfl : Res.ok _ _ _ _ (.seg _ _ _ _)).1.rd (S' := fun _ => True) (fun _ _ _ => trivial) (fun _ _ => trivial)) (by omega) (by omega) (m117.rd (i := 13) rfl).any (m117.rd (i := 14) rfl).any (by omega) (by omega)) ?_
        rintro e w127 ⟨p127, c127, q127, b127, rfl, hc127, hd127, hb127⟩
        have m128 := m117.callFF 55 56 rfl rfl hb127 hc127 hd127
        clear m117
        clear hb127 hc127 hd127
        refine ⟨_, rfl, fun a129 ha129 => ?_⟩; clear ha126 a126
        refine hK _ _ (m128.to ⟨.inl rfl, trivial⟩) ?_; clear hK K
        refine d_yg 31 ha129 rfl rfl rfl rfl rfl (fun _ => (m128.to ⟨.inl rfl, trivial⟩)) (by kernel_rfl) (by kernel_rfl) (by kernel_rfl) (by rfl) (fun _ _ _ h => h) (fun W => y_field1 ha129 rfl Try.underlying28 rfl (td := _) Try.underlying23 rfl rfl) ?_
        clear ha129 a129; intro a130 ha130
        refine stepE_only 32 rfl (by kernel_rfl) (wantedG ha130 rfl rfl rfl rfl) (fun K hK => ?_)
        refine e_y ha130 rfl (y_str ha130 rfl (m128.nums (i := 56) rfl) Try.underlying23 Try.underlying5 Try.underlying9) ?_
        clear ha130 a130; intro a131 ha131
        refine hK _ _ (m128.to ⟨.inl rfl, trivial⟩) ?_; clear hK K
        refine d_yg 35 ha131 rfl rfl rfl rfl rfl (fun _ => (m128.to ⟨.inl rfl, trivial⟩)) (by kernel_rfl) (by kernel_rfl) (by kernel_rfl) (by rfl) (fun _ _ _ h => h) (fun W => y_neqS ha131 rfl rfl) ?_
        clear ha131 a131; intro a132 ha132
        refine d_y 36 ha132 rfl rfl (fun _ => (m128.to ⟨.inl rfl, trivial⟩)) (by kernel_rfl) (by kernel_rfl) (by kernel_rfl) (by rfl) (fun _ _ _ h => h) (fun W => y_pickF ha132 rfl rfl) ?_
        clear ha132 a132; intro a133 ha133
        refine d_y 37 ha133 rfl rfl (fun _ => (m128.to ⟨.inl rfl, trivial⟩)) (by kernel_rfl) (by kernel_rfl) (by kernel_rfl) (by rfl) (fun _ _ _ h => h) (fun W => y_move ha133 rfl) ?_
        clear ha133 a133; intro a134 ha134
        refine bool_cases ha134 (t := 80) rfl (fun hb135 ha135 => ?_) (fun hb135 ha135 => ?_)
        · exact absurd hb135 (by simp)
        clear ha134 hb135
        refine d_yg 38 ha135 rfl rfl rfl rfl rfl (fun _ => (m128.to ⟨.inl rfl, trivial⟩)) (by kernel_rfl) (by kernel_rfl) (by kernel_rfl) (by rfl) (fun _ _ _ h => h) (fun W => y_move ha135 rfl) ?_
        clear ha135 a134; intro a136 ha136
        refine d_yg 39 ha136 rfl rfl rfl rfl rfl (fun _ => (m128.to ⟨.inl rfl, trivial⟩)) (by kernel_rfl) (by kernel_rfl) (by kernel_rfl) (by rfl) (fun _ _ _ h => h) (fun W => y_nilCheck ha136 rfl) ?_
        clear ha136 a136; intro a137 ha137
        refine d_yg 40 ha137 rfl rfl rfl rfl rfl (fun _ => (m128.to ⟨.inl rfl, trivial⟩)) (by kernel_rfl) (by kernel_rfl) (by kernel_rfl) (by rfl) (fun _ _ _ h => h) (fun W => y_fieldAddr ha137 (off := 0) rfl Try.underlying56 rfl (s := 4) (by kernel_rfl) rfl) ?_
        clear ha137 a137; intro a138 ha138
        refine d_yg 42 ha138 rfl rfl rfl rfl rfl (fun _ => (m128.to ⟨.inl rfl, trivial⟩)) (by kernel_rfl) (by kernel_rfl) (by kernel_rfl) (by rfl) (fun _ _ _ h => h) (fun W => y_move ha138 rfl) ?_
        clear ha138 a138; intro a139 ha139
        refine d_yg 43 ha139 rfl rfl rfl rfl rfl (fun _ => (m128.to ⟨.inl rfl, trivial⟩)) (by kernel_rfl) (by kernel_rfl) (by kernel_rfl) (by rfl) (fun _ _ _ h => h) (fun W => y_nilCheck ha139 rfl) ?_
        clear ha139 a139; intro a140 ha140
        refine d_yg 44 ha140 rfl rfl rfl rfl rfl (fun _ => (m128.to ⟨.inl rfl, trivial⟩)) (by kernel_rfl) (by kernel_rfl) (by kernel_rfl) (by rfl) (fun _ _ _ h => h) (fun W => y_fieldAddr ha140 (off := 0) rfl Try.underlying56 rfl (s := 4) (by kernel_rfl) rfl) ?_
        clear ha140 a140; intro a141 ha141
        refine stepE_only 41 rfl (by kernel_rfl) (wantedG ha141 rfl rfl rfl rfl) (fun K hK => ?_)
        refine e_call ha141 Try.func25 rfl rfl rfl rfl (last_any _ ii (es2.map entD).length _ _ _ _ _ _ (m128.ok 11 _ rfl : Res.ok _ _ _ _ (.box _ _ _)).1 (by omega) (by rw [List.length_map]; omega)) ?_
        rintro e w142 ⟨rfl, hb142⟩
        have m143 := m128.later hb142
        clear m128
        clear hb142
        refine ⟨_, rfl, fun a144 ha144 => ?_⟩; clear ha141 a141
        refine hK _ _ (m143.to ⟨.inl rfl, trivial⟩) ?_; clear hK K
        refine stepE_only 45 rfl (by kernel_rfl) (wantedG ha144 rfl rfl rfl rfl) (fun K hK => ?_)
        refine e_call ha144 Try.func25 rfl rfl rfl rfl (last_any _ 3 (es.map entD).length _ _ _ _ _ _ (m143.ok 21 _ rfl : Res.ok _ _ _ _ (.box _ _ _)).1 (by omega) (by rw [List.length_map]; omega)) ?_
        rintro e w145 ⟨rfl, hb145⟩
        have m146 := m143.later hb145
        clear m143
        clear hb145
        refine ⟨_, rfl, fun a147 ha147 => ?_⟩; clear ha144 a144
        refine hK _ _ (m146.to ⟨.inl rfl, trivial⟩) ?_; clear hK K
        refine d_yg 46 ha147 rfl rfl rfl rfl rfl (fun _ => (m146.to ⟨.inl rfl, trivial⟩)) (by kernel_rfl) (by kernel_rfl) (by kernel_rfl) (by rfl) (fun _ _ _ h => h) (fun W => y_neq ha147 rfl rfl) ?_
        clear ha147 a147; intro a148 ha148
        refine d_y 47 ha148 rfl rfl (fun _ => (m146.to ⟨.inl rfl, trivial⟩)) (by kernel_rfl) (by kernel_rfl) (by kernel_rfl) (by rfl) (fun _ _ _ h => h) (fun W => y_pickF ha148 rfl rfl) ?_
        clear ha148 a148; intro a149 ha149
        refine wpAnyE_done (by kernel_rfl) ?_ _
        refine hK12 _ _ ?_; clear hK12; try clear K12
        refine bool_cases ha149 (t := 90) rfl (fun hb150 ha150 => ?_) (fun hb150 ha150 => ?_)
        · exact absurd hb150 (by simp; omega)
        clear ha149 hb150
        refine wp_cond_false (ha150.ev (x := .tmp 90) rfl) ?_
        refine wp_skip ?_
        refine hK11 _ _ ?_; clear hK11; try clear K11
        refine wp_seq_k (fun K13 hK13 => ?_)
        refine wp_seq_k (fun K14 hK14 => ?_)
        have ha151 : Has 140 [(6, _), (8, _), (9, _), (10, _)] a149 := ha150.only [6, 8, 9, 10]; clear ha150
        refine wp_region_lit ?_
        refine st_y ha151 rfl (y_move ha151 rfl) ?_
        clear ha151 a149; intro a152 ha152
        refine st_y ha152 rfl (y_assign ha152 rfl) ?_
        clear ha152 a152; intro a153 ha153
        refine wpList_nil ?_
        refine hK14 _ _ ?_; clear hK14; try clear K14
        refine wp_block ?_
        refine wp_loop_ghost (fun g a w => ∃ (j : Nat) (tt : Int) (BB CC : Nat) (pc1 pd1 pl1 pc2 pd2 pl2 : Option Addr) (cc1 cd1 cl1 cc2 cd2 cl2 : Nat), j ≤ es2.length + 1 ∧ g = es2.length + 1 - j ∧ tt = ii + (j : Int) ∧ Has 140 [(8, .pointer (some ⟨BB, 0, none⟩)), (9, .pointer (some ⟨CC, 0, none⟩)), (10, .int .i64 ii), (11, .int .i64 tt)] a ∧ MemOk (cx (fun _ => True) w0) w0 [(11, .box BB 56 [.int .i64 ii, .int .i64 et, .slice pc1 ms.length cc1, .slice pd1 data.length cd1, .slice pl1 (es2.map entD).length cl1]), (12, .seg (.slice pl1 (es2.map entD).length cl1) 32 4 (es2.map entD)), (13, .dat (.slice pc1 ms.length cc1) (.ns .i64 ms)), (14, .dat (.slice pd1 data.length cd1) (.ns .u8 data)), (21, .box CC 56 [.int .i64 3, .int .i64 1, .slice pc2 ([0, 1] : List Int).length cc2, .slice pd2 ([] : List Int).length cd2, .slice pl2 (es.map entD).length cl2]), (22, .seg (.slice pl2 (es.map entD).length cl2) 32 4 (es.map entD)), (23, .dat (.slice pc2 ([0, 1] : List Int).length cc2) (.ns .i64 ([0, 1] : List Int))), (24, .dat (.slice pd2 ([] : List Int).length cd2) (.ns .u8 ([] : List Int)))] w) (es2.length + 1) ?_ ?_
        · exact ⟨0, _, _, _, _, _, _, _, _, _, _, _, _, _, _, _, Nat.zero_le _, rfl, (Int.add_zero _).symm, ha153.only [8, 9, 10, 11], m146.only [11, 12, 13, 14, 21, 22, 23, 24]⟩
        · skip
          clear ha153 m146
          rintro g a154 w154 ⟨j, tt, BB, CC, pc1, pd1, pl1, pc2, pd2, pl2, cc1, cd1, cl1, cc2, cd2, cl2, hjl, hg, rfl, ha154, m154⟩
          refine wp_seq_k (fun K15 hK15 => ?_)
          refine wp_seq_k (fun K16 hK16 => ?_)
          refine wp_region_lit ?_
          refine st_y ha154 rfl (y_move ha154 rfl) ?_
          clear ha154 a154; intro a155 ha155
          refine st_y ha155 rfl (y_move ha155 rfl) ?_
          clear ha155 a155; intro a156 ha156
          refine st_y ha156 rfl (y_nilCheck ha156 rfl) ?_
          clear ha156 a156; intro a157 ha157
          refine st_y ha157 rfl (y_fieldAddr ha157 (off := 0) rfl Try.underlying56 rfl (s := 4) (by kernel_rfl) rfl) ?_
          clear ha157 a157; intro a158 ha158
          refine wpList_plain rfl (fun K hK => ?_)
          refine e_call ha158 Try.func25 rfl rfl rfl rfl (last_any _ 3 (es.map entD).length _ _ _ _ _ _ (m154.ok 21 _ rfl : Res.ok _ _ _ _ (.box _ _ _)).1 (by omega) (by rw [List.length_map]; omega)) ?_
          rintro e w159 ⟨rfl, hb159⟩
          have m160 := m154.later hb159
          clear m154
          clear hb159
          refine ⟨_, rfl, fun a161 ha161 => ?_⟩; clear ha158 a158
          refine hK _ _ ?_; clear hK K
          refine st_y ha161 rfl (y_leq ha161 rfl rfl) ?_
          clear ha161 a161; intro a162 ha162
          refine wpList_nil ?_
          refine hK16 _ _ ?_; clear hK16; try clear K16
          refine bool_cases ha162 (t := 97) rfl (fun hb163 ha163 => ?_) (fun hb163 ha163 => ?_)
          · skip
            clear ha162
            try simp only [decide_eq_true_eq, decide_eq_false_iff_not, Bool.not_eq_true, Bool.not_eq_false, Bool.not_eq_eq_eq_not, Bool.not_true, Bool.not_false, Bool.not_not, Int.not_lt, Int.not_le, ne_eq, Decidable.not_not] at hb163
            have hj : j ≤ es2.length := by rw [hml] at hb163; omega
            obtain ⟨cj, hcj⟩ : ∃ x, confL [0, 1] es (ii + j) = x := ⟨_, rfl⟩
            have hcjl : cj.length ≤ 7 := by rw [← hcj]; exact confL_len (by decide) _ _
            have hcj2 : confL ms es2 (ii + j) = cj := by rw [← hcj, ← hms, ← hes2, hii]; exact conf_two hseq (by omega) (by omega)
            have htj : termL ii et es2 (ii + j) = termL 3 1 es (ii + j) := by rw [← hes2, hii]; exact term_two hesk (by omega)
            refine wp_cond_true (ha163.ev (x := .tmp 97) rfl) ?_
            refine wp_skip ?_
            refine hK15 _ _ ?_; clear hK15; try clear K15
            refine wp_seq_k (fun K17 hK17 => ?_)
            refine wp_block ?_
            refine wp_seq_k (fun K18 hK18 => ?_)
            have ha164 : Has 140 [(8, _), (9, _), (10, _), (11, _)] a162 := ha163.only [8, 9, 10, 11]; clear ha163
            refine wp_region_lit ?_
            refine st_y ha164 rfl (y_move ha164 rfl) ?_
            clear ha164 a162; intro a165 ha165
            refine st_y ha165 rfl (y_move ha165 rfl) ?_
            clear ha165 a165; intro a166 ha166
            refine wpList_plain rfl (fun K hK => ?_)
            refine e_call ha166 Try.func26 rfl rfl rfl rfl (term_any _ ii et ms data es2 _ _ _ _ _ _ _ _ (m160.ok 11 _ rfl : Res.ok _ _ _ _ (.box _ _ _)).1 ((m160.ok 12 _ rfl : Res.ok _ _ _ _ (.seg _ _ _ _)).1.rd (S' := fun _ => True) (fun _ _ _ => trivial) (fun _ _ => trivial)) (by omega) (by omega)) ?_
            rintro e w167 ⟨rfl, hb167⟩
            have m168 := m160.later hb167
            clear m160
            clear hb167
            refine ⟨_, rfl, fun a169 ha169 => ?_⟩; clear ha166 a166
            refine hK _ _ ?_; clear hK K
            refine st_y ha169 rfl (y_move ha169 rfl) ?_
            clear ha169 a169; intro a170 ha170
            refine st_y ha170 rfl (y_move ha170 rfl) ?_
            clear ha170 a170; intro a171 ha171
            refine wpList_plain rfl (fun K hK => ?_)
            refine e_call ha171 Try.func26 rfl rfl rfl rfl (term_any _ 3 1 [0, 1] [] es _ _ _ _ _ _ _ _ (m168.ok 21 _ rfl : Res.ok _ _ _ _ (.box _ _ _)).1 ((m168.ok 22 _ rfl : Res.ok _ _ _ _ (.seg _ _ _ _)).1.rd (S' := fun _ => True) (fun _ _ _ => trivial) (fun _ _ => trivial)) (by omega) (by omega)) ?_
            rintro e w172 ⟨rfl, hb172⟩
            have m173 := m168.later hb172
            clear m168
            clear hb172
            refine ⟨_, rfl, fun a174 ha174 => ?_⟩; clear ha171 a171
            refine hK _ _ ?_; clear hK K
            refine st_y ha174 rfl (y_neq ha174 rfl rfl) ?_
            clear ha174 a174; intro a175 ha175
            refine st_y ha175 rfl (y_move ha175 rfl) ?_
            clear ha175 a175; intro a176 ha176
            refine bool_cases ha176 (t := 107) rfl (fun hb177 ha177 => ?_) (fun hb177 ha177 => ?_)
            · exact absurd hb177 (by simp [htj])
            clear ha176 hb177
            refine st_g ha177 rfl rfl rfl rfl (y_move ha177 rfl) ?_
            clear ha177 a176; intro a178 ha178
            refine st_g ha178 rfl rfl rfl rfl (y_move ha178 rfl) ?_
            clear ha178 a178; intro a179 ha179
            refine st_ge ha179 rfl rfl rfl rfl (fun K hK => ?_)
            refine e_call ha179 Try.func29 rfl rfl rfl rfl (conf_is _ ii et ms data es2 _ _ _ _ _ _ _ _ (m173.ok 11 _ rfl : Res.ok _ _ _ _ (.box _ _ _)).1 ((m173.ok 12 _ rfl : Res.ok _ _ _ _ (.seg _ _ _ _)).1.rd (S' := fun _ => True) (fun _ _ _ => trivial) (fun _ _ => trivial)) (by omega) (m173.rd (i := 13) rfl).any (by omega) hebb2 (ms := cj) hcj2) ?_
            rintro e w180 ⟨p180, c180, rfl, hd180, hb180⟩
            have m181 := m173.callF 100 rfl hb180 hd180
            clear m173
            clear hb180 hd180
            refine ⟨_, rfl, fun a182 ha182 => ?_⟩; clear ha179 a179
            refine hK _ _ ?_; clear hK K
            refine st_g ha182 rfl rfl rfl rfl (y_move ha182 rfl) ?_
            clear ha182 a182; intro a183 ha183
            refine st_g ha183 rfl rfl rfl rfl (y_move ha183 rfl) ?_
            clear ha183 a183; intro a184 ha184
            refine st_ge ha184 rfl rfl rfl rfl (fun K hK => ?_)
            refine e_call ha184 Try.func29 rfl rfl rfl rfl (conf_is _ 3 1 [0, 1] [] es _ _ _ _ _ _ _ _ (m181.ok 21 _ rfl : Res.ok _ _ _ _ (.box _ _ _)).1 ((m181.ok 22 _ rfl : Res.ok _ _ _ _ (.seg _ _ _ _)).1.rd (S' := fun _ => True) (fun _ _ _ => trivial) (fun _ _ => trivial)) (by omega) (m181.rd (i := 23) rfl).any (by decide) hebb (ms := cj) hcj) ?_
            rintro e w185 ⟨p185, c185, rfl, hd185, hb185⟩
            have m186 := m181.callF 101 rfl hb185 hd185
            clear m181
            clear hb185 hd185
            refine ⟨_, rfl, fun a187 ha187 => ?_⟩; clear ha184 a184
            refine hK _ _ ?_; clear hK K
            refine st_ge ha187 rfl rfl rfl rfl (fun K hK => ?_)
            refine e_call ha187 Try.func28 rfl rfl rfl rfl (ints_same cj _ _ _ _ _ (by omega) ((m186.rd (i := 100) rfl).any) ((m186.rd (i := 101) rfl).any)) ?_
            rintro e w188 ⟨rfl, hb188⟩
            have m189 := m186.later hb188
            clear m186
            clear hb188
            refine ⟨_, rfl, fun a190 ha190 => ?_⟩; clear ha187 a187
            refine hK _ _ ?_; clear hK K
            refine st_g ha190 rfl rfl rfl rfl (y_not ha190 rfl) ?_
            clear ha190 a190; intro a191 ha191
            refine st_y ha191 rfl (y_pickF ha191 rfl rfl) ?_
            clear ha191 a191; intro a192 ha192
            refine wpList_nil ?_
            refine hK18 _ _ ?_; clear hK18; try clear K18
            refine wp_cond_false (ha192.ev (x := .tmp 116) rfl) ?_
            refine wp_skip ?_
            refine hK17 _ _ ?_; clear hK17; try clear K17
            have ha193 : Has 140 [(8, _), (9, _), (10, _), (11, _)] a192 := ha192.only [8, 9, 10, 11]; clear ha192
            refine wp_region_lit ?_
            refine st_y ha193 rfl (y_move ha193 rfl) ?_
            clear ha193 a192; intro a194 ha194
            refine st_y ha194 rfl (y_add ha194 rfl rfl (r := ii + ((j + 1 : Nat) : Int)) (by rw [IntWalk.i64_in _ (by omega)]; omega)) ?_
            clear ha194 a194; intro a195 ha195
            refine st_y ha195 rfl (y_assign ha195 rfl) ?_
            clear ha195 a195; intro a196 ha196
            refine wpList_nil ?_
            show ∃ n', n' < _ ∧ _
            exact ⟨es2.length + 1 - (j + 1), by omega, j + 1, _, _, _, _, _, _, _, _, _, _, _, _, _, _, _, by omega, rfl, rfl, ha196.only [8, 9, 10, 11], m189.only [11, 12, 13, 14, 21, 22, 23, 24]⟩
          · skip
            clear ha162
            try simp only [decide_eq_true_eq, decide_eq_false_iff_not, Bool.not_eq_true, Bool.not_eq_false, Bool.not_eq_eq_eq_not, Bool.not_true, Bool.not_false, Bool.not_not, Int.not_lt, Int.not_le, ne_eq, Decidable.not_not] at hb163
            refine wp_cond_false (ha163.ev (x := .tmp 97) rfl) ?_
            refine wp_exit ?_
            refine hK13 _ _ ?_; clear hK13; try clear K13
            refine wp_seq_k (fun K19 hK19 => ?_)
            have ha197 : Has 140 [(8, _), (9, _), (10, _), (11, _)] a162 := ha163.only [8, 9, 10, 11]; clear ha163
            refine wp_region_lit ?_
            refine st_y ha197 rfl (y_move ha197 rfl) ?_
            clear ha197 a162; intro a198 ha198
            refine st_y ha198 rfl (y_move ha198 rfl) ?_
            clear ha198 a198; intro a199 ha199
            refine st_y ha199 rfl (y_sub ha199 rfl rfl (r := ii - 1) (IntWalk.i64_in _ (by omega))) ?_
            clear ha199 a199; intro a200 ha200
            refine wpList_plain rfl (fun K hK => ?_)
            refine e_call ha200 Try.func26 rfl rfl rfl rfl (term_any _ ii et ms data es2 _ _ _ _ _ _ _ _ (m160.ok 11 _ rfl : Res.ok _ _ _ _ (.box _ _ _)).1 ((m160.ok 12 _ rfl : Res.ok _ _ _ _ (.seg _ _ _ _)).1.rd (S' := fun _ => True) (fun _ _ _ => trivial) (fun _ _ => trivial)) (by omega) (by omega)) ?_
            rintro e w201 ⟨rfl, hb201⟩
            have m202 := m160.later hb201
            clear m160
            clear hb201
            refine ⟨_, rfl, fun a203 ha203 => ?_⟩; clear ha200 a200
            refine hK _ _ ?_; clear hK K
            refine st_y ha203 rfl (y_eql ha203 rfl rfl) ?_
            clear ha203 a203; intro a204 ha204
            refine st_y ha204 rfl (y_move ha204 rfl) ?_
            clear ha204 a204; intro a205 ha205
            refine bool_cases ha205 (t := 122) rfl (fun hb206 ha206 => ?_) (fun hb206 ha206 => ?_)
            rotate_left
            · exact absurd hb206 (by simp [htm])
            clear ha205 hb206
            refine st_g ha206 rfl rfl rfl rfl (y_move ha206 rfl) ?_
            clear ha206 a205; intro a207 ha207
            refine st_ge ha207 rfl rfl rfl rfl (fun K hK => ?_)
            refine e_call ha207 Try.func30 rfl rfl rfl rfl (from_is _ ii et ms data es2 _ _ _ _ _ _ _ _ _ (m202.ok 11 _ rfl : Res.ok _ _ _ _ (.box _ _ _)).1 ((m202.ok 12 _ rfl : Res.ok _ _ _ _ (.seg _ _ _ _)).1.rd (S' := fun _ => True) (fun _ _ _ => trivial) (fun _ _ => trivial)) (by omega) (by omega) heok2 (part := es2) hf1) ?_
            rintro e w208 ⟨p208, c208, rfl, hd208, hb208⟩
            have m209 := m202.callF 100 rfl hb208 hd208
            clear m202
            clear hb208 hd208
            refine ⟨_, rfl, fun a210 ha210 => ?_⟩; clear ha207 a207
            refine hK _ _ ?_; clear hK K
            refine st_g ha210 rfl rfl rfl rfl (y_move ha210 rfl) ?_
            clear ha210 a210; intro a211 ha211
            refine st_g ha211 rfl rfl rfl rfl (y_move ha211 rfl) ?_
            clear ha211 a211; intro a212 ha212
            refine st_g ha212 rfl rfl rfl rfl (y_add ha212 rfl rfl (r := ii + 1) (IntWalk.i64_in _ (by omega))) ?_
            clear ha212 a212; intro a213 ha213
            refine st_ge ha213 rfl rfl rfl rfl (fun K hK => ?_)
            refine e_call ha213 Try.func30 rfl rfl rfl rfl (from_is _ 3 1 [0, 1] [] es _ _ _ _ _ _ _ _ _ (m209.ok 21 _ rfl : Res.ok _ _ _ _ (.box _ _ _)).1 ((m209.ok 22 _ rfl : Res.ok _ _ _ _ (.seg _ _ _ _)).1.rd (S' := fun _ => True) (fun _ _ _ => trivial) (fun _ _ => trivial)) (by omega) (by omega) heok (part := es2) hf2) ?_
            rintro e w214 ⟨p214, c214, rfl, hd214, hb214⟩
            have m215 := m209.callF 101 rfl hb214 hd214
            clear m209
            clear hb214 hd214
            refine ⟨_, rfl, fun a216 ha216 => ?_⟩; clear ha213 a213
            refine hK _ _ ?_; clear hK K
            refine st_ge ha216 rfl rfl rfl rfl (fun K hK => ?_)
            refine e_call ha216 Try.func15 rfl rfl rfl rfl (sameS_any es2 _ _ _ _ _ (by omega) ((m215.rd (i := 100) rfl).any) ((m215.rd (i := 101) rfl).any)) ?_
            rintro e w217 ⟨rfl, hb217⟩
            have m218 := m215.later hb217
            clear m215
            clear hb217
            refine ⟨_, rfl, fun a219 ha219 => ?_⟩; clear ha216 a216
            refine hK _ _ ?_; clear hK K
            refine st_y ha219 rfl (y_pickT ha219 rfl rfl) ?_
            clear ha219 a219; intro a220 ha220
            refine st_y ha220 rfl (y_move ha220 rfl) ?_
            clear ha220 a220; intro a221 ha221
            refine st_g ha221 rfl rfl rfl rfl (y_move ha221 rfl) ?_
            clear ha221 a221; intro a222 ha222
            refine st_ge ha222 rfl rfl rfl rfl (fun K hK => ?_)
            refine e_call ha222 Try.func27 rfl rfl rfl rfl (lbase_any _ ii et ms data es2 _ _ _ _ _ _ _ (m218.ok 11 _ rfl : Res.ok _ _ _ _ (.box _ _ _)).1 ((m218.ok 12 _ rfl : Res.ok _ _ _ _ (.seg _ _ _ _)).1.rd (S' := fun _ => True) (fun _ _ _ => trivial) (fun _ _ => trivial)) (by omega) (by omega) (m218.rd (i := 13) rfl).any (m218.rd (i := 14) rfl).any (by omega) (by omega)) ?_
            rintro e w223 ⟨p223, c223, q223, b223, rfl, hc223, hd223, hb223⟩
            have m224 := m218.callFF 102 103 rfl rfl hb223 hc223 hd223
            clear m218
            clear hb223 hc223 hd223
            refine ⟨_, rfl, fun a225 ha225 => ?_⟩; clear ha222 a222
            refine hK _ _ ?_; clear hK K
            refine st_g ha225 rfl rfl rfl rfl (y_field1 ha225 rfl Try.underlying28 rfl (td := _) Try.underlying26 rfl rfl) ?_
            clear ha225 a225; intro a226 ha226
            refine st_g ha226 rfl rfl rfl rfl (y_move ha226 rfl) ?_
            clear ha226 a226; intro a227 ha227
            refine st_g ha227 rfl rfl rfl rfl (y_move ha227 rfl) ?_
            clear ha227 a227; intro a228 ha228
            refine st_ge ha228 rfl rfl rfl rfl (fun K hK => ?_)
            refine e_call ha228 Try.func29 rfl rfl rfl rfl (conf_is _ 3 1 [0, 1] [] es _ _ _ _ _ _ _ _ (m224.ok 21 _ rfl : Res.ok _ _ _ _ (.box _ _ _)).1 ((m224.ok 22 _ rfl : Res.ok _ _ _ _ (.seg _ _ _ _)).1.rd (S' := fun _ => True) (fun _ _ _ => trivial) (fun _ _ => trivial)) (by omega) (m224.rd (i := 23) rfl).any (by decide) hebb (ms := ms) hms) ?_
            rintro e w229 ⟨p229, c229, rfl, hd229, hb229⟩
            have m230 := m224.callF 104 rfl hb229 hd229
            clear m224
            clear hb229 hd229
            refine ⟨_, rfl, fun a231 ha231 => ?_⟩; clear ha228 a228
            refine hK _ _ ?_; clear hK K
            refine st_ge ha231 rfl rfl rfl rfl (fun K hK => ?_)
            refine e_call ha231 Try.func28 rfl rfl rfl rfl (ints_same ms _ _ _ _ _ (by omega) ((m230.rd (i := 102) rfl).any) ((m230.rd (i := 104) rfl).any)) ?_
            rintro e w232 ⟨rfl, hb232⟩
            have m233 := m230.later hb232
            clear m230
            clear hb232
            refine ⟨_, rfl, fun a234 ha234 => ?_⟩; clear ha231 a231
            refine hK _ _ ?_; clear hK K
            refine st_y ha234 rfl (y_pickT ha234 rfl rfl) ?_
            clear ha234 a234; intro a235 ha235
            refine st_y ha235 rfl (y_assign ha235 rfl) ?_
            clear ha235 a235; intro a236 ha236
            refine wpList_nil ?_
            refine hK19 _ _ ?_; clear hK19; try clear K19
            refine wp_ret ?_
            try dsimp only [Exit.then, Exit.inBlock]
            refine (ret1 (fn := Try.f5) ha236 rfl rfl ?_)
            exact ⟨by first | rfl | simp, m233.below⟩
end Go.Proofs.Ytmdckdhogbbhlaa.K
