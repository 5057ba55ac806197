/- IntakePlaces: a plan's calls told to the reference's machine, one by one; the walk. -/
import Derived.Test.YtkdnhndjjfjppaaInt6
import Derived.Test.YtkdnhndjjfjppaaInt7
import Derived.Test.YtkdnhndjjfjppaaVol20
namespace Go.Proofs.Ytkdnhndjjfjppaa.K
open Go.ChangeShapes Go.WideShapes Go.ChangeAt Go.RowKit
set_option linter.unusedVariables false
set_option linter.unusedSimpArgs false

theorem fl45ipc : flatS Try.prog 45 [.slice none 0 0] = true := by kernel_rfl
theorem inf5ipc : (Try.prog.info? 5).map (fun i => (i.zero, i.size, i.bytes)) = some (some (.int .u8 0), 1, 1) := by kernel_rfl
theorem sz5ipc : (Try.prog.info? 5).map (·.size) = some 1 := by kernel_rfl
theorem sz24ipc : (Try.prog.info? 24).map (·.size) = some 5 := by kernel_rfl
theorem sz49ipc : (Try.prog.info? 49).map (·.size) = some 11 := by kernel_rfl
theorem sz57ipc : (Try.prog.info? 57).map (·.size) = some 10 := by kernel_rfl
theorem sz59ipc : (Try.prog.info? 59).map (·.size) = some 5 := by kernel_rfl
theorem sz62ipc : (Try.prog.info? 62).map (·.size) = some 1 := by kernel_rfl
theorem zc24ipc : ((Try.prog.info? 24).bind (·.zero)).map (·.cells.toList) = some [.int .i64 0, .int .i64 0, .int .i64 0, .int .i64 0, .slice none 0 0] := by kernel_rfl
theorem zc45ipc : ((Try.prog.info? 45).bind (·.zero)).map (·.cells.toList) = some [.slice none 0 0] := by kernel_rfl
theorem zc49ipc : ((Try.prog.info? 49).bind (·.zero)).map (·.cells.toList) = some [.int .i64 0, .int .i64 0, .int .i64 0, .int .i64 0, .slice none 0 0, .int .i64 0, .int .i64 0, .bool false, .int .i64 0, .slice none 0 0, .slice none 0 0] := by kernel_rfl
theorem zc59ipc : ((Try.prog.info? 59).bind (·.zero)).map (·.cells.toList) = some [.int .i64 0, .int .i64 0, .int .i64 0, .int .i64 0, .slice none 0 0] := by kernel_rfl
theorem zc69ipc : ((Try.prog.info? 69).bind (·.zero)).map (·.cells.toList) = some [.slice none 0 0, .slice none 0 0] := by kernel_rfl

set_option maxRecDepth 100000
set_option maxHeartbeats 4000000
theorem rapply_plan (X : Cx) (B : Nat) {vo pe : Int} {pl : List Int} {bl sz : Int} {S : List (List Int)} {n T : Nat} (h : PlanOk vo pe pl bl sz S n T) (j : Nat) (c9 : RC) (hj : (planL vo pe pl bl sz (wholeI S S.length) n T)[j]? = some c9) (p : Option Addr) (c : Nat) (pb : Option Addr) (cb : Nat) (w0 : World) (m0 : MemOk X w0 [(1, .box B 45 [.slice p ((macL vo pe pl bl sz (wholeI S S.length) n T j).map volD).length c]), (2, .dat (.slice p ((macL vo pe pl bl sz (wholeI S S.length) n T j).map volD).length c) (.l 11 ((macL vo pe pl bl sz (wholeI S S.length) n T j).map volD))), (3, .dat (.slice pb (cmdE c9.kd c9.vo c9.bl c9.sz c9.pe c9.to c9.at0 c9.ix c9.pl c9.its).length cb) (.ns .u8 (cmdE c9.kd c9.vo c9.bl c9.sz c9.pe c9.to c9.at0 c9.ix c9.pl c9.its)))] w0) :
   Calls Try.prog 19 #[.pointer (some ⟨B, 0, none⟩), .slice pb (cmdE c9.kd c9.vo c9.bl c9.sz c9.pe c9.to c9.at0 c9.ix c9.pl c9.its).length cb] w0 fun e w' => ∃ (rl rf rn : Int) (p' : Option Addr) (c' : Nat), e = .returned (.agg #[.int .i64 0, .int .i64 rl, .int .i64 rf, .int .i64 rn, .slice none 0 0]) ∧ MemOk X w0 [(1, .box B 45 [.slice p' ((macL vo pe pl bl sz (wholeI S S.length) n T (j + 1)).map volD).length c']), (2, .dat (.slice p' ((macL vo pe pl bl sz (wholeI S S.length) n T (j + 1)).map volD).length c') (.l 11 ((macL vo pe pl bl sz (wholeI S S.length) n T (j + 1)).map volD)))] w' := by
 have hc := h.cmd hj
 have hTb := h.tb
 have hjl := (List.getElem?_eq_some_iff.1 hj).1
 rw [planL_len] at hjl
 rcases Nat.eq_zero_or_pos j with h0 | h0
 · subst h0
   obtain rfl : planH vo pe pl bl sz T = c9 := Option.some.inj hj
   refine (rapply_new X B _ p c vo bl sz pe T 0 0 pl [] pb cb w0 rfl h.nw hc m0).mono ?_
   rintro e w' ⟨p', c', rfl, m⟩
   have h3 : [newV vo bl sz pe T pl] = macL vo pe pl bl sz (wholeI S S.length) n T (0 + 1) := by
     rw [macL, if_neg (by omega), if_pos (by omega), newV, show decide (0 < (T : Int)) = true from by rw [decide_eq_true_eq]; omega]; rfl
   rw [h3] at m
   exact ⟨0, 0, 0, p', c', rfl, m⟩
 · obtain ⟨i, rfl⟩ : ∃ i, j = i + 1 := ⟨j - 1, by omega⟩
   have hL : macL vo pe pl bl sz (wholeI S S.length) n T (i + 1) = [planV vo pe pl bl sz (wholeI S S.length) n T i] := by rw [macL, if_neg (by omega), if_pos (by omega), Nat.add_sub_cancel]
   rcases Nat.lt_or_ge i T with h1 | h1
   · rw [planL_imp h1] at hj
     obtain rfl := Option.some.inj hj
     refine (rapply_do X B i _ (planV vo pe pl bl sz (wholeI S S.length) n T i) p c 6 vo 0 0 0 0 0 i [] (chunkI (wholeI S S.length) n i) pb cb w0 hL rfl (h.volS (by omega)) (by omega) (by decide) (by decide) (by decide) hc m0).mono ?_
     rintro e w' ⟨y, e9, rl, rf, rn, p', c', rfl, hy, m⟩
     obtain ⟨rfl, rfl⟩ := hy.uni (planV_do h1 (h.items h1))
     have h3 : macL vo pe pl bl sz (wholeI S S.length) n T (i + 1 + 1) = [planV vo pe pl bl sz (wholeI S S.length) n T (i + 1)] := by rw [macL, if_neg (by omega), if_pos (by omega), Nat.add_sub_cancel]
     rw [h3]
     exact ⟨rl, rf, rn, p', c', rfl, m⟩
   · obtain rfl : i = T := by omega
     rw [planL_end] at hj
     obtain rfl := Option.some.inj hj
     refine (rapply_do X B i _ (planV vo pe pl bl sz (wholeI S S.length) n i i) p c 7 vo 0 0 0 0 0 0 [] [] pb cb w0 hL rfl (h.volS (Nat.le_refl _)) (by omega) (by decide) (by decide) (by decide) hc m0).mono ?_
     rintro e w' ⟨y, e9, rl, rf, rn, p', c', rfl, hy, m⟩
     obtain ⟨rfl, rfl⟩ := hy.uni planF_do
     have h3 : macL vo pe pl bl sz (wholeI S S.length) n i (i + 1 + 1) = [planF vo pe pl bl sz (wholeI S S.length) n i] := by rw [macL, if_neg (by omega), if_neg (by omega)]
     rw [h3]
     exact ⟨rl, rf, rn, p', c', rfl, m⟩
theorem PlanOk.last {vo pe : Int} {pl : List Int} {bl sz : Int} {S : List (List Int)} {n T : Nat} (h : PlanOk vo pe pl bl sz S n T) : ∃ x, macL vo pe pl bl sz (wholeI S S.length) n T (T + 2) = [x] ∧ x.vo = vo ∧ x.pe = pe ∧ x.hi = false ∧ x.fl = T ∧ x.ws.length = T ∧ VolS (T + 1) x ∧ stL x.bl x.sz x.ws x.ws.length = S := by
 refine ⟨planF vo pe pl bl sz (wholeI S S.length) n T, by rw [macL, if_neg (by omega), if_neg (by omega)], rfl, rfl, rfl, rfl, wsP_len _ _ _, h.fin, ?_⟩
 show stL bl sz (wsP (wholeI S S.length) n T) (wsP (wholeI S S.length) n T).length = S
 rw [wsP_len]
 exact plan_state h.l h.tb.2.2
theorem rvolume_v (X : Cx) (B : Nat) (x : VolV) (vo : Int) (p : Option Addr) (c : Nat) (w0 : World) (hv : x.vo = vo) (m0 : MemOk X w0 [(1, .box B 45 [.slice p ([x].map volD).length c]), (2, .dat (.slice p ([x].map volD).length c) (.l 11 ([x].map volD)))] w0) :
   Calls Try.prog 13 #[.pointer (some ⟨B, 0, none⟩), .int .i64 vo] w0 fun e w' => ∃ (p1 p2 p3 : Option Addr) (d1 d2 d3 : Nat), e = .returned (.tuple #[.agg #[.int .i64 x.vo, .int .i64 x.bl, .int .i64 x.sz, .int .i64 x.pe, .slice p1 x.place.length d1, .int .i64 x.to, .int .i64 x.ne, .bool x.hi, .int .i64 x.fl, .slice p2 x.pins.length d2, .slice p3 (x.ws.map wrD).length d3], .bool true]) ∧ MemOk X w0 [(1, .box B 45 [.slice p ([x].map volD).length c]), (2, .dat (.slice p ([x].map volD).length c) (.l 11 ([x].map volD))), (3, .dat (.slice p1 x.place.length d1) (.ns .i64 x.place)), (4, .dat (.slice p2 x.pins.length d2) (.ns .i64 x.pins)), (5, .dat (.slice p3 (x.ws.map wrD).length d3) (.l 2 (x.ws.map wrD)))] w' := by
 subst hv; exact rvolume_x X B x p c w0 m0
theorem rblocks_s (X : Cx) (bl sz fr to : Int) (S : List (List Int)) (pi : Option Addr) (ci : Nat) (w0 : World) (hs : StreamOk bl sz fr to (wholeI S S.length)) (hfr : fr = -1) (m0 : MemOk X w0 [(3, .dat (.slice pi S.length ci) (.l 2 ((wholeI S S.length).map itD)))] w0) :
   Calls Try.prog 23 #[.agg #[.int .i64 bl, .int .i64 sz, .int .i64 fr, .int .i64 to, .slice pi S.length ci]] w0 fun e w' => ∃ (p : Option Addr) (c : Nat), e = .returned (.slice p (S.map bD).length c) ∧ MemOk X w0 [(3, .dat (.slice pi S.length ci) (.l 2 ((wholeI S S.length).map itD))), (9, .dat (.slice p (S.map bD).length c) (.l 1 (S.map bD)))] w' := by
 have h9 : ((wholeI S S.length).map itD).length = S.length := by rw [List.length_map, wholeI_len]
 have h := rblocks_any X bl sz fr to S pi ci w0 hs hfr
 rw [h9] at h
 exact h m0
theorem places_walk (l : List Int) (pl : Option Addr) (cl : Nat) (p9 q9 k9 n9 : Int) (w0 : World) (h1 : Rd (fun _ => True) w0 (.slice pl l.length cl) (.ns .u8 l)) (hlb : ∀ j, j < l.length → 0 ≤ l.getD j 0 ∧ l.getD j 0 ≤ 255) (hp9 : 0 ≤ p9 ∧ p9 ≤ 255) (hq9 : 0 ≤ q9 ∧ q9 ≤ 255) (hk9 : 0 ≤ k9 ∧ k9 ≤ 255) (hn9 : 0 ≤ n9 ∧ n9 ≤ 255) :
   Calls Try.prog 6 #[.slice pl l.length cl, .int .u8 p9, .int .u8 q9, .int .u8 k9, .int .u8 n9] w0 fun e w' => e = .returned (.bool true) ∧ Below w0.heap.size w0 w' := by
 refine enter (fn := Try.f6) Try.func6 rfl Try.ntmps6 rfl (fun Az Hz => ?_)
 simp only [List.zipIdx_cons, List.zipIdx_nil, List.map_cons, List.map_nil, Nat.reduceAdd, Nat.zero_add] at Hz
 have m0 := MemOk.start (fun _ => False) w0
 refine regS Hz (.assign rfl <| .nil) ?_
 clear Hz Az; intro Az Hz
 refine wp_seq_k (fun K0 hK0 => ?_)
 refine wp_seq_k (fun K1 hK1 => ?_)
 refine wp_region_lit ?_
 refine wpList_plain rfl (fun K hK => ?_)
 refine e_call Hz Try.func7 rfl rfl rfl rfl (iknown_any _) ?_
 rintro e w2 ⟨rfl, hb2⟩
 have m3 := m0.later hb2
 clear m0
 clear hb2
 refine ⟨_, rfl, ?_⟩; clear Hz Az; intro Az Hz
 refine hK _ _ ?_; clear hK K
 refine goCh Hz (.not rfl .nil) ?_
 clear Hz Az; intro Az Hz
 refine wpList_nil ?_
 refine hK1 _ _ ?_; clear hK1; try clear K1
 refine wp_cond_false (Hz.ev (x := .tmp 25) rfl) ?_
 refine wp_skip ?_
 refine hK0 _ _ ?_; clear hK0; try clear K0
 refine wp_seq_k (fun K2 hK2 => ?_)
 refine regS Hz (.move rfl <| .len rfl Try.underlying25 <| .gtr rfl rfl <| .nil) ?_
 clear Hz Az; intro Az Hz
 refine bool_cases Hz (t := 28) rfl ?_ ?_
 ·
  clear Hz; intro hb9 Hz
  try simp only [Q1x, Q2x, Q3x, Q4x, Q5x, Q6x, Q7x, Q8x, Q9x, Q0x, Qax, Qbx] at hb9
  refine wp_cond_true (Hz.ev (x := .tmp 28) rfl) ?_
  refine regS Hz (.assign rfl <| .nil) ?_
  clear Hz Az; intro Az Hz
  refine wp_ret ?_
  try dsimp only [Exit.then, Exit.inBlock]
  refine (ret1 (fn := Try.f6) Hz rfl rfl ?_)
  exact ⟨by first | rfl | simp, m3.below⟩
 ·
  clear Hz; intro hb9 Hz
  try simp only [Q1x, Q2x, Q3x, Q4x, Q5x, Q6x, Q7x, Q8x, Q9x, Q0x, Qax, Qbx] at hb9
  have hl60 : l.length ≤ 60 := by have := hb9; first | omega | (simp at this; omega)
  refine wp_cond_false (Hz.ev (x := .tmp 28) rfl) ?_
  refine wp_skip ?_
  refine hK2 _ _ ?_; clear hK2; try clear K2
  refine wp_seq_k (fun K3 hK3 => ?_)
  refine wp_region_lit ?_
  refine goCh Hz (.move rfl .nil) ?_
  clear Hz Az; intro Az Hz
  refine wpList_plain rfl (fun K hK => ?_)
  refine e_call Hz Try.func8 rfl rfl rfl rfl (whole_b l _ _ _ ((h1.now' m3 rfl).any) hl60 hlb) ?_
  rintro e w13 ⟨y, S, p13, c13, rfl, hS, hSl, hSz, hSb, hd13, hb13⟩
  have m14 := m3.callF 70 rfl hb13 hd13
  clear m3
  clear hb13 hd13
  have hS0 := hS
  have hsm := hS.sm
  obtain ⟨hV, hh0, hpn9, hws9, hwb9⟩ := hS0
  obtain ⟨v1, v2, v3, v4, v5, v6, v7, v8, v9⟩ := hV
  obtain ⟨n1, n2, n3, n4, n5, n6, n7, n8, n9q, n10, n11⟩ := v1
  refine ⟨_, rfl, ?_⟩; clear Hz Az; intro Az Hz
  refine hK _ _ ?_; clear hK K
  obtain ⟨nq, hnq, hnq2⟩ := tmod_n3 (a := n9) (n := 8) hn9.1 (by decide)
  have hso : StreamOk y.bl y.sz (-1) y.ws.length (wholeI S S.length) := whole_ok hS (by omega) hSl hSz
  have hio : ItsOk (wholeI S S.length) := fun e he => by
    obtain ⟨j, hj, rfl⟩ := List.getElem_of_mem he
    have := (hso.i j _ (List.getElem?_eq_getElem hj)).2.2
    omega
  obtain ⟨T, hT⟩ : ∃ T : Nat, (y.bl + ((nq + 1 : Nat) : Int) - 1) / ((nq + 1 : Nat) : Int) = (T : Int) := by
    have q0 : 0 ≤ (y.bl + ((nq + 1 : Nat) : Int) - 1) / ((nq + 1 : Nat) : Int) := Int.ediv_nonneg (by omega) (by omega)
    exact ⟨((y.bl + ((nq + 1 : Nat) : Int) - 1) / ((nq + 1 : Nat) : Int)).toNat, by omega⟩
  have hTb : T ≤ 256 := plan_T (n := nq + 1) (by omega) ⟨n3, n4⟩ hT
  refine wpList_plain rfl (fun K hK => ?_)
  refine e_alloc Hz m14 71 zc24ipc rfl ?_
  clear Hz Az m14; intro g16 Az w17 Hz m17 hB17 hg17
  clear hB17 hg17
  refine hK _ _ ?_; clear hK K
  refine wpList_plain rfl (fun K hK => ?_)
  refine e_storeW Hz m17 71 rfl rfl rfl rfl rfl sz24ipc ?_
  clear m17; intro w18 m18 hB18
  clear hB18
  refine hK _ _ ?_; clear hK K
  refine wpList_nil ?_
  refine hK3 _ _ ?_; clear hK3; try clear K3
  replace Hz : Has 129 [(1, _), (2, _), (3, _), (4, _), (10, _), (11, _)] Az := Hz.only [1, 2, 3, 4, 10, 11]
  refine wp_seq_k (fun K4 hK4 => ?_)
  refine wp_region_lit ?_
  refine wpList_plain rfl (fun K hK => ?_)
  refine e_alloc Hz m18 72 zc69ipc rfl ?_
  clear Hz Az m18; intro g20 Az w21 Hz m21 hB21 hg21
  clear hB21 hg21
  refine hK _ _ ?_; clear hK K
  refine wpList_nil ?_
  refine hK4 _ _ ?_; clear hK4; try clear K4
  refine wp_seq_k (fun K5 hK5 => ?_)
  refine regS Hz (.assign rfl <| .nil) ?_
  clear Hz Az; intro Az Hz
  refine wp_block ?_
  refine wp_loop_ghost (fun g a w => ∃ (i : Nat) (A1 A2 : List (List Int)) (B11 B12 : Nat) (pi pa pb : Option Addr) (ci ca cb : Nat), i ≤ 2 ∧ g = 2 - i ∧ (1 ≤ i → A1 = S) ∧ (2 ≤ i → A2 = S) ∧ Has 129 [(1, .int .u8 p9), (2, .int .u8 q9), (3, .int .u8 k9), (4, .int .u8 n9), (11, .pointer (some ⟨B11, 0, none⟩)), (12, .pointer (some ⟨B12, 0, none⟩)), (13, .int .i64 (i : Int))] a ∧ MemOk (cn w0) w0 [(1, .box B11 24 [.int .i64 y.bl, .int .i64 y.sz, .int .i64 (-1), .int .i64 y.ws.length, .slice pi S.length ci]), (2, .dat (.slice pi S.length ci) (.l 2 ((wholeI S S.length).map itD))), (4, .box B12 69 [.slice pa (A1.map bD).length ca, .slice pb (A2.map bD).length cb]), (5, .dat (.slice pa (A1.map bD).length ca) (.l 1 (A1.map bD))), (6, .dat (.slice pb (A2.map bD).length cb) (.l 1 (A2.map bD)))] w) (2) ?_ ?_
  · have mz := m21.dat 5 rfl (Rd.l0 none 0 1)
    have my := mz.dat 6 rfl (Rd.l0 none 0 1)
    exact ⟨0, [], [], _, _, _, _, _, _, _, _, by omega, rfl, (fun h => by omega), (fun h => by omega), Hz.only [1, 2, 3, 4, 11, 12, 13], my.ren [(1, 71), (2, 70), (4, 72), (5, 5), (6, 6)] (by decide)⟩
  ·
   clear Hz m21
   rintro g Az w23 ⟨i, A1, A2, B11, B12, pi, pa, pb, ci, ca, cb, hil, hg, hA1, hA2, Hz, m23⟩
   refine wp_seq_k (fun K6 hK6 => ?_)
   refine regS Hz (.move rfl <| .lss rfl rfl <| .nil) ?_
   clear Hz Az; intro Az Hz
   refine bool_cases Hz (t := 32) rfl ?_ ?_
   ·
    clear Hz; intro hb26 Hz
    try simp only [Q1x, Q2x, Q3x, Q4x, Q5x, Q6x, Q7x, Q8x, Q9x, Q0x, Qax, Qbx] at hb26
    have hi2 : i < 2 := by have := hb26; first | omega | (simp at this; omega)
    obtain ⟨px, hpx, hpx0⟩ : ∃ x : Int, [p9, q9].getD i 0 = x ∧ 0 ≤ x ∧ x ≤ 255 := ⟨_, rfl, by rcases (show i = 0 ∨ i = 1 by omega) with h | h <;> subst h <;> simp <;> omega⟩
    obtain ⟨pq, hpq, hpq2⟩ := tmod_n3 (a := px) (n := y.bl) hpx0.1 (by omega)
    refine wp_cond_true (Hz.ev (x := .tmp 32) rfl) ?_
    refine wp_skip ?_
    refine hK6 _ _ ?_; clear hK6; try clear K6
    refine wp_seq_k (fun K7 hK7 => ?_)
    refine wp_block ?_
    refine wp_seq_k (fun K8 hK8 => ?_)
    have m27 : MemOk _ _ [(1, _), (2, _), (4, _), (5, _), (6, _)] _ := m23.only [1, 2, 4, 5, 6]; clear m23
    refine region_p 12 (B := [(1, _), (2, _), (4, _), (5, _), (6, _)]) (m27.to ⟨il, il, il, il, il, trivial⟩) m27 (by kernel_rfl) (fun w28 hP28 m28 => ?_); clear m27
    refine goR hP28 [0, 1, 3, 7, 8] [8] 5 0 395 Hz (m28.to ⟨il, il, il, il, il, trivial⟩) (.move rfl <| .move rfl <| .move rfl <| .fieldAddr (off := 0) rfl Try.underlying24 rfl (s := 0) (by kernel_rfl) rfl <| .loadB1 hh (i := 1) rfl rfl rfl Try.underlying3 rfl <| .nil) ?_
    clear Hz Az; intro Az Hz
    refine stepE_only 2 rfl (by kernel_rfl) rfl (fun K hK => ?_)
    refine e_litN Hz m28 100 (k := .u8) rfl rfl Try.underlying25 inf5ipc rfl rfl rfl rfl ?_
    clear Hz Az m28; intro g34 Az w35 Hz m35
    refine hK _ _ (m35.to ⟨il, il, il, il, il, trivial⟩) ?_; clear hK K
    obtain ⟨g36, hpg36⟩ := m35.openO (i := 100) rfl (Nat.lt_of_le_of_lt (Nat.zero_le _) hi2)
    cases hpg36
    refine goA hP28 [4] 1 399 415 Hz (m35.to ⟨il, il, il, il, il, trivial⟩) (.p (fun _ _ h => y_idxO h rfl rfl Try.underlying25 sz5ipc (i) rfl hi2) <| .nil) ?_
    clear Hz Az; intro Az Hz
    refine stepE_only 5 rfl (by kernel_rfl) rfl (fun K hK => ?_)
    refine e_y Hz rfl (y_loadO Hz m35 (i := 100) rfl rfl rfl hi2 Try.underlying5 rfl) ?_
    clear Hz Az; intro Az Hz
    refine hK _ _ (m35.to ⟨il, il, il, il, il, trivial⟩) ?_; clear hK K
    refine goA hP28 [6, 9, 10, 11] 4 447 4095 Hz (m35.to ⟨il, il, il, il, il, trivial⟩) (.conv rfl Try.underlying5 Try.underlying3 (r := px) (by rw [hpx]; exact IntWalk.i64_in _ (by omega)) <| .rem rfl rfl (by omega) (r := (pq : Int)) hpq <| .add rfl rfl (r := (pq : Int) + 1) (IntWalk.i64_in _ (by omega)) <| .assign rfl <| .nil) ?_
    clear Hz Az; intro Az Hz
    refine wpAnyE_done (by kernel_rfl) ?_ _
    refine hK8 _ _ ?_; clear hK8; try clear K8
    refine wp_seq_k (fun K9 hK9 => ?_)
    replace Hz : Has 129 [(1, _), (2, _), (3, _), (4, _), (11, _), (12, _), (13, _), (14, _)] Az := Hz.only [1, 2, 3, 4, 11, 12, 13, 14]
    have m44 : MemOk _ _ [(1, _), (2, _), (4, _), (5, _), (6, _), (100, _)] _ := m35.only [1, 2, 4, 5, 6, 100]; clear m35
    refine region_p 18 (B := [(1, _), (2, _), (4, _), (5, _), (6, _), (100, _)]) (m44.to ⟨il, il, il, il, il, il, trivial⟩) m44 (by kernel_rfl) (fun w45 hP45 m45 => ?_); clear m44
    refine goR hP45 [0, 1, 2, 3, 4, 5, 6, 8, 9, 10, 11] [0, 4] 11 0 3967 Hz (m45.to ⟨il, il, il, il, il, il, trivial⟩) (.loadBR hh (i := 1) rfl rfl Try.underlying24 rfl sz24ipc (by simp) (by dsimp only [List.drop, List.take] <;> rfl) <| .move rfl <| .move rfl <| .fieldAddr (off := 0) rfl Try.underlying24 rfl (s := 0) (by kernel_rfl) rfl <| .loadB1 hh (i := 1) rfl rfl rfl Try.underlying3 rfl <| .move rfl <| .move rfl <| .move rfl <| .rem rfl rfl (by decide) (r := (nq : Int)) hnq <| .conv rfl Try.underlying5 Try.underlying3 (r := (nq : Int)) (IntWalk.i64_in _ (by omega)) <| .add rfl rfl (r := ((nq + 1 : Nat) : Int)) (by rw [IntWalk.i64_in _ (by omega)]; omega) <| .nil) ?_
    clear Hz Az; intro Az Hz
    refine stepE_only 7 rfl (by kernel_rfl) rfl (fun K hK => ?_)
    refine e_call Hz Try.func10 rfl rfl rfl rfl (iplace_any y.bl ((pq : Int) + 1) k9 _ (by omega) (by omega) ⟨by omega, by omega⟩ hk9) ?_
    rintro e w57 ⟨pl9, p57, c57, rfl, hpo, hpl9, hd57, hb57⟩
    have m58 := m45.callF 101 rfl hb57 hd57
    clear m45
    clear hb57 hd57
    refine ⟨_, rfl, ?_⟩; clear Hz Az; intro Az Hz
    refine hK _ _ (m58.to ⟨il, il, il, il, il, il, trivial⟩) ?_; clear hK K
    have hNW : NewOk (i : Int) y.bl y.sz ((pq : Int) + 1) (T : Int) pl9 := ⟨by omega, by omega, by omega, by omega, by omega, by omega, by omega, by omega, hpo, by omega, by omega⟩
    have hP : PlanOk (i : Int) ((pq : Int) + 1) pl9 y.bl y.sz S (nq + 1) T := ⟨hNW, by omega, by omega, hSl, hSz, hSb, hT⟩
    refine stepE_only 12 rfl (by kernel_rfl) rfl (fun K hK => ?_)
    refine e_call Hz Try.func9 rfl rfl rfl rfl (plan_yes y.bl y.sz (-1) _ (i : Int) ((pq : Int) + 1) (wholeI S S.length) _ _ _ pl9 _ _ (nq + 1) T _ _ (m58.rd (i := 2) rfl) ((m58.rd (i := 101) rfl).any) hso hio (by omega) (by omega) (by omega) hT rfl hNW) ?_
    rintro e w60 ⟨p60, c60, rfl, hd60, hb60⟩
    obtain ⟨cs, hcs⟩ : ∃ x, planL (i : Int) ((pq : Int) + 1) pl9 y.bl y.sz (wholeI S S.length) (nq + 1) T = x := ⟨_, rfl⟩
    have hcl : cs.length = T + 2 := by rw [← hcs, planL_len]
    rw [hcs] at hd60 ⊢
    have m61 := m58.callD 102 rfl hb60 hd60
    clear m58
    clear hb60 hd60
    refine ⟨_, rfl, ?_⟩; clear Hz Az; intro Az Hz
    refine hK _ _ (m61.to ⟨il, il, il, il, il, il, trivial⟩) ?_; clear hK K
    refine goA hP45 [13, 14, 15, 16, 17] 5 8191 262143 Hz (m61.to ⟨il, il, il, il, il, il, trivial⟩) (.move rfl <| .extract rfl rfl <| .extract rfl rfl <| .assign rfl <| .assign rfl <| .nil) ?_
    clear Hz Az; intro Az Hz
    refine wpAnyE_done (by kernel_rfl) ?_ _
    refine hK9 _ _ ?_; clear hK9; try clear K9
    refine wp_seq_k (fun K10 hK10 => ?_)
    replace Hz : Has 129 [(1, _), (2, _), (3, _), (4, _), (11, _), (12, _), (13, _), (14, _), (15, _), (16, _)] Az := Hz.only [1, 2, 3, 4, 11, 12, 13, 14, 15, 16]
    refine regS Hz (.move rfl <| .neq rfl rfl <| .nil) ?_
    clear Hz Az; intro Az Hz
    refine bool_cases Hz (t := 63) rfl ?_ ?_
    · intro hb _; exact absurd hb (by first | (simp; done) | (simp; omega) | (rw [hxh]; decide))
    clear Hz; intro _ Hz
    refine wp_cond_false (Hz.ev (x := .tmp 63) rfl) ?_
    refine wp_skip ?_
    refine hK10 _ _ ?_; clear hK10; try clear K10
    refine wp_seq_k (fun K11 hK11 => ?_)
    refine wp_region_lit ?_
    refine goCh Hz (.build rfl zc45ipc fl45ipc rfl (by dsimp only [setL, List.set] <;> rfl) .nil) ?_
    clear Hz Az; intro Az Hz
    refine wpList_plain rfl (fun K hK => ?_)
    refine e_box Hz m61 103 (cs := [_]) rfl rfl rfl ?_
    clear Hz Az m61; intro g74 Az w75 Hz m75 hB75 hg75
    clear hB75 hg75
    refine hK _ _ ?_; clear hK K
    refine goCh Hz (.assign rfl .nil) ?_
    clear Hz Az; intro Az Hz
    refine wpList_nil ?_
    refine hK11 _ _ ?_; clear hK11; try clear K11
    refine wp_seq_k (fun K12 hK12 => ?_)
    refine regS Hz (.assign rfl <| .nil) ?_
    clear Hz Az; intro Az Hz
    refine wp_block ?_
    refine wp_loop_ghost (fun g a w => ∃ (j B17 : Nat) (pm pc : Option Addr) (cm cc : Nat) (B11 B12 : Nat) (pi pa pb : Option Addr) (ci ca cb : Nat), j ≤ T + 2 ∧ g = T + 2 - j ∧ Has 129 [(1, .int .u8 p9), (2, .int .u8 q9), (3, .int .u8 k9), (4, .int .u8 n9), (11, .pointer (some ⟨B11, 0, none⟩)), (12, .pointer (some ⟨B12, 0, none⟩)), (13, .int .i64 (i : Int)), (14, .int .i64 ((pq : Int) + 1)), (15, .slice pc cs.length cc), (17, .pointer (some ⟨B17, 0, none⟩)), (18, .int .i64 (j : Int))] a ∧ MemOk (cn w0) w0 [(1, .box B11 24 [.int .i64 y.bl, .int .i64 y.sz, .int .i64 (-1), .int .i64 y.ws.length, .slice pi S.length ci]), (2, .dat (.slice pi S.length ci) (.l 2 ((wholeI S S.length).map itD))), (4, .box B12 69 [.slice pa (A1.map bD).length ca, .slice pb (A2.map bD).length cb]), (5, .dat (.slice pa (A1.map bD).length ca) (.l 1 (A1.map bD))), (6, .dat (.slice pb (A2.map bD).length cb) (.l 1 (A2.map bD))), (7, .dat (.slice pc cs.length cc) (.l 10 (cs.map cmdD))), (8, .box B17 45 [.slice pm ((macL (i : Int) ((pq : Int) + 1) pl9 y.bl y.sz (wholeI S S.length) (nq + 1) T j).map volD).length cm]), (10, .dat (.slice pm ((macL (i : Int) ((pq : Int) + 1) pl9 y.bl y.sz (wholeI S S.length) (nq + 1) T j).map volD).length cm) (.l 11 ((macL (i : Int) ((pq : Int) + 1) pl9 y.bl y.sz (wholeI S S.length) (nq + 1) T j).map volD)))] w) (T + 2) ?_ ?_
    · have mz := m75.dat 10 rfl (Rd.l0 none 0 11)
      exact ⟨0, _, _, _, _, _, _, _, _, _, _, _, _, _, Nat.zero_le _, rfl, Hz.only [1, 2, 3, 4, 11, 12, 13, 14, 15, 17, 18], mz.ren [(1, 1), (2, 2), (4, 4), (5, 5), (6, 6), (7, 102), (8, 103), (10, 10)] (by decide)⟩
    ·
     clear Hz m75
     rintro g Az w78 ⟨j, B17, pm, pc, cm, cc, B11, B12, pi, pa, pb, ci, ca, cb, hjl, hg2, Hz, m78⟩
     refine wp_seq_k (fun K13 hK13 => ?_)
     refine regS Hz (.move rfl <| .move rfl <| .len rfl Try.underlying31 <| .lss rfl rfl <| .nil) ?_
     clear Hz Az; intro Az Hz
     refine bool_cases Hz (t := 69) rfl ?_ ?_
     ·
      clear Hz; intro hb83 Hz
      try simp only [Q1x, Q2x, Q3x, Q4x, Q5x, Q6x, Q7x, Q8x, Q9x, Q0x, Qax, Qbx] at hb83
      have hj : j < cs.length := by have := hb83; first | omega | (simp at this; omega)
      obtain ⟨c9, hes⟩ : ∃ e, cs[j]? = some e := ⟨_, List.getElem?_eq_getElem hj⟩
      refine wp_cond_true (Hz.ev (x := .tmp 69) rfl) ?_
      refine wp_skip ?_
      refine hK13 _ _ ?_; clear hK13; try clear K13
      refine wp_seq_k (fun K14 hK14 => ?_)
      refine wp_block ?_
      refine wp_seq_k (fun K15 hK15 => ?_)
      refine wp_region_lit ?_
      refine goCh Hz (.move rfl <| .move rfl <| .nil) ?_
      clear Hz Az; intro Az Hz
      obtain ⟨b89, o89, vs89, hp89, hR89, ho89, m89⟩ := m78.openR (i := 7) rfl (j) (r := [.v (.int .i64 c9.kd), .v (.int .i64 c9.vo), .v (.int .i64 c9.bl), .v (.int .i64 c9.sz), .v (.int .i64 c9.pe), .ns .i64 c9.pl, .v (.int .i64 c9.to), .v (.int .i64 c9.at0), .v (.int .i64 c9.ix), .l 2 (c9.its.map itD)]) (cmdD_get hes) 200 rfl
      cases hp89; clear m78 ho89
      rcases hR89 with _ | ⟨hd89_0, _ | ⟨hd89_1, _ | ⟨hd89_2, _ | ⟨hd89_3, _ | ⟨hd89_4, _ | ⟨hd89_5, _ | ⟨hd89_6, _ | ⟨hd89_7, _ | ⟨hd89_8, _ | ⟨hd89_9, _ | _⟩⟩⟩⟩⟩⟩⟩⟩⟩⟩
      obtain rfl := hd89_0.v_out
      clear hd89_0
      obtain rfl := hd89_1.v_out
      clear hd89_1
      obtain rfl := hd89_2.v_out
      clear hd89_2
      obtain rfl := hd89_3.v_out
      clear hd89_3
      obtain rfl := hd89_4.v_out
      clear hd89_4
      obtain ⟨p90, c90, hv90, hc90⟩ := hd89_5.ns_shape; subst hv90
      have m90 := m89.dat 201 rfl (hd89_5.cast (fun _ h => (free_add rfl h))); clear m89 hd89_5
      obtain rfl := hd89_6.v_out
      clear hd89_6
      obtain rfl := hd89_7.v_out
      clear hd89_7
      obtain rfl := hd89_8.v_out
      clear hd89_8
      obtain ⟨p91, c91, hv91, hc91⟩ := hd89_9.l_shape; subst hv91
      have m91 := m90.dat 202 rfl (hd89_9.cast (fun _ h => (free_add rfl (free_add rfl h)))); clear m90 hd89_9
      refine goCh Hz (.c rfl (fun _ h => y_idx h rfl rfl Try.underlying31 sz57ipc (j) rfl hj) <| .loadCR m91 (i := 200) rfl rfl Try.underlying57 rfl sz57ipc <| .nil) ?_
      clear Hz Az; intro Az Hz
      refine wpList_plain rfl (fun K hK => ?_)
      refine e_call Hz Try.func18 rfl rfl rfl rfl (rputCmd_x c9.kd c9.vo c9.bl c9.sz c9.pe c9.to c9.at0 c9.ix c9.pl c9.its _ _ _ _ _ _ ((m91.rd (i := 201) rfl).any) ((m91.rd (i := 202) rfl).any) (hP.cmd (by rw [hcs]; exact hes))) ?_
      rintro e w94 ⟨p94, c94, rfl, hd94, hb94⟩
      have m95 := m91.callF 203 rfl hb94 hd94
      clear m91
      clear hb94 hd94
      refine ⟨_, rfl, ?_⟩; clear Hz Az; intro Az Hz
      refine hK _ _ ?_; clear hK K
      refine goCh Hz (.move rfl <| .extract rfl rfl <| .extract rfl rfl <| .assign rfl <| .assign rfl <| .nil) ?_
      clear Hz Az; intro Az Hz
      refine wpList_nil ?_
      refine hK15 _ _ ?_; clear hK15; try clear K15
      replace Hz : Has 129 [(1, _), (2, _), (3, _), (4, _), (11, _), (12, _), (13, _), (14, _), (15, _), (17, _), (18, _), (19, _), (20, _)] Az := Hz.only [1, 2, 3, 4, 11, 12, 13, 14, 15, 17, 18, 19, 20]
      refine wp_seq_k (fun K16 hK16 => ?_)
      refine wp_region_lit ?_
      refine goCh Hz (.move rfl <| .move rfl <| .nil) ?_
      clear Hz Az; intro Az Hz
      refine wpList_plain rfl (fun K hK => ?_)
      refine e_call Hz Try.func19 rfl rfl rfl rfl (rapply_plan _ _ hP j c9 (by rw [hcs]; exact hes) _ _ _ _ _ (m95.into [(1, 8), (2, 10), (3, 203)] (by decide) rfl)) ?_
      rintro e w107 ⟨rl1, rf1, rn1, p107, c107, rfl, hm107⟩
      have mx107 := m95.back hm107 [(8, 1), (10, 2)] (by decide); clear hm107 m95
      have m107 : MemOk _ _ [(8, _), (10, _), (1, _), (2, _), (4, _), (5, _), (6, _), (7, _), (200, _), (201, _), (202, _)] _ := mx107.only [8, 10, 1, 2, 4, 5, 6, 7, 200, 201, 202]; clear mx107
      refine ⟨_, rfl, ?_⟩; clear Hz Az; intro Az Hz
      refine hK _ _ ?_; clear hK K
      refine wpList_plain rfl (fun K hK => ?_)
      refine e_alloc Hz m107 204 zc59ipc rfl ?_
      clear Hz Az m107; intro g109 Az w110 Hz m110 hB110 hg110
      clear hB110 hg110
      refine hK _ _ ?_; clear hK K
      refine wpList_plain rfl (fun K hK => ?_)
      refine e_storeW Hz m110 204 rfl rfl rfl rfl rfl sz59ipc ?_
      clear m110; intro w111 m111 hB111
      clear hB111
      refine hK _ _ ?_; clear hK K
      refine wpList_nil ?_
      refine hK16 _ _ ?_; clear hK16; try clear K16
      refine wp_seq_k (fun K17 hK17 => ?_)
      refine wp_region_lit ?_
      refine goCh Hz (.move rfl <| .neq rfl rfl <| .move rfl <| .nil) ?_
      clear Hz Az; intro Az Hz
      refine bool_cases Hz (t := 85) rfl ?_ ?_
      · intro hb _; exact absurd hb (by first | (simp; done) | (simp; omega) | (rw [hxh]; decide))
      clear Hz; intro _ Hz
      refine goCh Hz (.fieldAddrZ (off := 0) rfl Try.underlying59 rfl (s := 0) (by kernel_rfl) rfl <| .loadB1Z m111 (i := 204) rfl rfl rfl Try.underlying32 rfl <| .neqZ rfl rfl <| .pickF rfl rfl <| .nil) ?_
      clear Hz Az; intro Az Hz
      refine wpList_nil ?_
      refine hK17 _ _ ?_; clear hK17; try clear K17
      refine bool_cases Hz (t := 89) rfl ?_ ?_
      · intro hb _; exact absurd hb (by first | (simp; done) | (simp; omega) | (rw [hxh]; decide))
      clear Hz; intro _ Hz
      refine wp_cond_false (Hz.ev (x := .tmp 89) rfl) ?_
      refine wp_skip ?_
      refine hK14 _ _ ?_; clear hK14; try clear K14
      replace Hz : Has 129 [(1, _), (2, _), (3, _), (4, _), (11, _), (12, _), (13, _), (14, _), (15, _), (17, _), (18, _)] Az := Hz.only [1, 2, 3, 4, 11, 12, 13, 14, 15, 17, 18]
      refine wp_region_lit ?_
      refine goCh Hz (.move rfl <| .add rfl rfl (r := ((j + 1 : Nat) : Int)) (by rw [IntWalk.i64_in _ (by omega)]; omega) <| .assign rfl <| .nil) ?_
      clear Hz Az; intro Az Hz
      refine wpList_nil ?_
      show ∃ n', n' < _ ∧ _
      exact ⟨T + 2 - (j + 1), by omega, j + 1, _, _, _, _, _, _, _, _, _, _, _, _, _, by omega, rfl, Hz.only [1, 2, 3, 4, 11, 12, 13, 14, 15, 17, 18], m111.ren [(1, 1), (2, 2), (4, 4), (5, 5), (6, 6), (7, 7), (8, 8), (10, 10)] (by decide)⟩
     ·
      clear Hz; intro hb83 Hz
      try simp only [Q1x, Q2x, Q3x, Q4x, Q5x, Q6x, Q7x, Q8x, Q9x, Q0x, Qax, Qbx] at hb83
      have hje : j = T + 2 := by have := hb83; first | omega | (simp at this; omega)
      obtain ⟨x, hxm, hxv, hxp, hxh, hxf, hxl, hxS9, hxS⟩ := hP.last
      rw [hje, hxm] at m78
      refine wp_cond_false (Hz.ev (x := .tmp 69) rfl) ?_
      refine wp_exit ?_
      refine hK12 _ _ ?_; clear hK12; try clear K12
      refine wp_seq_k (fun K18 hK18 => ?_)
      refine wp_region_lit ?_
      refine goCh Hz (.move rfl <| .move rfl <| .nil) ?_
      clear Hz Az; intro Az Hz
      refine wpList_plain rfl (fun K hK => ?_)
      refine e_call Hz Try.func13 rfl rfl rfl rfl (rvolume_v _ _ x _ _ _ _ hxv (m78.into [(1, 8), (2, 10)] (by decide) rfl)) ?_
      rintro e w132 ⟨p1132, p2132, p3132, d1132, d2132, d3132, rfl, hm132⟩
      have mx132 := m78.back hm132 [(8, 1), (10, 2), (200, 3), (201, 4), (202, 5)] (by decide); clear hm132 m78
      have m132 : MemOk _ _ [(8, _), (10, _), (200, _), (201, _), (202, _), (1, _), (2, _), (4, _), (5, _), (6, _), (7, _)] _ := mx132.only [8, 10, 200, 201, 202, 1, 2, 4, 5, 6, 7]; clear mx132
      refine ⟨_, rfl, ?_⟩; clear Hz Az; intro Az Hz
      refine hK _ _ ?_; clear hK K
      refine goCh Hz (.move rfl <| .extract rfl rfl <| .extract rfl rfl <| .nil) ?_
      clear Hz Az; intro Az Hz
      refine wpList_plain rfl (fun K hK => ?_)
      refine e_alloc Hz m132 203 zc49ipc rfl ?_
      clear Hz Az m132; intro g137 Az w138 Hz m138 hB138 hg138
      clear hB138 hg138
      refine hK _ _ ?_; clear hK K
      refine wpList_plain rfl (fun K hK => ?_)
      refine e_storeW Hz m138 203 rfl rfl rfl rfl rfl sz49ipc ?_
      clear m138; intro w139 m139 hB139
      clear hB139
      refine hK _ _ ?_; clear hK K
      refine goCh Hz (.assign rfl .nil) ?_
      clear Hz Az; intro Az Hz
      refine wpList_nil ?_
      refine hK18 _ _ ?_; clear hK18; try clear K18
      refine wp_seq_k (fun K19 hK19 => ?_)
      replace Hz : Has 129 [(1, _), (2, _), (3, _), (4, _), (11, _), (12, _), (13, _), (14, _), (15, _), (17, _), (18, _), (22, _), (23, _)] Az := Hz.only [1, 2, 3, 4, 11, 12, 13, 14, 15, 17, 18, 22, 23]
      refine wp_seq_k (fun K20 hK20 => ?_)
      refine wp_region_lit ?_
      refine goCh Hz (.move rfl <| .not rfl <| .move rfl <| .fieldAddrZ (off := 3) rfl Try.underlying49 rfl (s := 0) (by kernel_rfl) rfl <| .loadB1Z m139 (i := 203) rfl rfl rfl Try.underlying3 rfl <| .moveZ rfl <| .neqZ rfl rfl <| .pickF rfl rfl <| .move rfl <| .nil) ?_
      clear Hz Az; intro Az Hz
      refine bool_cases Hz (t := 104) rfl ?_ ?_
      · intro hb _; exact absurd hb (by first | (simp; done) | (simp; omega) | (rw [hxh]; decide))
      clear Hz; intro _ Hz
      refine goCh Hz (.fieldAddrZ (off := 7) rfl Try.underlying49 rfl (s := 0) (by kernel_rfl) rfl <| .loadB1Z m139 (i := 203) rfl rfl rfl Try.underlying4 rfl <| .pickF rfl rfl <| .nil) ?_
      clear Hz Az; intro Az Hz
      refine wpList_nil ?_
      refine hK20 _ _ ?_; clear hK20; try clear K20
      refine bool_cases Hz (t := 107) rfl ?_ ?_
      · intro hb _; exact absurd hb (by first | (simp; done) | (simp; omega) | (rw [hxh]; decide))
      clear Hz; intro _ Hz
      refine wp_cond_false (Hz.ev (x := .tmp 107) rfl) ?_
      refine wp_skip ?_
      refine hK19 _ _ ?_; clear hK19; try clear K19
      rcases (show i = 0 ∨ i = 1 by omega) with hi0 | hi0
      ·
       subst hi0
       replace Hz : Has 129 [(1, _), (2, _), (3, _), (4, _), (11, _), (12, _), (13, _), (14, _), (15, _), (17, _), (18, _), (22, _)] Az := Hz.only [1, 2, 3, 4, 11, 12, 13, 14, 15, 17, 18, 22]
       have m166 : MemOk _ _ [(1, _), (2, _), (4, _), (5, _), (6, _), (7, _), (8, _), (10, _), (200, _), (201, _), (202, _), (203, _)] _ := m139.only [1, 2, 4, 5, 6, 7, 8, 10, 200, 201, 202, 203]; clear m139
       refine region_p 9 (B := [(1, _), (2, _), (4, _), (5, _), (6, _), (7, _), (8, _), (10, _), (200, _), (201, _), (202, _), (203, _)]) (m166.to ⟨il, il, il, il, il, il, il, il, il, il, il, il, trivial⟩) m166 (by kernel_rfl) (fun w167 hP167 m167 => ?_); clear m166
       refine goR hP167 [0, 1, 2] [1, 2] 3 0 7 Hz (m167.to ⟨il, il, il, il, il, il, il, il, il, il, il, il, trivial⟩) (.move rfl <| .loadBR hh (i := 203) rfl rfl Try.underlying49 rfl sz49ipc (by simp) (by dsimp only [List.drop, List.take] <;> rfl) <| .loadBR hh (i := 203) rfl rfl Try.underlying49 rfl sz49ipc (by simp) (by dsimp only [List.drop, List.take] <;> rfl) <| .nil) ?_
       clear Hz Az; intro Az Hz
       refine stepE_only 3 rfl (by kernel_rfl) rfl (fun K hK => ?_)
       refine e_call Hz Try.func20 rfl rfl rfl rfl (rlen_w _ _ _ _ _ _ _ _ _ _ _ _ _ _ _ x.ws _ _) ?_
       rintro e w171 ⟨rfl, hb171⟩
       have m172 := m167.later hb171
       clear m167
       clear hb171
       refine ⟨_, rfl, ?_⟩; clear Hz Az; intro Az Hz
       refine hK _ _ (m172.to ⟨il, il, il, il, il, il, il, il, il, il, il, il, trivial⟩) ?_; clear hK K
       refine stepE_only 4 rfl (by kernel_rfl) rfl (fun K hK => ?_)
       refine e_call Hz Try.func21 rfl rfl rfl rfl (rstate_w _ x _ hxS9 (by omega) _ _ _ _ _ _ x.fl _ x.ws.length rfl _ (fun b hb => (List.not_mem_nil (a := b)) hb) (by omega) (Nat.le_refl _) (m172.into [(3, 202)] (by decide) rfl)) ?_
       rintro e w174 ⟨p174, c174, rfl, hm174⟩
       have mx174 := m172.back hm174 [(202, 3), (204, 9)] (by decide); clear hm174 m172
       have m174 : MemOk _ _ [(202, _), (204, _), (1, _), (2, _), (4, _), (5, _), (6, _), (7, _), (8, _), (10, _), (200, _), (201, _), (203, _)] _ := mx174.only [202, 204, 1, 2, 4, 5, 6, 7, 8, 10, 200, 201, 203]; clear mx174
       refine ⟨_, rfl, ?_⟩; clear Hz Az; intro Az Hz
       refine hK _ _ (m174.to ⟨il, il, il, il, il, il, il, il, il, il, il, il, trivial⟩) ?_; clear hK K
       rw [hxS] at m174 Hz
       refine goA hP167 [5, 6, 7, 8] 4 31 511 Hz (m174.to ⟨il, il, il, il, il, il, il, il, il, il, il, il, trivial⟩) (.move rfl <| .extract rfl rfl <| .extract rfl rfl <| .p (fun _ _ h => y_idxA h rfl rfl Try.underlying69 sz62ipc 0 rfl (by decide) (off := 0) rfl) <| .nil) ?_
       clear Hz Az; intro Az Hz
       refine stepE_end 9 rfl (by kernel_rfl) rfl (by rfl) (fun K hK => ?_)
       refine e_store1 Hz m174 4 rfl rfl rfl rfl rfl sz62ipc (by dsimp only [List.set] <;> rfl) ?_
       clear m174; intro w180 m180 hB180
       clear hB180
       refine hK _ _ ?_; clear hK K
       refine wpAnyE_done (by kernel_rfl) ?_ _
       refine hK7 _ _ ?_; clear hK7; try clear K7
       replace Hz : Has 129 [(1, _), (2, _), (3, _), (4, _), (11, _), (12, _), (13, _), (14, _), (15, _), (17, _), (18, _)] Az := Hz.only [1, 2, 3, 4, 11, 12, 13, 14, 15, 17, 18]
       refine wp_region_lit ?_
       refine goCh Hz (.move rfl <| .add rfl rfl (r := ((0 + 1 : Nat) : Int)) (by decide) <| .assign rfl <| .nil) ?_
       clear Hz Az; intro Az Hz
       refine wpList_nil ?_
       show ∃ n', n' < _ ∧ _
       exact ⟨2 - 1, by omega, 1, S, A2, _, _, _, _, _, _, _, _, by omega, rfl, fun _ => rfl, fun h => by omega, Hz.only [1, 2, 3, 4, 11, 12, 13], m180.ren [(1, 1), (2, 2), (4, 4), (5, 204), (6, 6)] (by decide)⟩
      ·
       subst hi0
       replace Hz : Has 129 [(1, _), (2, _), (3, _), (4, _), (11, _), (12, _), (13, _), (14, _), (15, _), (17, _), (18, _), (22, _)] Az := Hz.only [1, 2, 3, 4, 11, 12, 13, 14, 15, 17, 18, 22]
       have m186 : MemOk _ _ [(1, _), (2, _), (4, _), (5, _), (6, _), (7, _), (8, _), (10, _), (200, _), (201, _), (202, _), (203, _)] _ := m139.only [1, 2, 4, 5, 6, 7, 8, 10, 200, 201, 202, 203]; clear m139
       refine region_p 9 (B := [(1, _), (2, _), (4, _), (5, _), (6, _), (7, _), (8, _), (10, _), (200, _), (201, _), (202, _), (203, _)]) (m186.to ⟨il, il, il, il, il, il, il, il, il, il, il, il, trivial⟩) m186 (by kernel_rfl) (fun w187 hP187 m187 => ?_); clear m186
       refine goR hP187 [0, 1, 2] [1, 2] 3 0 7 Hz (m187.to ⟨il, il, il, il, il, il, il, il, il, il, il, il, trivial⟩) (.move rfl <| .loadBR hh (i := 203) rfl rfl Try.underlying49 rfl sz49ipc (by simp) (by dsimp only [List.drop, List.take] <;> rfl) <| .loadBR hh (i := 203) rfl rfl Try.underlying49 rfl sz49ipc (by simp) (by dsimp only [List.drop, List.take] <;> rfl) <| .nil) ?_
       clear Hz Az; intro Az Hz
       refine stepE_only 3 rfl (by kernel_rfl) rfl (fun K hK => ?_)
       refine e_call Hz Try.func20 rfl rfl rfl rfl (rlen_w _ _ _ _ _ _ _ _ _ _ _ _ _ _ _ x.ws _ _) ?_
       rintro e w191 ⟨rfl, hb191⟩
       have m192 := m187.later hb191
       clear m187
       clear hb191
       refine ⟨_, rfl, ?_⟩; clear Hz Az; intro Az Hz
       refine hK _ _ (m192.to ⟨il, il, il, il, il, il, il, il, il, il, il, il, trivial⟩) ?_; clear hK K
       refine stepE_only 4 rfl (by kernel_rfl) rfl (fun K hK => ?_)
       refine e_call Hz Try.func21 rfl rfl rfl rfl (rstate_w _ x _ hxS9 (by omega) _ _ _ _ _ _ x.fl _ x.ws.length rfl _ (fun b hb => (List.not_mem_nil (a := b)) hb) (by omega) (Nat.le_refl _) (m192.into [(3, 202)] (by decide) rfl)) ?_
       rintro e w194 ⟨p194, c194, rfl, hm194⟩
       have mx194 := m192.back hm194 [(202, 3), (204, 9)] (by decide); clear hm194 m192
       have m194 : MemOk _ _ [(202, _), (204, _), (1, _), (2, _), (4, _), (5, _), (6, _), (7, _), (8, _), (10, _), (200, _), (201, _), (203, _)] _ := mx194.only [202, 204, 1, 2, 4, 5, 6, 7, 8, 10, 200, 201, 203]; clear mx194
       refine ⟨_, rfl, ?_⟩; clear Hz Az; intro Az Hz
       refine hK _ _ (m194.to ⟨il, il, il, il, il, il, il, il, il, il, il, il, trivial⟩) ?_; clear hK K
       rw [hxS] at m194 Hz
       refine goA hP187 [5, 6, 7, 8] 4 31 511 Hz (m194.to ⟨il, il, il, il, il, il, il, il, il, il, il, il, trivial⟩) (.move rfl <| .extract rfl rfl <| .extract rfl rfl <| .p (fun _ _ h => y_idxA h rfl rfl Try.underlying69 sz62ipc 1 rfl (by decide) (off := 1) rfl) <| .nil) ?_
       clear Hz Az; intro Az Hz
       refine stepE_end 9 rfl (by kernel_rfl) rfl (by rfl) (fun K hK => ?_)
       refine e_store1 Hz m194 4 rfl rfl rfl rfl rfl sz62ipc (by dsimp only [List.set] <;> rfl) ?_
       clear m194; intro w200 m200 hB200
       clear hB200
       refine hK _ _ ?_; clear hK K
       refine wpAnyE_done (by kernel_rfl) ?_ _
       refine hK7 _ _ ?_; clear hK7; try clear K7
       replace Hz : Has 129 [(1, _), (2, _), (3, _), (4, _), (11, _), (12, _), (13, _), (14, _), (15, _), (17, _), (18, _)] Az := Hz.only [1, 2, 3, 4, 11, 12, 13, 14, 15, 17, 18]
       refine wp_region_lit ?_
       refine goCh Hz (.move rfl <| .add rfl rfl (r := ((1 + 1 : Nat) : Int)) (by decide) <| .assign rfl <| .nil) ?_
       clear Hz Az; intro Az Hz
       refine wpList_nil ?_
       show ∃ n', n' < _ ∧ _
       exact ⟨2 - 2, by omega, 2, A1, S, _, _, _, _, _, _, _, _, by omega, rfl, fun _ => hA1 (by omega), fun _ => rfl, Hz.only [1, 2, 3, 4, 11, 12, 13], m200.ren [(1, 1), (2, 2), (4, 4), (5, 5), (6, 204)] (by decide)⟩
   ·
    clear Hz; intro hb26 Hz
    try simp only [Q1x, Q2x, Q3x, Q4x, Q5x, Q6x, Q7x, Q8x, Q9x, Q0x, Qax, Qbx] at hb26
    have hie : i = 2 := by have := hb26; first | omega | (simp at this; omega)
    rw [hA1 (by omega), hA2 (by omega)] at m23
    refine wp_cond_false (Hz.ev (x := .tmp 32) rfl) ?_
    refine wp_exit ?_
    refine hK5 _ _ ?_; clear hK5; try clear K5
    refine wp_seq_k (fun K21 hK21 => ?_)
    have m205 : MemOk _ _ [(1, _), (2, _), (4, _), (5, _), (6, _)] _ := m23.only [1, 2, 4, 5, 6]; clear m23
    refine region_p 13 (B := [(1, _), (2, _), (4, _), (5, _), (6, _)]) (m205.to ⟨il, il, il, il, il, trivial⟩) m205 (by kernel_rfl) (fun w206 hP206 m206 => ?_); clear m205
    refine goR hP206 [0, 1, 2, 3] [1, 3] 4 0 15 Hz (m206.to ⟨il, il, il, il, il, trivial⟩) (.p (fun _ _ h => y_idxA h rfl rfl Try.underlying69 sz62ipc 0 rfl (by decide) (off := 0) rfl) <| .loadB1 hh (i := 4) rfl rfl rfl Try.underlying62 rfl <| .p (fun _ _ h => y_idxA h rfl rfl Try.underlying69 sz62ipc 1 rfl (by decide) (off := 1) rfl) <| .loadB1 hh (i := 4) rfl rfl rfl Try.underlying62 rfl <| .nil) ?_
    clear Hz Az; intro Az Hz
    refine stepE_only 4 rfl (by kernel_rfl) rfl (fun K hK => ?_)
    refine e_call Hz Try.func22 rfl rfl rfl rfl (bodies_any S _ _ _ _ _ _ _ ((m206.rd (i := 5) rfl).any) ((m206.rd (i := 6) rfl).any) (by omega)) ?_
    rintro e w211 ⟨rfl, hb211⟩
    have m212 := m206.later hb211
    clear m206
    clear hb211
    refine ⟨_, rfl, ?_⟩; clear Hz Az; intro Az Hz
    refine hK _ _ (m212.to ⟨il, il, il, il, il, trivial⟩) ?_; clear hK K
    refine goR hP206 [5, 6, 7, 8] [7, 8] 4 31 511 Hz (m212.to ⟨il, il, il, il, il, trivial⟩) (.move rfl <| .p (fun _ _ h => y_idxA h rfl rfl Try.underlying69 sz62ipc 0 rfl (by decide) (off := 0) rfl) <| .loadB1 hh (i := 4) rfl rfl rfl Try.underlying62 rfl <| .loadBR hh (i := 1) rfl rfl Try.underlying24 rfl sz24ipc (by simp) (by dsimp only [List.drop, List.take] <;> rfl) <| .nil) ?_
    clear Hz Az; intro Az Hz
    refine stepE_only 9 rfl (by kernel_rfl) (wantedG Hz rfl rfl rfl rfl) (fun K hK => ?_)
    refine e_call Hz Try.func23 rfl rfl rfl rfl (rblocks_s _ y.bl y.sz (-1) _ S _ _ _ hso rfl (m212.into [(3, 2)] (by decide) rfl)) ?_
    rintro e w218 ⟨p218, c218, rfl, hm218⟩
    have mx218 := m212.back hm218 [(2, 3), (100, 9)] (by decide); clear hm218 m212
    have m218 : MemOk _ _ [(2, _), (100, _), (1, _), (4, _), (5, _), (6, _)] _ := mx218.only [2, 100, 1, 4, 5, 6]; clear mx218
    refine ⟨_, rfl, ?_⟩; clear Hz Az; intro Az Hz
    refine hK _ _ (m218.to ⟨il, il, il, il, il, trivial⟩) ?_; clear hK K
    refine stepE_only 10 rfl (by kernel_rfl) (wantedG Hz rfl rfl rfl rfl) (fun K hK => ?_)
    refine e_call Hz Try.func22 rfl rfl rfl rfl (bodies_any S _ _ _ _ _ _ _ ((m218.rd (i := 5) rfl).any) ((m218.rd (i := 100) rfl).any) (by omega)) ?_
    rintro e w220 ⟨rfl, hb220⟩
    have m221 := m218.later hb220
    clear m218
    clear hb220
    refine ⟨_, rfl, ?_⟩; clear Hz Az; intro Az Hz
    refine hK _ _ (m221.to ⟨il, il, il, il, il, trivial⟩) ?_; clear hK K
    refine goA hP206 [11, 12] 2 2047 8191 Hz (m221.to ⟨il, il, il, il, il, trivial⟩) (.pickT rfl rfl <| .assign rfl <| .nil) ?_
    clear Hz Az; intro Az Hz
    refine wpAnyE_done (by kernel_rfl) ?_ _
    refine hK21 _ _ ?_; clear hK21; try clear K21
    refine wp_ret ?_
    try dsimp only [Exit.then, Exit.inBlock]
    refine (ret1 (fn := Try.f6) Hz rfl rfl ?_)
    exact ⟨by first | rfl | simp, m221.below⟩
end Go.Proofs.Ytkdnhndjjfjppaa.K
