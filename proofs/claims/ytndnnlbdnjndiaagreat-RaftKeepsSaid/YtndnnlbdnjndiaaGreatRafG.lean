/- raft: what is done with messages: onPreOk, onVoteOk, newer, onPreVote (refused), onAppend (of none), onInstall. -/
import Derived.Test.YtndnnlbdnjndiaaGreatRafF
namespace Go.Proofs.YtndnnlbdnjndiaaGreat.K
open Go.ChangeShapes Go.WideShapes Go.ChangeAt Go.RowKit
set_option linter.unusedVariables false
set_option linter.unusedSimpArgs false

theorem ps118roi : placesS Tryz.prog 118 = some [(0, 1), (1, 1), (2, 2), (4, 4), (8, 4)] := by kernel_rfl
theorem sz3roi : (Tryz.prog.info? 3).map (·.size) = some 1 := by kernel_rfl
theorem sz4roi : (Tryz.prog.info? 4).map (·.size) = some 1 := by kernel_rfl
theorem sz29roi : (Tryz.prog.info? 29).map (·.size) = some 4 := by kernel_rfl
theorem sz55roi : (Tryz.prog.info? 55).map (·.size) = some 19 := by kernel_rfl
theorem zc118roi : ((Tryz.prog.info? 118).bind (·.zero)).map (·.cells.toList) = some [.int .i64 0, .int .i64 0, .int .i64 0, .int .i64 0, .int .i64 0, .int .i64 0, .int .i64 0, .slice none 0 0, .int .i64 0, .int .i64 0, .slice none 0 0, .slice none 0 0] := by kernel_rfl

abbrev mS (k gm f t te ix lt co : Int) (ok : Bool) : RM := ⟨k, gm, f, t, te, ix, lt, co, ok, [], 0, 0, [], [], [], 0, 0, 0, 0⟩
def withY (ys : List Int) (f : Int) : List Int := canon (canon ys ++ [f])
theorem withY_len (ys : List Int) (f : Int) : (withY ys f).length ≤ 7 := canon_len _
theorem ROk.yes {s : RS} (h : ROk s) (f : Int) : ROk { s with ys := withY s.ys f } := ⟨h.l, h.n, h.co, h.ld, h.ms, h.rs, h.te, h.id, h.si, h.be, Nat.le_trans (withY_len _ _) (by decide)⟩
def preOkS (s : RS) (f te : Int) : RS :=
 if s.x.ro = 1 ∧ te = s.x.te + 1 then (if favS { s with ys := withY s.ys f } then standS { s with ys := withY s.ys f } else { s with ys := withY s.ys f }) else s
def voteOkS (s : RS) (f : Int) (ok : Bool) : RS :=
 if ok = true ∧ s.x.ro = 2 then (if favS { s with ys := withY s.ys f } then winS { s with ys := withY s.ys f } else { s with ys := withY s.ys f }) else s
abbrev replyS (s : RS) (f kd : Int) (ok : Bool) (ix : Int) : RS := addM s [toM s f (replyR s.x kd ok ix)]
abbrev instS (s : RS) (f bi bt : Int) (cf bd : List Int) : RS := { s with x := { s.x with ro := 0, le := f, si := 0, ap := bi, co := bi }, bi := bi, bt := bt, cf := cf, bd := bd, es := [], rs := s.rs ++ [{ baseR bi bt cf bd with g := s.x.gr }], re := true }
theorem lastX (s : RS) (x : RV) : lastS (withX s x) = lastS s := rfl
theorem termX (s : RS) (x : RV) (i : Int) : termS (withX s x) i = termS s i := rfl
set_option maxRecDepth 100000
set_option maxHeartbeats 4000000
theorem rreply_s (X : Cx) (R : Nat) (s : RS) (p : RP) (r : RM) (kd : Int) (ok : Bool) (ix : Int) (pe pc pd pf : Option Addr) (ne nc nd nf ce cc cd cf : Nat) (w0 : World) (hQ : s.ms.length ≤ 1000000) (m0 : MemOk X w0 (rfM R s p) w0) :
   Calls Tryz.prog 139 #[.pointer (some ⟨R, 0, none⟩), .agg #[.int .i64 r.k, .int .i64 r.g, .int .i64 r.f, .int .i64 r.t, .int .i64 r.te, .int .i64 r.ix, .int .i64 r.lt, .int .i64 r.co, .bool r.ok, .slice pe ne ce, .int .i64 r.bi, .int .i64 r.bt, .slice pc nc cc, .slice pd nd cd, .slice pf nf cf, .int .i64 r.vo, .int .i64 r.ch, .int .i64 r.ma, .int .i64 r.fl], .int .i64 kd, .bool ok, .int .i64 ix] w0 fun e w' => ∃ p', e = .returned (.tuple #[]) ∧ MemOk X w0 (rfM R (replyS s r.f kd ok ix) p') w' := by
 refine (rreply_x _ R p.L s.x _ _ s.re s.ms r kd ok ix pe pc pd pf p.pm ne nc nd nf ce cc cd cf p.cm w0 hQ (m0.into [(1, 1), (7, 7)] (by decide) rfl)).mono ?_
 rintro e w' ⟨q, c, rfl, hm⟩
 have mb := m0.back hm [(1, 1), (7, 7)] (by decide)
 exact ⟨{ p with pm := q, cm := c }, rfl, mb.only [1, 2, 3, 4, 5, 6, 7, 8]⟩
theorem rreset_s (X : Cx) (R : Nat) (s : RS) (p : RP) (bi bt : Int) (cf bd : List Int) (pc pd : Option Addr) (cc cd : Nat) (w0 : World) (hcf : cf.length ≤ 900) (hbd : bd.length ≤ 100000) (m0 : MemOk X w0 ((9, .dat (.slice pc cf.length cc) (.ns .i64 cf)) :: (10, .dat (.slice pd bd.length cd) (.ns .u8 bd)) :: rfM R s p) w0) :
   Calls Tryz.prog 76 #[.pointer (some ⟨p.L, 0, none⟩), .agg #[.int .i64 bi, .int .i64 bt, .slice pc cf.length cc, .slice pd bd.length cd]] w0 fun e w' => ∃ p', e = .returned (.tuple #[]) ∧ MemOk X w0 (rfM R { s with bi := bi, bt := bt, cf := cf, bd := bd, es := [] } p') w' := by
 refine (reset_fr _ p.L _ _ _ _ _ _ bi bt cf bd pc pd cc cd (by omega) (by omega) (m0.into [(1, 2), (5, 9), (6, 10)] (by decide) rfl)).mono ?_
 rintro e w' ⟨pc', cc', pd', cd', rfl, hm⟩
 have mb := m0.back hm [(2, 1), (3, 2), (4, 3), (5, 4)] (by decide)
 exact ⟨{ p with pl := none, cl := 0, pc := pc', cc := cc', pd := pd', cd := cd' }, rfl, mb.only [1, 2, 3, 4, 5, 6, 7, 8]⟩
theorem ronInstall_c (X : Cx) (R : Nat) (s : RS) (p : RP) (k gm f t te ix lt co : Int) (ok : Bool) (bi bt : Int) (cf bd : List Int) (pc pd : Option Addr) (cc cd : Nat) (w0 : World) (hk : ROk s) (hco : s.x.co < bi) (hla : bi ≤ lastS s) (htm : termS s bi = bt) (m0 : MemOk X w0 ((31, .dat (.slice pc cf.length cc) (.ns .i64 cf)) :: (32, .dat (.slice pd bd.length cd) (.ns .u8 bd)) :: rfM R s p) w0) :
   Calls Tryz.prog 103 #[.pointer (some ⟨R, 0, none⟩), .agg #[.int .i64 k, .int .i64 gm, .int .i64 f, .int .i64 t, .int .i64 te, .int .i64 ix, .int .i64 lt, .int .i64 co, .bool ok, .slice none 0 0, .int .i64 bi, .int .i64 bt, .slice pc cf.length cc, .slice pd bd.length cd, .slice none 0 0, .int .i64 0, .int .i64 0, .int .i64 0, .int .i64 0]] w0 fun e w' => ∃ p', e = .returned (.tuple #[]) ∧ MemOk X w0 (rfM R (replyS (withX s { s.x with ro := 0, le := f, si := 0, co := bi }) f 6 true bi) p') w' := by
 refine enter (fn := Tryz.f103) Tryz.func103 rfl Tryz.ntmps103 rfl (fun Az Hz => ?_)
 simp only [List.zipIdx_cons, List.zipIdx_nil, List.map_cons, List.map_nil, Nat.reduceAdd, Nat.zero_add] at Hz
 refine wp_seq_k (fun K0 hK0 => ?_)
 refine wp_region_lit ?_
 refine wpList_plain rfl (fun K hK => ?_)
 refine e_box Hz m0 50 (cs := [_, _, _, _, _, _, _, _, _, _, _, _, _, _, _, _, _, _, _]) rfl rfl rfl ?_
 clear Hz Az m0; intro g1 Az w2 Hz m2 hB2 hg2
 clear hB2 hg2
 refine hK _ _ ?_; clear hK K
 refine wpList_nil ?_
 refine hK0 _ _ ?_; clear hK0; try clear K0
 refine wp_seq_k (fun K1 hK1 => ?_)
 refine wp_region_lit ?_
 refine goCh Hz (.move rfl <| .fieldAddr (off := 2) rfl Tryz.underlying55 rfl (s := 0) (by kernel_rfl) rfl <| .loadB1 m2 (i := 50) rfl rfl rfl Tryz.underlying3 rfl <| .nil) ?_
 clear Hz Az; intro Az Hz
 refine wpList_plain rfl (fun K hK => ?_)
 refine e_call Hz Tryz.func143 rfl rfl rfl rfl (rheed_s _ R s p f _ (m2.into [(1, 1), (2, 2), (3, 3), (4, 4), (5, 5), (6, 6), (7, 7), (8, 8)] (by decide) rfl)) ?_
 rintro e w9 ⟨p1, rfl, hm9⟩
 have mx9 := m2.back hm9 [(1, 1), (2, 2), (3, 3), (4, 4), (5, 5), (6, 6), (7, 7), (8, 8)] (by decide); clear hm9 m2
 have m9 : MemOk _ _ [(1, _), (2, _), (3, _), (4, _), (5, _), (6, _), (7, _), (8, _), (31, _), (32, _), (50, _)] _ := mx9.only [1, 2, 3, 4, 5, 6, 7, 8, 31, 32, 50]; clear mx9
 refine ⟨_, rfl, ?_⟩; clear Hz Az; intro Az Hz
 refine hK _ _ ?_; clear hK K
 refine wpList_nil ?_
 refine hK1 _ _ ?_; clear hK1; try clear K1
 refine regS Hz (.fieldAddr (off := 10) rfl Tryz.underlying55 rfl (s := 3) (by kernel_rfl) rfl <| .fieldAddr (off := 10) rfl Tryz.underlying29 rfl (s := 0) (by kernel_rfl) rfl <| .loadB1 m9 (i := 50) rfl rfl rfl Tryz.underlying3 rfl <| .assign rfl <| .nil) ?_
 clear Hz Az; intro Az Hz
 refine wp_seq_k (fun K2 hK2 => ?_)
 replace Hz : Has 78 [(0, _), (3, _), (4, _)] Az := Hz.only [0, 3, 4]
 refine regS Hz (.move rfl <| .move rfl <| .nilCheck rfl <| .fieldAddr (off := 22) rfl Tryz.underlying86 rfl (s := 0) (by kernel_rfl) rfl <| .loadB1 m9 (i := 1) rfl rfl rfl Tryz.underlying3 rfl <| .leq rfl rfl <| .nil) ?_
 clear Hz Az; intro Az Hz
 refine bool_cases Hz (t := 17) rfl ?_ ?_
 · intro hb _; exact absurd hb (by simp; omega)
 clear Hz; intro _ Hz
 refine wp_cond_false (Hz.ev (x := .tmp 17) rfl) ?_
 refine wp_skip ?_
 refine hK2 _ _ ?_; clear hK2; try clear K2
 refine wp_seq_k (fun K3 hK3 => ?_)
 refine wp_seq_k (fun K4 hK4 => ?_)
 replace Hz : Has 78 [(0, _), (3, _), (4, _)] Az := Hz.only [0, 3, 4]
 have m24 : MemOk _ _ [(1, _), (2, _), (3, _), (4, _), (5, _), (6, _), (7, _), (8, _), (31, _), (32, _), (50, _)] _ := m9.only [1, 2, 3, 4, 5, 6, 7, 8, 31, 32, 50]; clear m9
 refine region_p 23 (B := [(1, _), (2, _), (3, _), (4, _), (5, _), (6, _), (7, _), (8, _), (31, _), (32, _), (50, _)]) (m24.to ⟨il, il, il, il, il, il, il, il, il, il, il, trivial⟩) m24 (by kernel_rfl) (fun w25 hP25 m25 => ?_); clear m24
 refine goR hP25 [0, 1, 2, 3, 4, 5, 6, 7] [5] 8 0 255 Hz (m25.to ⟨il, il, il, il, il, il, il, il, il, il, il, trivial⟩) (.move rfl <| .move rfl <| .nilCheck rfl <| .fieldAddr (off := 0) rfl Tryz.underlying86 rfl (s := 4) (by kernel_rfl) rfl <| .fieldAddr (off := 4) rfl Tryz.underlying81 rfl (s := 0) (by kernel_rfl) rfl <| .loadB1 hh (i := 1) rfl rfl rfl Tryz.underlying79 rfl <| .nilCheck rfl <| .fieldAddr (off := 0) rfl Tryz.underlying123 rfl (s := 4) (by kernel_rfl) rfl <| .nil) ?_
 clear Hz Az; intro Az Hz
 refine stepE_only 8 rfl (by kernel_rfl) rfl (fun K hK => ?_)
 refine e_call Hz Tryz.func75 rfl rfl rfl rfl (rlast_s R (withX s { s.x with ro := 0, le := f, si := 0 }) p1 _ (rfM_is (withX s { s.x with ro := 0, le := f, si := 0 }) p1 (m25.into [(1, 1), (2, 2), (3, 3), (4, 4), (5, 5), (6, 6), (7, 7), (8, 8)] (by decide) rfl)) hk.l) ?_
 rintro e w34 ⟨rfl, hb34⟩
 have m35 := m25.later hb34
 clear m25
 clear hb34
 refine ⟨_, rfl, ?_⟩; clear Hz Az; intro Az Hz
 refine hK _ _ (m35.to ⟨il, il, il, il, il, il, il, il, il, il, il, trivial⟩) ?_; clear hK K
 refine goA hP25 [9, 10] 2 511 2047 Hz (m35.to ⟨il, il, il, il, il, il, il, il, il, il, il, trivial⟩) (.gtr rfl rfl <| .move rfl <| .nil) ?_
 clear Hz Az; intro Az Hz
 refine bool_cases Hz (t := 35) rfl ?_ ?_
 · intro hb _; exact absurd hb (fun h9 => absurd (of_decide_eq_true h9 : lastS s < bi) (by omega))
 clear Hz; intro _ Hz
 refine goR hP25 [11, 12, 13, 14, 15, 16, 18, 19, 20] [15, 20] 9 2047 1966079 Hz (m35.to ⟨il, il, il, il, il, il, il, il, il, il, il, trivial⟩) (.move rfl <| .nilCheck rfl <| .fieldAddr (off := 0) rfl Tryz.underlying86 rfl (s := 4) (by kernel_rfl) rfl <| .fieldAddr (off := 4) rfl Tryz.underlying81 rfl (s := 0) (by kernel_rfl) rfl <| .loadB1 hh (i := 1) rfl rfl rfl Tryz.underlying79 rfl <| .move rfl <| .fieldAddr (off := 10) rfl Tryz.underlying55 rfl (s := 3) (by kernel_rfl) rfl <| .fieldAddr (off := 11) rfl Tryz.underlying29 rfl (s := 0) (by kernel_rfl) rfl <| .loadB1 hh (i := 50) rfl rfl rfl Tryz.underlying3 rfl <| .nil) ?_
 clear Hz Az; intro Az Hz
 refine stepE_only 17 rfl (by kernel_rfl) (wantedG Hz rfl rfl rfl rfl) (fun K hK => ?_)
 refine e_call Hz Tryz.func113 rfl rfl rfl rfl (rterm_s R (withX s { s.x with ro := 0, le := f, si := 0 }) p1 _ (rfM_is (withX s { s.x with ro := 0, le := f, si := 0 }) p1 (m35.into [(1, 1), (2, 2), (3, 3), (4, 4), (5, 5), (6, 6), (7, 7), (8, 8)] (by decide) rfl)) hk.l bi) ?_
 rintro e w49 ⟨rfl, hb49⟩
 have m50 := m35.later hb49
 clear m35
 clear hb49
 refine ⟨_, rfl, ?_⟩; clear Hz Az; intro Az Hz
 refine hK _ _ (m50.to ⟨il, il, il, il, il, il, il, il, il, il, il, trivial⟩) ?_; clear hK K
 refine goA hP25 [21, 22] 2 2097151 8388607 Hz (m50.to ⟨il, il, il, il, il, il, il, il, il, il, il, trivial⟩) (.neq rfl rfl <| .pickF rfl rfl <| .nil) ?_
 clear Hz Az; intro Az Hz
 refine wpAnyE_done (by kernel_rfl) ?_ _
 refine hK4 _ _ ?_; clear hK4; try clear K4
 refine bool_cases Hz (t := 47) rfl ?_ ?_
 · intro hb _; exact absurd hb (by simp only [termX, htm]; simp)
 clear Hz; intro _ Hz
 refine wp_cond_false (Hz.ev (x := .tmp 47) rfl) ?_
 refine wp_skip ?_
 refine hK3 _ _ ?_; clear hK3; try clear K3
 replace Hz : Has 78 [(0, _), (3, _), (4, _), (35, _)] Az := Hz.only [0, 3, 4, 35]
 refine wp_seq_k (fun K5 hK5 => ?_)
 refine wp_region_lit ?_
 refine goCh Hz (.move rfl <| .move rfl <| .nilCheck rfl <| .fieldAddr (off := 22) rfl Tryz.underlying86 rfl (s := 0) (by kernel_rfl) rfl <| .nil) ?_
 clear Hz Az; intro Az Hz
 refine wpList_plain rfl (fun K hK => ?_)
 refine e_store1 Hz m50 1 rfl rfl rfl rfl rfl sz3roi (by dsimp only [List.set] <;> rfl) ?_
 clear m50; intro w64 m64 hB64
 clear hB64
 refine hK _ _ ?_; clear hK K
 refine wpList_nil ?_
 refine hK5 _ _ ?_; clear hK5; try clear K5
 refine wp_region_lit ?_
 refine goCh Hz (.move rfl <| .loadBR m64 (i := 50) rfl rfl Tryz.underlying55 rfl sz55roi (by simp) (by dsimp only [List.drop, List.take] <;> rfl) <| .move rfl <| .nil) ?_
 clear Hz Az; intro Az Hz
 refine wpList_plain rfl (fun K hK => ?_)
 refine e_call Hz Tryz.func139 rfl rfl rfl rfl (rreply_s _ R (withX s { s.x with ro := 0, le := f, si := 0, co := bi }) p1 ⟨k, gm, f, t, te, ix, lt, co, ok, [], bi, bt, [], [], [], 0, 0, 0, 0⟩ 6 true bi none pc pd none 0 _ _ 0 0 cc cd 0 _ (by have := hk.ms; show s.ms.length ≤ _; omega) (m64.into [(1, 1), (2, 2), (3, 3), (4, 4), (5, 5), (6, 6), (7, 7), (8, 8)] (by decide) rfl)) ?_
 rintro e w68 ⟨p4, rfl, hm68⟩
 have mx68 := m64.back hm68 [(1, 1), (2, 2), (3, 3), (4, 4), (5, 5), (6, 6), (7, 7), (8, 8)] (by decide); clear hm68 m64
 have m68 : MemOk _ _ [(1, _), (2, _), (3, _), (4, _), (5, _), (6, _), (7, _), (8, _), (31, _), (32, _), (50, _)] _ := mx68.only [1, 2, 3, 4, 5, 6, 7, 8, 31, 32, 50]; clear mx68
 refine ⟨_, rfl, ?_⟩; clear Hz Az; intro Az Hz
 refine hK _ _ ?_; clear hK K
 refine wpList_nil ?_
 try dsimp only [Exit.then]
 try refine out_here ?_
 refine (ret0 (fn := Tryz.f103) Hz rfl ?_)
 exact ⟨p4, rfl, m68.only [1, 2, 3, 4, 5, 6, 7, 8]⟩
theorem ronInstall_b (X : Cx) (R : Nat) (s : RS) (p : RP) (k gm f t te ix lt co : Int) (ok : Bool) (bi bt : Int) (cf bd : List Int) (pc pd : Option Addr) (cc cd : Nat) (w0 : World) (hk : ROk s) (hco : s.x.co < bi) (hno : lastS s < bi ∨ termS s bi ≠ bt) (hcf : cf.length ≤ 900) (hbd : bd.length ≤ 100000) (m0 : MemOk X w0 ((31, .dat (.slice pc cf.length cc) (.ns .i64 cf)) :: (32, .dat (.slice pd bd.length cd) (.ns .u8 bd)) :: rfM R s p) w0) :
   Calls Tryz.prog 103 #[.pointer (some ⟨R, 0, none⟩), .agg #[.int .i64 k, .int .i64 gm, .int .i64 f, .int .i64 t, .int .i64 te, .int .i64 ix, .int .i64 lt, .int .i64 co, .bool ok, .slice none 0 0, .int .i64 bi, .int .i64 bt, .slice pc cf.length cc, .slice pd bd.length cd, .slice none 0 0, .int .i64 0, .int .i64 0, .int .i64 0, .int .i64 0]] w0 fun e w' => ∃ p', e = .returned (.tuple #[]) ∧ MemOk X w0 (rfM R (replyS (instS s f bi bt cf bd) f 6 true bi) p') w' := by
 refine enter (fn := Tryz.f103) Tryz.func103 rfl Tryz.ntmps103 rfl (fun Az Hz => ?_)
 simp only [List.zipIdx_cons, List.zipIdx_nil, List.map_cons, List.map_nil, Nat.reduceAdd, Nat.zero_add] at Hz
 refine wp_seq_k (fun K0 hK0 => ?_)
 refine wp_region_lit ?_
 refine wpList_plain rfl (fun K hK => ?_)
 refine e_box Hz m0 50 (cs := [_, _, _, _, _, _, _, _, _, _, _, _, _, _, _, _, _, _, _]) rfl rfl rfl ?_
 clear Hz Az m0; intro g1 Az w2 Hz m2 hB2 hg2
 clear hB2 hg2
 refine hK _ _ ?_; clear hK K
 refine wpList_nil ?_
 refine hK0 _ _ ?_; clear hK0; try clear K0
 refine wp_seq_k (fun K1 hK1 => ?_)
 refine wp_region_lit ?_
 refine goCh Hz (.move rfl <| .fieldAddr (off := 2) rfl Tryz.underlying55 rfl (s := 0) (by kernel_rfl) rfl <| .loadB1 m2 (i := 50) rfl rfl rfl Tryz.underlying3 rfl <| .nil) ?_
 clear Hz Az; intro Az Hz
 refine wpList_plain rfl (fun K hK => ?_)
 refine e_call Hz Tryz.func143 rfl rfl rfl rfl (rheed_s _ R s p f _ (m2.into [(1, 1), (2, 2), (3, 3), (4, 4), (5, 5), (6, 6), (7, 7), (8, 8)] (by decide) rfl)) ?_
 rintro e w9 ⟨p1, rfl, hm9⟩
 have mx9 := m2.back hm9 [(1, 1), (2, 2), (3, 3), (4, 4), (5, 5), (6, 6), (7, 7), (8, 8)] (by decide); clear hm9 m2
 have m9 : MemOk _ _ [(1, _), (2, _), (3, _), (4, _), (5, _), (6, _), (7, _), (8, _), (31, _), (32, _), (50, _)] _ := mx9.only [1, 2, 3, 4, 5, 6, 7, 8, 31, 32, 50]; clear mx9
 refine ⟨_, rfl, ?_⟩; clear Hz Az; intro Az Hz
 refine hK _ _ ?_; clear hK K
 refine wpList_nil ?_
 refine hK1 _ _ ?_; clear hK1; try clear K1
 refine regS Hz (.fieldAddr (off := 10) rfl Tryz.underlying55 rfl (s := 3) (by kernel_rfl) rfl <| .fieldAddr (off := 10) rfl Tryz.underlying29 rfl (s := 0) (by kernel_rfl) rfl <| .loadB1 m9 (i := 50) rfl rfl rfl Tryz.underlying3 rfl <| .assign rfl <| .nil) ?_
 clear Hz Az; intro Az Hz
 refine wp_seq_k (fun K2 hK2 => ?_)
 replace Hz : Has 78 [(0, _), (3, _), (4, _)] Az := Hz.only [0, 3, 4]
 refine regS Hz (.move rfl <| .move rfl <| .nilCheck rfl <| .fieldAddr (off := 22) rfl Tryz.underlying86 rfl (s := 0) (by kernel_rfl) rfl <| .loadB1 m9 (i := 1) rfl rfl rfl Tryz.underlying3 rfl <| .leq rfl rfl <| .nil) ?_
 clear Hz Az; intro Az Hz
 refine bool_cases Hz (t := 17) rfl ?_ ?_
 · intro hb _; exact absurd hb (by simp; omega)
 clear Hz; intro _ Hz
 refine wp_cond_false (Hz.ev (x := .tmp 17) rfl) ?_
 refine wp_skip ?_
 refine hK2 _ _ ?_; clear hK2; try clear K2
 refine wp_seq_k (fun K3 hK3 => ?_)
 refine wp_seq_k (fun K4 hK4 => ?_)
 replace Hz : Has 78 [(0, _), (3, _), (4, _)] Az := Hz.only [0, 3, 4]
 have m24 : MemOk _ _ [(1, _), (2, _), (3, _), (4, _), (5, _), (6, _), (7, _), (8, _), (31, _), (32, _), (50, _)] _ := m9.only [1, 2, 3, 4, 5, 6, 7, 8, 31, 32, 50]; clear m9
 refine region_p 23 (B := [(1, _), (2, _), (3, _), (4, _), (5, _), (6, _), (7, _), (8, _), (31, _), (32, _), (50, _)]) (m24.to ⟨il, il, il, il, il, il, il, il, il, il, il, trivial⟩) m24 (by kernel_rfl) (fun w25 hP25 m25 => ?_); clear m24
 refine goR hP25 [0, 1, 2, 3, 4, 5, 6, 7] [5] 8 0 255 Hz (m25.to ⟨il, il, il, il, il, il, il, il, il, il, il, trivial⟩) (.move rfl <| .move rfl <| .nilCheck rfl <| .fieldAddr (off := 0) rfl Tryz.underlying86 rfl (s := 4) (by kernel_rfl) rfl <| .fieldAddr (off := 4) rfl Tryz.underlying81 rfl (s := 0) (by kernel_rfl) rfl <| .loadB1 hh (i := 1) rfl rfl rfl Tryz.underlying79 rfl <| .nilCheck rfl <| .fieldAddr (off := 0) rfl Tryz.underlying123 rfl (s := 4) (by kernel_rfl) rfl <| .nil) ?_
 clear Hz Az; intro Az Hz
 refine stepE_only 8 rfl (by kernel_rfl) rfl (fun K hK => ?_)
 refine e_call Hz Tryz.func75 rfl rfl rfl rfl (rlast_s R (withX s { s.x with ro := 0, le := f, si := 0 }) p1 _ (rfM_is (withX s { s.x with ro := 0, le := f, si := 0 }) p1 (m25.into [(1, 1), (2, 2), (3, 3), (4, 4), (5, 5), (6, 6), (7, 7), (8, 8)] (by decide) rfl)) hk.l) ?_
 rintro e w34 ⟨rfl, hb34⟩
 have m35 := m25.later hb34
 clear m25
 clear hb34
 refine ⟨_, rfl, ?_⟩; clear Hz Az; intro Az Hz
 refine hK _ _ (m35.to ⟨il, il, il, il, il, il, il, il, il, il, il, trivial⟩) ?_; clear hK K
 refine goA hP25 [9, 10] 2 511 2047 Hz (m35.to ⟨il, il, il, il, il, il, il, il, il, il, il, trivial⟩) (.gtr rfl rfl <| .move rfl <| .nil) ?_
 clear Hz Az; intro Az Hz
 refine bool_cases Hz (t := 35) rfl ?_ ?_
 ·
  clear Hz; intro hb39 Hz
  try simp only [Q1x, Q2x, Q3x, Q4x, Q5x, Q6x, Q7x, Q8x, Q9x, Q0x, Qax, Qbx] at hb39
  refine goA hP25 [11, 12, 13, 14, 15, 16, 17, 18, 19, 20, 21, 22] 12 2047 8388607 Hz (m35.to ⟨il, il, il, il, il, il, il, il, il, il, il, trivial⟩) (.s <| .s <| .s <| .s <| .s <| .s <| .s <| .s <| .s <| .s <| .s <| .pickT rfl rfl <| .nil) ?_
  clear Hz Az; intro Az Hz
  refine wpAnyE_done (by kernel_rfl) ?_ _
  refine hK4 _ _ ?_; clear hK4; try clear K4
  refine wp_cond_true (Hz.ev (x := .tmp 47) rfl) ?_
  refine wp_seq_k (fun K5 hK5 => ?_)
  replace Hz : Has 78 [(0, _), (3, _), (4, _), (35, _)] Az := Hz.only [0, 3, 4, 35]
  have m53 : MemOk _ _ [(1, _), (2, _), (3, _), (4, _), (5, _), (6, _), (7, _), (8, _), (31, _), (32, _), (50, _)] _ := m35.only [1, 2, 3, 4, 5, 6, 7, 8, 31, 32, 50]; clear m35
  refine region_p 7 (B := [(1, _), (2, _), (3, _), (4, _), (5, _), (6, _), (7, _), (8, _), (31, _), (32, _), (50, _)]) (m53.to ⟨il, il, il, il, il, il, il, il, il, il, il, trivial⟩) m53 (by kernel_rfl) (fun w54 hP54 m54 => ?_); clear m53
  refine goR hP54 [0, 1, 2, 3, 4, 5, 6] [4, 6] 7 0 127 Hz (m54.to ⟨il, il, il, il, il, il, il, il, il, il, il, trivial⟩) (.move rfl <| .nilCheck rfl <| .fieldAddr (off := 0) rfl Tryz.underlying86 rfl (s := 4) (by kernel_rfl) rfl <| .fieldAddr (off := 4) rfl Tryz.underlying81 rfl (s := 0) (by kernel_rfl) rfl <| .loadB1 hh (i := 1) rfl rfl rfl Tryz.underlying79 rfl <| .fieldAddr (off := 10) rfl Tryz.underlying55 rfl (s := 3) (by kernel_rfl) rfl <| .loadBR hh (i := 50) rfl rfl Tryz.underlying29 rfl sz29roi (by simp) (by dsimp only [List.drop, List.take] <;> rfl) <| .nil) ?_
  clear Hz Az; intro Az Hz
  have m62 := m54.dat 51 rfl (m54.rd (i := 31) rfl); clear m54
  have m63 := m62.dat 52 rfl (m62.rd (i := 32) rfl); clear m62
  refine stepE_end 7 rfl (by kernel_rfl) rfl (by rfl) (fun K hK => ?_)
  refine e_call Hz Tryz.func76 rfl rfl rfl rfl (rreset_s _ R (withX s { s.x with ro := 0, le := f, si := 0 }) p1 bi bt cf bd _ _ _ _ _ hcf hbd (m63.into [(9, 51), (10, 52), (1, 1), (2, 2), (3, 3), (4, 4), (5, 5), (6, 6), (7, 7), (8, 8)] (by decide) rfl)) ?_
  rintro e w64 ⟨p2, rfl, hm64⟩
  have mx64 := m63.back hm64 [(1, 1), (2, 2), (3, 3), (4, 4), (5, 5), (6, 6), (7, 7), (8, 8)] (by decide); clear hm64 m63
  have m64 : MemOk _ _ [(1, _), (2, _), (3, _), (4, _), (5, _), (6, _), (7, _), (8, _), (31, _), (32, _), (50, _)] _ := mx64.only [1, 2, 3, 4, 5, 6, 7, 8, 31, 32, 50]; clear mx64
  refine ⟨_, rfl, ?_⟩; clear Hz Az; intro Az Hz
  refine hK _ _ ?_; clear hK K
  refine wpAnyE_done (by kernel_rfl) ?_ _
  refine hK5 _ _ ?_; clear hK5; try clear K5
  replace Hz : Has 78 [(0, _), (3, _), (4, _), (35, _)] Az := Hz.only [0, 3, 4, 35]
  refine wp_seq_k (fun K6 hK6 => ?_)
  refine wp_region_lit ?_
  refine goCh Hz (.move rfl <| .fieldAddr (off := 10) rfl Tryz.underlying55 rfl (s := 3) (by kernel_rfl) rfl <| .loadBR m64 (i := 50) rfl rfl Tryz.underlying29 rfl sz29roi (by simp) (by dsimp only [List.drop, List.take] <;> rfl) <| .nil) ?_
  clear Hz Az; intro Az Hz
  refine wpList_plain rfl (fun K hK => ?_)
  refine e_call Hz Tryz.func81 rfl rfl rfl rfl (base_any _ _ cf bd _ _ _ _ _ ((m64.rd (i := 31) rfl).any) ((m64.rd (i := 32) rfl).any) (by omega) (by omega)) ?_
  rintro e w73 ⟨u73, c73, q73, b73, rfl, hc73, hd73, hb73⟩
  have m74 := m64.callFF 53 54 rfl rfl hb73 hc73 hd73
  clear m64
  clear hb73 hc73 hd73
  refine ⟨_, rfl, ?_⟩; clear Hz Az; intro Az Hz
  refine hK _ _ ?_; clear hK K
  refine goCh Hz (.buildG rfl zc118roi ps118roi rfl .nil) ?_
  clear Hz Az; intro Az Hz
  refine wpList_plain rfl (fun K hK => ?_)
  refine e_call Hz Tryz.func73 rfl rfl rfl rfl (rsaveB_s _ R { s with x := { s.x with ro := 0, le := f, si := 0 }, bi := bi, bt := bt, cf := cf, bd := bd, es := [] } p2 bi bt cf bd _ _ _ _ _ (by have := hk.rs; show s.rs.length ≤ _; omega) (m74.into [(10, 53), (11, 54), (1, 1), (2, 2), (3, 3), (4, 4), (5, 5), (6, 6), (7, 7), (8, 8)] (by decide) rfl)) ?_
  rintro e w77 ⟨p3, rfl, hm77⟩
  have mx77 := m74.back hm77 [(1, 1), (2, 2), (3, 3), (4, 4), (5, 5), (6, 6), (7, 7), (8, 8)] (by decide); clear hm77 m74
  have m77 : MemOk _ _ [(1, _), (2, _), (3, _), (4, _), (5, _), (6, _), (7, _), (8, _), (31, _), (32, _), (50, _)] _ := mx77.only [1, 2, 3, 4, 5, 6, 7, 8, 31, 32, 50]; clear mx77
  refine ⟨_, rfl, ?_⟩; clear Hz Az; intro Az Hz
  refine hK _ _ ?_; clear hK K
  refine wpList_nil ?_
  refine hK6 _ _ ?_; clear hK6; try clear K6
  replace Hz : Has 78 [(0, _), (3, _), (4, _), (35, _)] Az := Hz.only [0, 3, 4, 35]
  refine wp_region_lit ?_
  refine goCh Hz (.move rfl <| .move rfl <| .move rfl <| .nilCheck rfl <| .fieldAddr (off := 23) rfl Tryz.underlying86 rfl (s := 0) (by kernel_rfl) rfl <| .nil) ?_
  clear Hz Az; intro Az Hz
  refine wpList_plain rfl (fun K hK => ?_)
  refine e_store1 Hz m77 1 rfl rfl rfl rfl rfl sz3roi (by dsimp only [List.set] <;> rfl) ?_
  clear m77; intro w85 m85 hB85
  clear hB85
  refine hK _ _ ?_; clear hK K
  refine goCh Hz (.nilCheck rfl <| .fieldAddr (off := 26) rfl Tryz.underlying86 rfl (s := 2) (by kernel_rfl) rfl <| .fieldAddr (off := 28) rfl Tryz.underlying46 rfl (s := 0) (by kernel_rfl) rfl <| .nil) ?_
  clear Hz Az; intro Az Hz
  refine wpList_plain rfl (fun K hK => ?_)
  refine e_store1 Hz m85 1 rfl rfl rfl rfl rfl sz4roi (by dsimp only [List.set] <;> rfl) ?_
  clear m85; intro w89 m89 hB89
  clear hB89
  refine hK _ _ ?_; clear hK K
  refine wpList_nil ?_
  refine hK3 _ _ ?_; clear hK3; try clear K3
  replace Hz : Has 78 [(0, _), (3, _), (4, _), (35, _)] Az := Hz.only [0, 3, 4, 35]
  refine wp_seq_k (fun K7 hK7 => ?_)
  refine wp_region_lit ?_
  refine goCh Hz (.move rfl <| .move rfl <| .nilCheck rfl <| .fieldAddr (off := 22) rfl Tryz.underlying86 rfl (s := 0) (by kernel_rfl) rfl <| .nil) ?_
  clear Hz Az; intro Az Hz
  refine wpList_plain rfl (fun K hK => ?_)
  refine e_store1 Hz m89 1 rfl rfl rfl rfl rfl sz3roi (by dsimp only [List.set] <;> rfl) ?_
  clear m89; intro w99 m99 hB99
  clear hB99
  refine hK _ _ ?_; clear hK K
  refine wpList_nil ?_
  refine hK7 _ _ ?_; clear hK7; try clear K7
  refine wp_region_lit ?_
  refine goCh Hz (.move rfl <| .loadBR m99 (i := 50) rfl rfl Tryz.underlying55 rfl sz55roi (by simp) (by dsimp only [List.drop, List.take] <;> rfl) <| .move rfl <| .nil) ?_
  clear Hz Az; intro Az Hz
  refine wpList_plain rfl (fun K hK => ?_)
  refine e_call Hz Tryz.func139 rfl rfl rfl rfl (rreply_s _ R (instS s f bi bt cf bd) p3 ⟨k, gm, f, t, te, ix, lt, co, ok, [], bi, bt, [], [], [], 0, 0, 0, 0⟩ 6 true bi none pc pd none 0 _ _ 0 0 cc cd 0 _ (by have := hk.ms; show s.ms.length ≤ _; omega) (m99.into [(1, 1), (2, 2), (3, 3), (4, 4), (5, 5), (6, 6), (7, 7), (8, 8)] (by decide) rfl)) ?_
  rintro e w103 ⟨p4, rfl, hm103⟩
  have mx103 := m99.back hm103 [(1, 1), (2, 2), (3, 3), (4, 4), (5, 5), (6, 6), (7, 7), (8, 8)] (by decide); clear hm103 m99
  have m103 : MemOk _ _ [(1, _), (2, _), (3, _), (4, _), (5, _), (6, _), (7, _), (8, _), (31, _), (32, _), (50, _)] _ := mx103.only [1, 2, 3, 4, 5, 6, 7, 8, 31, 32, 50]; clear mx103
  refine ⟨_, rfl, ?_⟩; clear Hz Az; intro Az Hz
  refine hK _ _ ?_; clear hK K
  refine wpList_nil ?_
  try dsimp only [Exit.then]
  try refine out_here ?_
  refine (ret0 (fn := Tryz.f103) Hz rfl ?_)
  exact ⟨p4, rfl, m103.only [1, 2, 3, 4, 5, 6, 7, 8]⟩
 ·
  clear Hz; intro hb39 Hz
  try simp only [Q1x, Q2x, Q3x, Q4x, Q5x, Q6x, Q7x, Q8x, Q9x, Q0x, Qax, Qbx] at hb39
  refine goR hP25 [11, 12, 13, 14, 15, 16, 18, 19, 20] [15, 20] 9 2047 1966079 Hz (m35.to ⟨il, il, il, il, il, il, il, il, il, il, il, trivial⟩) (.move rfl <| .nilCheck rfl <| .fieldAddr (off := 0) rfl Tryz.underlying86 rfl (s := 4) (by kernel_rfl) rfl <| .fieldAddr (off := 4) rfl Tryz.underlying81 rfl (s := 0) (by kernel_rfl) rfl <| .loadB1 hh (i := 1) rfl rfl rfl Tryz.underlying79 rfl <| .move rfl <| .fieldAddr (off := 10) rfl Tryz.underlying55 rfl (s := 3) (by kernel_rfl) rfl <| .fieldAddr (off := 11) rfl Tryz.underlying29 rfl (s := 0) (by kernel_rfl) rfl <| .loadB1 hh (i := 50) rfl rfl rfl Tryz.underlying3 rfl <| .nil) ?_
  clear Hz Az; intro Az Hz
  refine stepE_only 17 rfl (by kernel_rfl) (wantedG Hz rfl rfl rfl rfl) (fun K hK => ?_)
  refine e_call Hz Tryz.func113 rfl rfl rfl rfl (rterm_s R (withX s { s.x with ro := 0, le := f, si := 0 }) p1 _ (rfM_is (withX s { s.x with ro := 0, le := f, si := 0 }) p1 (m35.into [(1, 1), (2, 2), (3, 3), (4, 4), (5, 5), (6, 6), (7, 7), (8, 8)] (by decide) rfl)) hk.l bi) ?_
  rintro e w114 ⟨rfl, hb114⟩
  have m115 := m35.later hb114
  clear m35
  clear hb114
  refine ⟨_, rfl, ?_⟩; clear Hz Az; intro Az Hz
  refine hK _ _ (m115.to ⟨il, il, il, il, il, il, il, il, il, il, il, trivial⟩) ?_; clear hK K
  refine goA hP25 [21, 22] 2 2097151 8388607 Hz (m115.to ⟨il, il, il, il, il, il, il, il, il, il, il, trivial⟩) (.neq rfl rfl <| .pickF rfl rfl <| .nil) ?_
  clear Hz Az; intro Az Hz
  refine wpAnyE_done (by kernel_rfl) ?_ _
  refine hK4 _ _ ?_; clear hK4; try clear K4
  refine bool_cases Hz (t := 47) rfl ?_ ?_
  rotate_left
  · intro hb _; exact absurd hb (by have h9 := hb39; simp only [lastX] at h9; rcases hno with h8 | h8; (· omega); exact fun h7 => (of_decide_eq_false h7 : ¬ (termS s bi ≠ bt)) h8)
  clear Hz; intro _ Hz
  refine wp_cond_true (Hz.ev (x := .tmp 47) rfl) ?_
  refine wp_seq_k (fun K8 hK8 => ?_)
  replace Hz : Has 78 [(0, _), (3, _), (4, _), (35, _)] Az := Hz.only [0, 3, 4, 35]
  have m121 : MemOk _ _ [(1, _), (2, _), (3, _), (4, _), (5, _), (6, _), (7, _), (8, _), (31, _), (32, _), (50, _)] _ := m115.only [1, 2, 3, 4, 5, 6, 7, 8, 31, 32, 50]; clear m115
  refine region_p 7 (B := [(1, _), (2, _), (3, _), (4, _), (5, _), (6, _), (7, _), (8, _), (31, _), (32, _), (50, _)]) (m121.to ⟨il, il, il, il, il, il, il, il, il, il, il, trivial⟩) m121 (by kernel_rfl) (fun w122 hP122 m122 => ?_); clear m121
  refine goR hP122 [0, 1, 2, 3, 4, 5, 6] [4, 6] 7 0 127 Hz (m122.to ⟨il, il, il, il, il, il, il, il, il, il, il, trivial⟩) (.move rfl <| .nilCheck rfl <| .fieldAddr (off := 0) rfl Tryz.underlying86 rfl (s := 4) (by kernel_rfl) rfl <| .fieldAddr (off := 4) rfl Tryz.underlying81 rfl (s := 0) (by kernel_rfl) rfl <| .loadB1 hh (i := 1) rfl rfl rfl Tryz.underlying79 rfl <| .fieldAddr (off := 10) rfl Tryz.underlying55 rfl (s := 3) (by kernel_rfl) rfl <| .loadBR hh (i := 50) rfl rfl Tryz.underlying29 rfl sz29roi (by simp) (by dsimp only [List.drop, List.take] <;> rfl) <| .nil) ?_
  clear Hz Az; intro Az Hz
  have m130 := m122.dat 51 rfl (m122.rd (i := 31) rfl); clear m122
  have m131 := m130.dat 52 rfl (m130.rd (i := 32) rfl); clear m130
  refine stepE_end 7 rfl (by kernel_rfl) rfl (by rfl) (fun K hK => ?_)
  refine e_call Hz Tryz.func76 rfl rfl rfl rfl (rreset_s _ R (withX s { s.x with ro := 0, le := f, si := 0 }) p1 bi bt cf bd _ _ _ _ _ hcf hbd (m131.into [(9, 51), (10, 52), (1, 1), (2, 2), (3, 3), (4, 4), (5, 5), (6, 6), (7, 7), (8, 8)] (by decide) rfl)) ?_
  rintro e w132 ⟨p2, rfl, hm132⟩
  have mx132 := m131.back hm132 [(1, 1), (2, 2), (3, 3), (4, 4), (5, 5), (6, 6), (7, 7), (8, 8)] (by decide); clear hm132 m131
  have m132 : MemOk _ _ [(1, _), (2, _), (3, _), (4, _), (5, _), (6, _), (7, _), (8, _), (31, _), (32, _), (50, _)] _ := mx132.only [1, 2, 3, 4, 5, 6, 7, 8, 31, 32, 50]; clear mx132
  refine ⟨_, rfl, ?_⟩; clear Hz Az; intro Az Hz
  refine hK _ _ ?_; clear hK K
  refine wpAnyE_done (by kernel_rfl) ?_ _
  refine hK8 _ _ ?_; clear hK8; try clear K8
  replace Hz : Has 78 [(0, _), (3, _), (4, _), (35, _)] Az := Hz.only [0, 3, 4, 35]
  refine wp_seq_k (fun K9 hK9 => ?_)
  refine wp_region_lit ?_
  refine goCh Hz (.move rfl <| .fieldAddr (off := 10) rfl Tryz.underlying55 rfl (s := 3) (by kernel_rfl) rfl <| .loadBR m132 (i := 50) rfl rfl Tryz.underlying29 rfl sz29roi (by simp) (by dsimp only [List.drop, List.take] <;> rfl) <| .nil) ?_
  clear Hz Az; intro Az Hz
  refine wpList_plain rfl (fun K hK => ?_)
  refine e_call Hz Tryz.func81 rfl rfl rfl rfl (base_any _ _ cf bd _ _ _ _ _ ((m132.rd (i := 31) rfl).any) ((m132.rd (i := 32) rfl).any) (by omega) (by omega)) ?_
  rintro e w141 ⟨u141, c141, q141, b141, rfl, hc141, hd141, hb141⟩
  have m142 := m132.callFF 53 54 rfl rfl hb141 hc141 hd141
  clear m132
  clear hb141 hc141 hd141
  refine ⟨_, rfl, ?_⟩; clear Hz Az; intro Az Hz
  refine hK _ _ ?_; clear hK K
  refine goCh Hz (.buildG rfl zc118roi ps118roi rfl .nil) ?_
  clear Hz Az; intro Az Hz
  refine wpList_plain rfl (fun K hK => ?_)
  refine e_call Hz Tryz.func73 rfl rfl rfl rfl (rsaveB_s _ R { s with x := { s.x with ro := 0, le := f, si := 0 }, bi := bi, bt := bt, cf := cf, bd := bd, es := [] } p2 bi bt cf bd _ _ _ _ _ (by have := hk.rs; show s.rs.length ≤ _; omega) (m142.into [(10, 53), (11, 54), (1, 1), (2, 2), (3, 3), (4, 4), (5, 5), (6, 6), (7, 7), (8, 8)] (by decide) rfl)) ?_
  rintro e w145 ⟨p3, rfl, hm145⟩
  have mx145 := m142.back hm145 [(1, 1), (2, 2), (3, 3), (4, 4), (5, 5), (6, 6), (7, 7), (8, 8)] (by decide); clear hm145 m142
  have m145 : MemOk _ _ [(1, _), (2, _), (3, _), (4, _), (5, _), (6, _), (7, _), (8, _), (31, _), (32, _), (50, _)] _ := mx145.only [1, 2, 3, 4, 5, 6, 7, 8, 31, 32, 50]; clear mx145
  refine ⟨_, rfl, ?_⟩; clear Hz Az; intro Az Hz
  refine hK _ _ ?_; clear hK K
  refine wpList_nil ?_
  refine hK9 _ _ ?_; clear hK9; try clear K9
  replace Hz : Has 78 [(0, _), (3, _), (4, _), (35, _)] Az := Hz.only [0, 3, 4, 35]
  refine wp_region_lit ?_
  refine goCh Hz (.move rfl <| .move rfl <| .move rfl <| .nilCheck rfl <| .fieldAddr (off := 23) rfl Tryz.underlying86 rfl (s := 0) (by kernel_rfl) rfl <| .nil) ?_
  clear Hz Az; intro Az Hz
  refine wpList_plain rfl (fun K hK => ?_)
  refine e_store1 Hz m145 1 rfl rfl rfl rfl rfl sz3roi (by dsimp only [List.set] <;> rfl) ?_
  clear m145; intro w153 m153 hB153
  clear hB153
  refine hK _ _ ?_; clear hK K
  refine goCh Hz (.nilCheck rfl <| .fieldAddr (off := 26) rfl Tryz.underlying86 rfl (s := 2) (by kernel_rfl) rfl <| .fieldAddr (off := 28) rfl Tryz.underlying46 rfl (s := 0) (by kernel_rfl) rfl <| .nil) ?_
  clear Hz Az; intro Az Hz
  refine wpList_plain rfl (fun K hK => ?_)
  refine e_store1 Hz m153 1 rfl rfl rfl rfl rfl sz4roi (by dsimp only [List.set] <;> rfl) ?_
  clear m153; intro w157 m157 hB157
  clear hB157
  refine hK _ _ ?_; clear hK K
  refine wpList_nil ?_
  refine hK3 _ _ ?_; clear hK3; try clear K3
  replace Hz : Has 78 [(0, _), (3, _), (4, _), (35, _)] Az := Hz.only [0, 3, 4, 35]
  refine wp_seq_k (fun K10 hK10 => ?_)
  refine wp_region_lit ?_
  refine goCh Hz (.move rfl <| .move rfl <| .nilCheck rfl <| .fieldAddr (off := 22) rfl Tryz.underlying86 rfl (s := 0) (by kernel_rfl) rfl <| .nil) ?_
  clear Hz Az; intro Az Hz
  refine wpList_plain rfl (fun K hK => ?_)
  refine e_store1 Hz m157 1 rfl rfl rfl rfl rfl sz3roi (by dsimp only [List.set] <;> rfl) ?_
  clear m157; intro w167 m167 hB167
  clear hB167
  refine hK _ _ ?_; clear hK K
  refine wpList_nil ?_
  refine hK10 _ _ ?_; clear hK10; try clear K10
  refine wp_region_lit ?_
  refine goCh Hz (.move rfl <| .loadBR m167 (i := 50) rfl rfl Tryz.underlying55 rfl sz55roi (by simp) (by dsimp only [List.drop, List.take] <;> rfl) <| .move rfl <| .nil) ?_
  clear Hz Az; intro Az Hz
  refine wpList_plain rfl (fun K hK => ?_)
  refine e_call Hz Tryz.func139 rfl rfl rfl rfl (rreply_s _ R (instS s f bi bt cf bd) p3 ⟨k, gm, f, t, te, ix, lt, co, ok, [], bi, bt, [], [], [], 0, 0, 0, 0⟩ 6 true bi none pc pd none 0 _ _ 0 0 cc cd 0 _ (by have := hk.ms; show s.ms.length ≤ _; omega) (m167.into [(1, 1), (2, 2), (3, 3), (4, 4), (5, 5), (6, 6), (7, 7), (8, 8)] (by decide) rfl)) ?_
  rintro e w171 ⟨p4, rfl, hm171⟩
  have mx171 := m167.back hm171 [(1, 1), (2, 2), (3, 3), (4, 4), (5, 5), (6, 6), (7, 7), (8, 8)] (by decide); clear hm171 m167
  have m171 : MemOk _ _ [(1, _), (2, _), (3, _), (4, _), (5, _), (6, _), (7, _), (8, _), (31, _), (32, _), (50, _)] _ := mx171.only [1, 2, 3, 4, 5, 6, 7, 8, 31, 32, 50]; clear mx171
  refine ⟨_, rfl, ?_⟩; clear Hz Az; intro Az Hz
  refine hK _ _ ?_; clear hK K
  refine wpList_nil ?_
  try dsimp only [Exit.then]
  try refine out_here ?_
  refine (ret0 (fn := Tryz.f103) Hz rfl ?_)
  exact ⟨p4, rfl, m171.only [1, 2, 3, 4, 5, 6, 7, 8]⟩
end Go.Proofs.YtndnnlbdnjndiaaGreat.K
