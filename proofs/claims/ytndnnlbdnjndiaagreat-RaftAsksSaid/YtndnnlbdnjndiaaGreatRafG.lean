/- raft: what is done with messages: onPreOk, onVoteOk, newer, onPreVote (refused), onAppend (of none), onInstall. -/
import Derived.Test.YtndnnlbdnjndiaaGreatRafF
namespace Go.Proofs.YtndnnlbdnjndiaaGreat.K
open Go.ChangeShapes Go.WideShapes Go.ChangeAt Go.RowKit
set_option linter.unusedVariables false
set_option linter.unusedSimpArgs false

theorem sz55rpv : (Tryz.prog.info? 55).map (·.size) = some 19 := by kernel_rfl
theorem sz3roa : (Tryz.prog.info? 3).map (·.size) = some 1 := by kernel_rfl
theorem sz55roa : (Tryz.prog.info? 55).map (·.size) = some 19 := by kernel_rfl
abbrev mS (k gm f t te ix lt co : Int) (ok : Bool) : RM := ⟨k, gm, f, t, te, ix, lt, co, ok, [], 0, 0, [], [], [], 0, 0, 0, 0⟩
def withY (ys : List Int) (f : Int) : List Int := canon (canon ys ++ [f])
theorem withY_len (ys : List Int) (f : Int) : (withY ys f).length ≤ 7 := canon_len _
theorem ROk.yes {s : RS} (h : ROk s) (f : Int) : ROk { s with ys := withY s.ys f } := ⟨h.l, h.n, h.co, h.ld, h.ms, h.rs, h.te, h.id, h.si, h.be, Nat.le_trans (withY_len _ _) (by decide)⟩
def preOkS (s : RS) (f te : Int) : RS :=
 if s.x.ro = 1 ∧ te = s.x.te + 1 then (if favS { s with ys := withY s.ys f } then standS { s with ys := withY s.ys f } else { s with ys := withY s.ys f }) else s
def voteOkS (s : RS) (f : Int) (ok : Bool) : RS :=
 if ok = true ∧ s.x.ro = 2 then (if favS { s with ys := withY s.ys f } then winS { s with ys := withY s.ys f } else { s with ys := withY s.ys f }) else s
abbrev replyS (s : RS) (f kd : Int) (ok : Bool) (ix : Int) : RS := addM s [toM s f (replyR s.x kd ok ix)]
abbrev instS (s : RS) (f bi bt : Int) (cf bd : List Int) : RS := { s with x := { s.x with ro := 0, le := f, si := 0, ap := bi, co := bi }, bi := bi, bt := bt, cf := cf, bd := bd, es := [], rs := s.rs ++ [{ baseR bi bt cf bd with g := s.x.gr }], re := true }
theorem fol_nil (prev bi : Int) (es : List En) : folR prev bi es [] = ([], es, max (prev + 0) bi) := by simp [folR, runN, skipN, folL]
set_option maxRecDepth 100000
set_option maxHeartbeats 4000000
theorem rreply_s (X : Cx) (R : Nat) (s : RS) (p : RP) (r : RM) (kd : Int) (ok : Bool) (ix : Int) (pe pc pd pf : Option Addr) (ne nc nd nf ce cc cd cf : Nat) (w0 : World) (hQ : s.ms.length ≤ 1000000) (m0 : MemOk X w0 (rfM R s p) w0) :
   Calls Tryz.prog 139 #[.pointer (some ⟨R, 0, none⟩), .agg #[.int .i64 r.k, .int .i64 r.g, .int .i64 r.f, .int .i64 r.t, .int .i64 r.te, .int .i64 r.ix, .int .i64 r.lt, .int .i64 r.co, .bool r.ok, .slice pe ne ce, .int .i64 r.bi, .int .i64 r.bt, .slice pc nc cc, .slice pd nd cd, .slice pf nf cf, .int .i64 r.vo, .int .i64 r.ch, .int .i64 r.ma, .int .i64 r.fl], .int .i64 kd, .bool ok, .int .i64 ix] w0 fun e w' => ∃ p', e = .returned (.tuple #[]) ∧ MemOk X w0 (rfM R (replyS s r.f kd ok ix) p') w' := by
 refine (rreply_x _ R p.L s.x _ _ s.re s.ms r kd ok ix pe pc pd pf p.pm ne nc nd nf ce cc cd cf p.cm w0 hQ (m0.into [(1, 1), (7, 7)] (by decide) rfl)).mono ?_
 rintro e w' ⟨q, c, rfl, hm⟩
 have mb := m0.back hm [(1, 1), (7, 7)] (by decide)
 exact ⟨{ p with pm := q, cm := c }, rfl, mb.only [1, 2, 3, 4, 5, 6, 7, 8]⟩
theorem rfollow0_s (X : Cx) (R : Nat) (s : RS) (p : RP) (ix lt : Int) (w0 : World) (hb : RLS s) (hix : -1000000000000000 ≤ ix ∧ ix ≤ 1000000000000000) (hyes : s.bi ≤ ix → ix ≤ s.bi + s.es.length ∧ termS s ix = lt) (m0 : MemOk X w0 ((9, .dat (.slice none 0 0) (.l 4 (([] : List En).map entD))) :: rfM R s p) w0) :
   Calls Tryz.prog 144 #[.pointer (some ⟨p.L, 0, none⟩), .int .i64 ix, .int .i64 lt, .slice none 0 0] w0 fun e w' => ∃ p' pr cr, e = .returned (.tuple #[.slice pr (([] : List En).map entD).length cr, .int .i64 (max (ix + 0) s.bi), .bool true]) ∧ MemOk X w0 ((9, .dat (.slice pr (([] : List En).map entD).length cr) (.l 4 (([] : List En).map entD))) :: rfM R s p') w' := by
 have h1 := hb.b; have h2 := hb.n
 refine (follow_is _ p.L s.bi s.bt s.cf s.bd s.es p.pc p.pd p.pl p.cc p.cd p.cl ix lt [] none 0 0 w0 (by omega) (by omega) (by simp; omega) (by intro e he; cases he) hyes (fol_nil ix s.bi s.es) (m0.into [(1, 2), (2, 3), (3, 4), (4, 5), (5, 9)] (by decide) rfl)).mono ?_
 rintro e w' ⟨pl', cl', pr, cr, rfl, hm⟩
 have mb := m0.back hm [(2, 1), (3, 2), (4, 3), (5, 4), (9, 5)] (by decide)
 exact ⟨{ p with pl := pl', cl := cl' }, pr, cr, rfl, mb.only [9, 1, 2, 3, 4, 5, 6, 7, 8]⟩
theorem rnewer_s (R : Nat) (s : RS) (p : RP) (w0 : World) (h : RIs w0 R s p) (hb : RLS s) (k gm f t te ix lt co : Int) (ok : Bool) :
   Calls Tryz.prog 138 #[.pointer (some ⟨R, 0, none⟩), .agg #[.int .i64 k, .int .i64 gm, .int .i64 f, .int .i64 t, .int .i64 te, .int .i64 ix, .int .i64 lt, .int .i64 co, .bool ok, .slice none 0 0, .int .i64 0, .int .i64 0, .slice none 0 0, .slice none 0 0, .slice none 0 0, .int .i64 0, .int .i64 0, .int .i64 0, .int .i64 0]] w0 fun e w' => e = .returned (.bool (newer lt ix (termS s (lastS s)) (lastS s))) ∧ Below w0.heap.size w0 w' := by
 refine enter (fn := Tryz.f138) Tryz.func138 rfl Tryz.ntmps138 rfl (fun Az Hz => ?_)
 simp only [List.zipIdx_cons, List.zipIdx_nil, List.map_cons, List.map_nil, Nat.reduceAdd, Nat.zero_add] at Hz
 have m0 := MemOk.start (fun _ => False) w0
 have hR := h.r
 have hY := h.y
 have hB := h.b
 refine wp_seq_k (fun K0 hK0 => ?_)
 refine wp_region_lit ?_
 refine wpList_plain rfl (fun K hK => ?_)
 refine e_box Hz m0 50 (cs := [_, _, _, _, _, _, _, _, _, _, _, _, _, _, _, _, _, _, _]) rfl rfl rfl ?_
 clear Hz Az m0; intro g1 Az w2 Hz m2 hB2 hg2
 clear hB2 hg2
 refine hK _ _ ?_; clear hK K
 refine goCh Hz (.assign rfl .nil) ?_
 clear Hz Az; intro Az Hz
 refine wpList_nil ?_
 refine hK0 _ _ ?_; clear hK0; try clear K0
 refine wp_seq_k (fun K1 hK1 => ?_)
 refine wp_region_lit ?_
 refine goCh Hz (.move rfl <| .nilCheck rfl <| .fieldAddr (off := 0) rfl Tryz.underlying86 rfl (s := 4) (by kernel_rfl) rfl <| .fieldAddr (off := 4) rfl Tryz.underlying81 rfl (s := 0) (by kernel_rfl) rfl <| .loadX1 (hR.now m2 rfl) rfl rfl Tryz.underlying79 rfl <| .nilCheck rfl <| .fieldAddr (off := 0) rfl Tryz.underlying123 rfl (s := 4) (by kernel_rfl) rfl <| .nil) ?_
 clear Hz Az; intro Az Hz
 refine wpList_plain rfl (fun K hK => ?_)
 refine e_call Hz Tryz.func75 rfl rfl rfl rfl (rlast_s R s p _ (h.now m2) hb) ?_
 rintro e w18 ⟨rfl, hb18⟩
 have m19 := m2.later hb18
 clear m2
 clear hb18
 refine ⟨_, rfl, ?_⟩; clear Hz Az; intro Az Hz
 refine hK _ _ ?_; clear hK K
 refine goCh Hz (.assign rfl .nil) ?_
 clear Hz Az; intro Az Hz
 refine wpList_nil ?_
 refine hK1 _ _ ?_; clear hK1; try clear K1
 refine wp_seq_k (fun K2 hK2 => ?_)
 replace Hz : Has 27 [(0, _), (3, _), (4, _), (5, _)] Az := Hz.only [0, 3, 4, 5]
 have m23 : MemOk _ _ [(50, _)] _ := m19.only [50]; clear m19
 refine region_p 14 (B := [(50, _)]) (m23.to ⟨il, trivial⟩) m23 (by kernel_rfl) (fun w24 hP24 m24 => ?_); clear m23
 refine goR hP24 [0, 1, 2, 3, 4, 5, 6, 7, 8, 9, 11] [1, 3, 8] 11 0 3071 Hz (m24.to ⟨il, trivial⟩) (.fieldAddr (off := 6) rfl Tryz.underlying55 rfl (s := 0) (by kernel_rfl) rfl <| .loadB1 hh (i := 50) rfl rfl rfl Tryz.underlying3 rfl <| .fieldAddr (off := 5) rfl Tryz.underlying55 rfl (s := 0) (by kernel_rfl) rfl <| .loadB1 hh (i := 50) rfl rfl rfl Tryz.underlying3 rfl <| .move rfl <| .nilCheck rfl <| .fieldAddr (off := 0) rfl Tryz.underlying86 rfl (s := 4) (by kernel_rfl) rfl <| .fieldAddr (off := 4) rfl Tryz.underlying81 rfl (s := 0) (by kernel_rfl) rfl <| .loadX1 (fun _ h_ => (hR.now h_ rfl)) rfl rfl Tryz.underlying79 rfl <| .move rfl <| .move rfl <| .nil) ?_
 clear Hz Az; intro Az Hz
 refine stepE_only 10 rfl (by kernel_rfl) rfl (fun K hK => ?_)
 refine e_call Hz Tryz.func113 rfl rfl rfl rfl (rterm_s R s p _ (h.now m24) hb (lastS s)) ?_
 rintro e w36 ⟨rfl, hb36⟩
 have m37 := m24.later hb36
 clear m24
 clear hb36
 refine ⟨_, rfl, ?_⟩; clear Hz Az; intro Az Hz
 refine hK _ _ (m37.to ⟨il, trivial⟩) ?_; clear hK K
 refine stepE_only 12 rfl (by kernel_rfl) rfl (fun K hK => ?_)
 refine e_call Hz Tryz.func153 rfl rfl rfl rfl (newer_b _ _ _ _ _) ?_
 rintro e w39 ⟨rfl, hb39⟩
 have m40 := m37.later hb39
 clear m37
 clear hb39
 refine ⟨_, rfl, ?_⟩; clear Hz Az; intro Az Hz
 refine hK _ _ (m40.to ⟨il, trivial⟩) ?_; clear hK K
 refine goA hP24 [13] 1 8191 16383 Hz (m40.to ⟨il, trivial⟩) (.assign rfl <| .nil) ?_
 clear Hz Az; intro Az Hz
 refine wpAnyE_done (by kernel_rfl) ?_ _
 refine hK2 _ _ ?_; clear hK2; try clear K2
 refine wp_ret ?_
 try dsimp only [Exit.then, Exit.inBlock]
 refine (ret1 (fn := Tryz.f138) Hz rfl rfl ?_)
 exact ⟨rfl, m40.below⟩
theorem ronPreVote_s (X : Cx) (R : Nat) (s : RS) (p : RP) (k gm f t te ix lt co : Int) (ok : Bool) (w0 : World) (hk : ROk s) (hro : s.x.ro ≠ 3) (hle : 0 ≤ s.x.le) (hsi : s.x.si < 10) (m0 : MemOk X w0 (rfM R s p) w0) :
   Calls Tryz.prog 96 #[.pointer (some ⟨R, 0, none⟩), .agg #[.int .i64 k, .int .i64 gm, .int .i64 f, .int .i64 t, .int .i64 te, .int .i64 ix, .int .i64 lt, .int .i64 co, .bool ok, .slice none 0 0, .int .i64 0, .int .i64 0, .slice none 0 0, .slice none 0 0, .slice none 0 0, .int .i64 0, .int .i64 0, .int .i64 0, .int .i64 0]] w0 fun e w' => ∃ p', e = .returned (.tuple #[]) ∧ MemOk X w0 (rfM R (replyS s f 2 false 0) p') w' := by
 refine enter (fn := Tryz.f96) Tryz.func96 rfl Tryz.ntmps96 rfl (fun Az Hz => ?_)
 simp only [List.zipIdx_cons, List.zipIdx_nil, List.map_cons, List.map_nil, Nat.reduceAdd, Nat.zero_add] at Hz
 refine wp_seq_k (fun K0 hK0 => ?_)
 refine wp_region_lit ?_
 refine wpList_plain rfl (fun K hK => ?_)
 refine e_box Hz m0 50 (cs := [_, _, _, _, _, _, _, _, _, _, _, _, _, _, _, _, _, _, _]) rfl rfl rfl ?_
 clear Hz Az m0; intro g1 Az w2 Hz m2 hB2 hg2
 clear hB2 hg2
 refine hK _ _ ?_; clear hK K
 refine wpList_nil ?_
 refine hK0 _ _ ?_; clear hK0; try clear K0
 refine wp_seq_k (fun K1 hK1 => ?_)
 refine wp_region_lit ?_
 refine goCh Hz (.move rfl <| .nilCheck rfl <| .fieldAddr (off := 20) rfl Tryz.underlying86 rfl (s := 0) (by kernel_rfl) rfl <| .loadB1 m2 (i := 1) rfl rfl rfl Tryz.underlying3 rfl <| .eql rfl rfl <| .move rfl <| .nil) ?_
 clear Hz Az; intro Az Hz
 refine bool_cases Hz (t := 10) rfl ?_ ?_
 · intro hb _; exact absurd hb (by simp; omega)
 clear Hz; intro _ Hz
 refine goCh Hz (.moveZ rfl <| .nilCheckZ rfl <| .fieldAddrZ (off := 21) rfl Tryz.underlying86 rfl (s := 0) (by kernel_rfl) rfl <| .loadB1Z m2 (i := 1) rfl rfl rfl Tryz.underlying3 rfl <| .geqZ rfl rfl <| .moveZ rfl <| .nil) ?_
 clear Hz Az; intro Az Hz
 refine bool_cases Hz (t := 16) rfl ?_ ?_
 rotate_left
 · intro hb _; exact absurd hb (by simp; omega)
 clear Hz; intro _ Hz
 refine goCh Hz (.moveZ rfl <| .nilCheckZ rfl <| .fieldAddrZ (off := 24) rfl Tryz.underlying86 rfl (s := 0) (by kernel_rfl) rfl <| .loadB1Z m2 (i := 1) rfl rfl rfl Tryz.underlying3 rfl <| .lssZ rfl rfl <| .pickTZ rfl rfl <| .pickF rfl rfl <| .assign rfl <| .nil) ?_
 clear Hz Az; intro Az Hz
 refine wpList_nil ?_
 refine hK1 _ _ ?_; clear hK1; try clear K1
 refine wp_seq_k (fun K2 hK2 => ?_)
 refine wp_seq_k (fun K3 hK3 => ?_)
 replace Hz : Has 52 [(0, _), (3, _), (4, _)] Az := Hz.only [0, 3, 4]
 have m32 : MemOk _ _ [(1, _), (2, _), (3, _), (4, _), (5, _), (6, _), (7, _), (8, _), (50, _)] _ := m2.only [1, 2, 3, 4, 5, 6, 7, 8, 50]; clear m2
 refine region_p 18 (B := [(1, _), (2, _), (3, _), (4, _), (5, _), (6, _), (7, _), (8, _), (50, _)]) (m32.to ⟨il, il, il, il, il, il, il, il, il, trivial⟩) m32 (by kernel_rfl) (fun w33 hP33 m33 => ?_); clear m32
 refine goR hP33 [0, 1, 2, 3, 4, 5, 6, 7, 8, 9] [1, 7] 10 0 1023 Hz (m33.to ⟨il, il, il, il, il, il, il, il, il, trivial⟩) (.fieldAddr (off := 4) rfl Tryz.underlying55 rfl (s := 0) (by kernel_rfl) rfl <| .loadB1 hh (i := 50) rfl rfl rfl Tryz.underlying3 rfl <| .move rfl <| .nilCheck rfl <| .fieldAddr (off := 0) rfl Tryz.underlying86 rfl (s := 4) (by kernel_rfl) rfl <| .fieldAddr (off := 2) rfl Tryz.underlying81 rfl (s := 1) (by kernel_rfl) rfl <| .fieldAddr (off := 2) rfl Tryz.underlying25 rfl (s := 0) (by kernel_rfl) rfl <| .loadB1 hh (i := 1) rfl rfl rfl Tryz.underlying3 rfl <| .gtr rfl rfl <| .move rfl <| .nil) ?_
 clear Hz Az; intro Az Hz
 refine bool_cases Hz (t := 33) rfl ?_ ?_
 ·
  clear Hz; intro hb44 Hz
  try simp only [Q1x, Q2x, Q3x, Q4x, Q5x, Q6x, Q7x, Q8x, Q9x, Q0x, Qax, Qbx] at hb44
  refine goR hP33 [10, 11] [11] 2 1023 4095 Hz (m33.to ⟨il, il, il, il, il, il, il, il, il, trivial⟩) (.move rfl <| .loadBR hh (i := 50) rfl rfl Tryz.underlying55 rfl sz55rpv (by simp) (by dsimp only [List.drop, List.take] <;> rfl) <| .nil) ?_
  clear Hz Az; intro Az Hz
  refine stepE_only 12 rfl (by kernel_rfl) (wantedG Hz rfl rfl rfl rfl) (fun K hK => ?_)
  refine e_call Hz Tryz.func138 rfl rfl rfl rfl (rnewer_s R s p _ (rfM_is s p (m33.into [(1, 1), (2, 2), (3, 3), (4, 4), (5, 5), (6, 6), (7, 7), (8, 8)] (by decide) rfl)) hk.l k gm f t te ix lt co ok) ?_
  rintro e w47 ⟨rfl, hb47⟩
  have m48 := m33.later hb47
  clear m33
  clear hb47
  refine ⟨_, rfl, ?_⟩; clear Hz Az; intro Az Hz
  refine hK _ _ (m48.to ⟨il, il, il, il, il, il, il, il, il, trivial⟩) ?_; clear hK K
  refine goA hP33 [13, 14] 2 8191 32767 Hz (m48.to ⟨il, il, il, il, il, il, il, il, il, trivial⟩) (.pickT rfl rfl <| .move rfl <| .nil) ?_
  clear Hz Az; intro Az Hz
  refine bool_cases Hz (t := 38) rfl ?_ ?_
  ·
   clear Hz; intro hb52 Hz
   try simp only [Q1x, Q2x, Q3x, Q4x, Q5x, Q6x, Q7x, Q8x, Q9x, Q0x, Qax, Qbx] at hb52
   refine goA hP33 [15, 16, 17] 3 32767 262143 Hz (m48.to ⟨il, il, il, il, il, il, il, il, il, trivial⟩) (.move rfl <| .not rfl <| .pickT rfl rfl <| .nil) ?_
   clear Hz Az; intro Az Hz
   refine wpAnyE_done (by kernel_rfl) ?_ _
   refine hK3 _ _ ?_; clear hK3; try clear K3
   refine bool_cases Hz (t := 41) rfl ?_ ?_
   · intro hb _; exact absurd hb (by simp; omega)
   clear Hz; intro _ Hz
   refine wp_cond_false (Hz.ev (x := .tmp 41) rfl) ?_
   refine wp_skip ?_
   refine hK2 _ _ ?_; clear hK2; try clear K2
   replace Hz : Has 52 [(0, _), (3, _)] Az := Hz.only [0, 3]
   refine wp_region_lit ?_
   refine goCh Hz (.move rfl <| .loadBR m48 (i := 50) rfl rfl Tryz.underlying55 rfl sz55rpv (by simp) (by dsimp only [List.drop, List.take] <;> rfl) <| .nil) ?_
   clear Hz Az; intro Az Hz
   refine wpList_plain rfl (fun K hK => ?_)
   refine e_call Hz Tryz.func139 rfl rfl rfl rfl (rreply_s _ R s p (mS k gm f t te ix lt co ok) 2 false 0 none none none none 0 0 0 0 0 0 0 0 _ (by have := hk.ms; show s.ms.length ≤ _; omega) (m48.into [(1, 1), (2, 2), (3, 3), (4, 4), (5, 5), (6, 6), (7, 7), (8, 8)] (by decide) rfl)) ?_
   rintro e w60 ⟨p1, rfl, hm60⟩
   have mx60 := m48.back hm60 [(1, 1), (2, 2), (3, 3), (4, 4), (5, 5), (6, 6), (7, 7), (8, 8)] (by decide); clear hm60 m48
   have m60 : MemOk _ _ [(1, _), (2, _), (3, _), (4, _), (5, _), (6, _), (7, _), (8, _), (50, _)] _ := mx60.only [1, 2, 3, 4, 5, 6, 7, 8, 50]; clear mx60
   refine ⟨_, rfl, ?_⟩; clear Hz Az; intro Az Hz
   refine hK _ _ ?_; clear hK K
   refine wpList_nil ?_
   try dsimp only [Exit.then]
   try refine out_here ?_
   refine (ret0 (fn := Tryz.f96) Hz rfl ?_)
   exact ⟨p1, rfl, m60.only [1, 2, 3, 4, 5, 6, 7, 8]⟩
  ·
   clear Hz; intro hb52 Hz
   try simp only [Q1x, Q2x, Q3x, Q4x, Q5x, Q6x, Q7x, Q8x, Q9x, Q0x, Qax, Qbx] at hb52
   refine goA hP33 [15, 16, 17] 3 32767 262143 Hz (m48.to ⟨il, il, il, il, il, il, il, il, il, trivial⟩) (.s <| .s <| .pickF rfl rfl <| .nil) ?_
   clear Hz Az; intro Az Hz
   refine wpAnyE_done (by kernel_rfl) ?_ _
   refine hK3 _ _ ?_; clear hK3; try clear K3
   refine wp_cond_false (Hz.ev (x := .tmp 41) rfl) ?_
   refine wp_skip ?_
   refine hK2 _ _ ?_; clear hK2; try clear K2
   replace Hz : Has 52 [(0, _), (3, _)] Az := Hz.only [0, 3]
   refine wp_region_lit ?_
   refine goCh Hz (.move rfl <| .loadBR m48 (i := 50) rfl rfl Tryz.underlying55 rfl sz55rpv (by simp) (by dsimp only [List.drop, List.take] <;> rfl) <| .nil) ?_
   clear Hz Az; intro Az Hz
   refine wpList_plain rfl (fun K hK => ?_)
   refine e_call Hz Tryz.func139 rfl rfl rfl rfl (rreply_s _ R s p (mS k gm f t te ix lt co ok) 2 false 0 none none none none 0 0 0 0 0 0 0 0 _ (by have := hk.ms; show s.ms.length ≤ _; omega) (m48.into [(1, 1), (2, 2), (3, 3), (4, 4), (5, 5), (6, 6), (7, 7), (8, 8)] (by decide) rfl)) ?_
   rintro e w68 ⟨p1, rfl, hm68⟩
   have mx68 := m48.back hm68 [(1, 1), (2, 2), (3, 3), (4, 4), (5, 5), (6, 6), (7, 7), (8, 8)] (by decide); clear hm68 m48
   have m68 : MemOk _ _ [(1, _), (2, _), (3, _), (4, _), (5, _), (6, _), (7, _), (8, _), (50, _)] _ := mx68.only [1, 2, 3, 4, 5, 6, 7, 8, 50]; clear mx68
   refine ⟨_, rfl, ?_⟩; clear Hz Az; intro Az Hz
   refine hK _ _ ?_; clear hK K
   refine wpList_nil ?_
   try dsimp only [Exit.then]
   try refine out_here ?_
   refine (ret0 (fn := Tryz.f96) Hz rfl ?_)
   exact ⟨p1, rfl, m68.only [1, 2, 3, 4, 5, 6, 7, 8]⟩
 ·
  clear Hz; intro hb44 Hz
  try simp only [Q1x, Q2x, Q3x, Q4x, Q5x, Q6x, Q7x, Q8x, Q9x, Q0x, Qax, Qbx] at hb44
  refine goA hP33 [10, 11, 12, 13, 14, 15, 16, 17] 8 1023 262143 Hz (m33.to ⟨il, il, il, il, il, il, il, il, il, trivial⟩) (.s <| .s <| .s <| .pickF rfl rfl <| .move rfl <| .s <| .s <| .pickF rfl rfl <| .nil) ?_
  clear Hz Az; intro Az Hz
  refine wpAnyE_done (by kernel_rfl) ?_ _
  refine hK3 _ _ ?_; clear hK3; try clear K3
  refine wp_cond_false (Hz.ev (x := .tmp 41) rfl) ?_
  refine wp_skip ?_
  refine hK2 _ _ ?_; clear hK2; try clear K2
  replace Hz : Has 52 [(0, _), (3, _)] Az := Hz.only [0, 3]
  refine wp_region_lit ?_
  refine goCh Hz (.move rfl <| .loadBR m33 (i := 50) rfl rfl Tryz.underlying55 rfl sz55rpv (by simp) (by dsimp only [List.drop, List.take] <;> rfl) <| .nil) ?_
  clear Hz Az; intro Az Hz
  refine wpList_plain rfl (fun K hK => ?_)
  refine e_call Hz Tryz.func139 rfl rfl rfl rfl (rreply_s _ R s p (mS k gm f t te ix lt co ok) 2 false 0 none none none none 0 0 0 0 0 0 0 0 _ (by have := hk.ms; show s.ms.length ≤ _; omega) (m33.into [(1, 1), (2, 2), (3, 3), (4, 4), (5, 5), (6, 6), (7, 7), (8, 8)] (by decide) rfl)) ?_
  rintro e w81 ⟨p1, rfl, hm81⟩
  have mx81 := m33.back hm81 [(1, 1), (2, 2), (3, 3), (4, 4), (5, 5), (6, 6), (7, 7), (8, 8)] (by decide); clear hm81 m33
  have m81 : MemOk _ _ [(1, _), (2, _), (3, _), (4, _), (5, _), (6, _), (7, _), (8, _), (50, _)] _ := mx81.only [1, 2, 3, 4, 5, 6, 7, 8, 50]; clear mx81
  refine ⟨_, rfl, ?_⟩; clear Hz Az; intro Az Hz
  refine hK _ _ ?_; clear hK K
  refine wpList_nil ?_
  try dsimp only [Exit.then]
  try refine out_here ?_
  refine (ret0 (fn := Tryz.f96) Hz rfl ?_)
  exact ⟨p1, rfl, m81.only [1, 2, 3, 4, 5, 6, 7, 8]⟩
theorem ronAppend0_s (X : Cx) (R : Nat) (s : RS) (p : RP) (k gm f t te ix lt co : Int) (ok : Bool) (w0 : World) (hk : ROk s) (hix : -1000000000000000 ≤ ix ∧ ix ≤ 1000000000000000) (hyes : s.bi ≤ ix → ix ≤ s.bi + s.es.length ∧ termS s ix = lt) (m0 : MemOk X w0 (rfM R s p) w0) :
   Calls Tryz.prog 101 #[.pointer (some ⟨R, 0, none⟩), .agg #[.int .i64 k, .int .i64 gm, .int .i64 f, .int .i64 t, .int .i64 te, .int .i64 ix, .int .i64 lt, .int .i64 co, .bool ok, .slice none 0 0, .int .i64 0, .int .i64 0, .slice none 0 0, .slice none 0 0, .slice none 0 0, .int .i64 0, .int .i64 0, .int .i64 0, .int .i64 0]] w0 fun e w' => ∃ p', e = .returned (.tuple #[]) ∧ MemOk X w0 (rfM R (replyS (withX s { s.x with ro := 0, le := f, si := 0, co := max s.x.co (min co (max (ix + 0) s.bi)) }) f 6 true (max (ix + 0) s.bi)) p') w' := by
 refine enter (fn := Tryz.f101) Tryz.func101 rfl Tryz.ntmps101 rfl (fun Az Hz => ?_)
 simp only [List.zipIdx_cons, List.zipIdx_nil, List.map_cons, List.map_nil, Nat.reduceAdd, Nat.zero_add] at Hz
 refine wp_seq_k (fun K0 hK0 => ?_)
 refine wp_region_lit ?_
 refine wpList_plain rfl (fun K hK => ?_)
 refine e_box Hz m0 50 (cs := [_, _, _, _, _, _, _, _, _, _, _, _, _, _, _, _, _, _, _]) rfl rfl rfl ?_
 clear Hz Az m0; intro g1 Az w2 Hz m2 hB2 hg2
 clear hB2 hg2
 refine hK _ _ ?_; clear hK K
 refine wpList_nil ?_
 refine hK0 _ _ ?_; clear hK0; try clear K0
 refine wp_seq_k (fun K1 hK1 => ?_)
 refine wp_region_lit ?_
 refine goCh Hz (.move rfl <| .fieldAddr (off := 2) rfl Tryz.underlying55 rfl (s := 0) (by kernel_rfl) rfl <| .loadB1 m2 (i := 50) rfl rfl rfl Tryz.underlying3 rfl <| .nil) ?_
 clear Hz Az; intro Az Hz
 refine wpList_plain rfl (fun K hK => ?_)
 refine e_call Hz Tryz.func143 rfl rfl rfl rfl (rheed_s _ R s p f _ (m2.into [(1, 1), (2, 2), (3, 3), (4, 4), (5, 5), (6, 6), (7, 7), (8, 8)] (by decide) rfl)) ?_
 rintro e w9 ⟨p1, rfl, hm9⟩
 have mx9 := m2.back hm9 [(1, 1), (2, 2), (3, 3), (4, 4), (5, 5), (6, 6), (7, 7), (8, 8)] (by decide); clear hm9 m2
 have m9 : MemOk _ _ [(1, _), (2, _), (3, _), (4, _), (5, _), (6, _), (7, _), (8, _), (50, _)] _ := mx9.only [1, 2, 3, 4, 5, 6, 7, 8, 50]; clear mx9
 refine ⟨_, rfl, ?_⟩; clear Hz Az; intro Az Hz
 refine hK _ _ ?_; clear hK K
 refine wpList_nil ?_
 refine hK1 _ _ ?_; clear hK1; try clear K1
 refine wp_seq_k (fun K2 hK2 => ?_)
 have m11 : MemOk _ _ [(1, _), (2, _), (3, _), (4, _), (5, _), (6, _), (7, _), (8, _), (50, _)] _ := m9.only [1, 2, 3, 4, 5, 6, 7, 8, 50]; clear m9
 refine region_p 11 (B := [(1, _), (2, _), (3, _), (4, _), (5, _), (6, _), (7, _), (8, _), (50, _)]) (m11.to ⟨il, il, il, il, il, il, il, il, il, trivial⟩) m11 (by kernel_rfl) (fun w12 hP12 m12 => ?_); clear m11
 refine goR hP12 [0, 1, 2, 3, 4, 5, 6, 7, 8, 9, 10] [4, 6, 8, 10] 11 0 2047 Hz (m12.to ⟨il, il, il, il, il, il, il, il, il, trivial⟩) (.move rfl <| .nilCheck rfl <| .fieldAddr (off := 0) rfl Tryz.underlying86 rfl (s := 4) (by kernel_rfl) rfl <| .fieldAddr (off := 4) rfl Tryz.underlying81 rfl (s := 0) (by kernel_rfl) rfl <| .loadB1 hh (i := 1) rfl rfl rfl Tryz.underlying79 rfl <| .fieldAddr (off := 5) rfl Tryz.underlying55 rfl (s := 0) (by kernel_rfl) rfl <| .loadB1 hh (i := 50) rfl rfl rfl Tryz.underlying3 rfl <| .fieldAddr (off := 6) rfl Tryz.underlying55 rfl (s := 0) (by kernel_rfl) rfl <| .loadB1 hh (i := 50) rfl rfl rfl Tryz.underlying3 rfl <| .fieldAddr (off := 9) rfl Tryz.underlying55 rfl (s := 0) (by kernel_rfl) rfl <| .loadB1 hh (i := 50) rfl rfl rfl Tryz.underlying30 rfl <| .nil) ?_
 clear Hz Az; intro Az Hz
 have m24 := m12.dat 51 rfl (Rd.nil4 _ _); clear m12
 refine stepE_end 11 rfl (by kernel_rfl) rfl (by rfl) (fun K hK => ?_)
 refine e_call Hz Tryz.func144 rfl rfl rfl rfl (rfollow0_s _ R (withX s { s.x with ro := 0, le := f, si := 0 }) p1 ix lt _ hk.l hix hyes (m24.into [(9, 51), (1, 1), (2, 2), (3, 3), (4, 4), (5, 5), (6, 6), (7, 7), (8, 8)] (by decide) rfl)) ?_
 rintro e w25 ⟨p2, pr, cr, rfl, hm25⟩
 have mx25 := m24.back hm25 [(1, 1), (2, 2), (3, 3), (4, 4), (5, 5), (6, 6), (7, 7), (8, 8), (52, 9)] (by decide); clear hm25 m24
 have m25 : MemOk _ _ [(1, _), (2, _), (3, _), (4, _), (5, _), (6, _), (7, _), (8, _), (52, _), (50, _)] _ := mx25.only [1, 2, 3, 4, 5, 6, 7, 8, 52, 50]; clear mx25
 refine ⟨_, rfl, ?_⟩; clear Hz Az; intro Az Hz
 refine hK _ _ ?_; clear hK K
 refine goB hP12 [12, 13, 14, 15, 16, 17, 18] 7 4095 524287 Hz (.move rfl <| .extract rfl rfl <| .extract rfl rfl <| .extract rfl rfl <| .assign rfl <| .assign rfl <| .assign rfl <| .nil) ?_
 clear Hz Az; intro Az Hz
 refine wpAnyE_done (by kernel_rfl) ?_ _
 refine hK2 _ _ ?_; clear hK2; try clear K2
 refine wp_seq_k (fun K3 hK3 => ?_)
 replace Hz : Has 73 [(0, _), (3, _), (4, _), (5, _), (6, _)] Az := Hz.only [0, 3, 4, 5, 6]
 refine regS Hz (.move rfl <| .not rfl <| .nil) ?_
 clear Hz Az; intro Az Hz
 refine wp_cond_false (Hz.ev (x := .tmp 30) rfl) ?_
 refine wp_skip ?_
 refine hK3 _ _ ?_; clear hK3; try clear K3
 refine wp_seq_k (fun K4 hK4 => ?_)
 refine regS Hz (.move rfl <| .len rfl Tryz.underlying30 <| .move rfl <| .nil) ?_
 clear Hz Az; intro Az Hz
 refine wp_block ?_
 refine wp_loop_ghost (fun g a w => ∃ (B9 : Nat), Has 73 [(0, .pointer (some ⟨R, 0, none⟩)), (3, .pointer (some ⟨B9, 0, none⟩)), (5, .int .i64 (max (ix + 0) s.bi)), (47, .int .i64 ((([] : List En).map entD).length : Nat)), (48, .int .i64 0)] a ∧ MemOk X w0 ((30, .box B9 55 [.int .i64 k, .int .i64 gm, .int .i64 f, .int .i64 t, .int .i64 te, .int .i64 ix, .int .i64 lt, .int .i64 co, .bool ok, .slice none 0 0, .int .i64 0, .int .i64 0, .slice none 0 0, .slice none 0 0, .slice none 0 0, .int .i64 0, .int .i64 0, .int .i64 0, .int .i64 0]) :: rfM R (withX s { s.x with ro := 0, le := f, si := 0 }) p2) w) (0) ?_ ?_
 · exact ⟨_, Hz.only [0, 3, 5, 47, 48], m25.ren [(30, 50), (1, 1), (2, 2), (3, 3), (4, 4), (5, 5), (6, 6), (7, 7), (8, 8)] (by decide)⟩
 ·
  clear Hz m25
  rintro g Az w40 ⟨B9, Hz, m40⟩
  refine regS Hz (.lss rfl rfl <| .nil) ?_
  clear Hz Az; intro Az Hz
  refine wp_seq_k (fun K5 hK5 => ?_)
  refine bool_cases Hz (t := 49) rfl ?_ ?_
  · intro hb _; exact absurd hb (by simp)
  clear Hz; intro _ Hz
  refine wp_cond_false (Hz.ev (x := .tmp 49) rfl) ?_
  refine wp_exit ?_
  refine hK4 _ _ ?_; clear hK4; try clear K4
  refine wp_seq_k (fun K6 hK6 => ?_)
  have m43 : MemOk _ _ [(1, _), (2, _), (3, _), (4, _), (5, _), (6, _), (7, _), (8, _), (30, _)] _ := m40.only [1, 2, 3, 4, 5, 6, 7, 8, 30]; clear m40
  refine region_p 12 (B := [(1, _), (2, _), (3, _), (4, _), (5, _), (6, _), (7, _), (8, _), (30, _)]) (m43.to ⟨il, il, il, il, il, il, il, il, il, trivial⟩) m43 (by kernel_rfl) (fun w44 hP44 m44 => ?_); clear m43
  refine goR hP44 [0, 1, 2, 3, 4, 5, 6, 7, 8, 9, 10, 11] [4, 6] 12 0 4095 Hz (m44.to ⟨il, il, il, il, il, il, il, il, il, trivial⟩) (.move rfl <| .move rfl <| .nilCheck rfl <| .fieldAddr (off := 22) rfl Tryz.underlying86 rfl (s := 0) (by kernel_rfl) rfl <| .loadB1 hh (i := 1) rfl rfl rfl Tryz.underlying3 rfl <| .fieldAddr (off := 7) rfl Tryz.underlying55 rfl (s := 0) (by kernel_rfl) rfl <| .loadB1 hh (i := 30) rfl rfl rfl Tryz.underlying3 rfl <| .move rfl <| .p (fun _ _ h_ => y_min h_ rfl rfl rfl) <| .p (fun _ _ h_ => y_max h_ rfl rfl rfl) <| .nilCheck rfl <| .fieldAddr (off := 22) rfl Tryz.underlying86 rfl (s := 0) (by kernel_rfl) rfl <| .nil) ?_
  clear Hz Az; intro Az Hz
  refine stepE_end 12 rfl (by kernel_rfl) rfl (by rfl) (fun K hK => ?_)
  refine e_store1 Hz m44 1 rfl rfl rfl rfl rfl sz3roa (by dsimp only [List.set] <;> rfl) ?_
  clear m44; intro w57 m57 hB57
  clear hB57
  refine hK _ _ ?_; clear hK K
  refine wpAnyE_done (by kernel_rfl) ?_ _
  refine hK6 _ _ ?_; clear hK6; try clear K6
  replace Hz : Has 73 [(0, _), (3, _), (5, _), (47, _), (48, _)] Az := Hz.only [0, 3, 5, 47, 48]
  refine wp_region_lit ?_
  refine goCh Hz (.move rfl <| .loadBR m57 (i := 30) rfl rfl Tryz.underlying55 rfl sz55roa (by simp) (by dsimp only [List.drop, List.take] <;> rfl) <| .move rfl <| .nil) ?_
  clear Hz Az; intro Az Hz
  refine wpList_plain rfl (fun K hK => ?_)
  refine e_call Hz Tryz.func139 rfl rfl rfl rfl (rreply_s _ R (withX s { s.x with ro := 0, le := f, si := 0, co := max s.x.co (min co (max (ix + 0) s.bi)) }) p2 (mS k gm f t te ix lt co ok) 6 true (max (ix + 0) s.bi) none none none none 0 0 0 0 0 0 0 0 _ (by have := hk.ms; show s.ms.length ≤ _; omega) (m57.into [(1, 1), (2, 2), (3, 3), (4, 4), (5, 5), (6, 6), (7, 7), (8, 8)] (by decide) rfl)) ?_
  rintro e w62 ⟨p3, rfl, hm62⟩
  have mx62 := m57.back hm62 [(1, 1), (2, 2), (3, 3), (4, 4), (5, 5), (6, 6), (7, 7), (8, 8)] (by decide); clear hm62 m57
  have m62 : MemOk _ _ [(1, _), (2, _), (3, _), (4, _), (5, _), (6, _), (7, _), (8, _), (30, _)] _ := mx62.only [1, 2, 3, 4, 5, 6, 7, 8, 30]; clear mx62
  refine ⟨_, rfl, ?_⟩; clear Hz Az; intro Az Hz
  refine hK _ _ ?_; clear hK K
  refine wpList_nil ?_
  try dsimp only [Exit.then]
  try refine out_here ?_
  refine (ret0 (fn := Tryz.f101) Hz rfl ?_)
  exact ⟨p3, rfl, m62.only [1, 2, 3, 4, 5, 6, 7, 8]⟩
end Go.Proofs.YtndnnlbdnjndiaaGreat.K
