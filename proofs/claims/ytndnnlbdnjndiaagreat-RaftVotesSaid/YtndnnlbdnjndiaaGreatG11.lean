/- General laws of walks. -/
import Derived.Test.YtndnnlbdnjndiaaGreatG10
namespace Go.Proofs.YtndnnlbdnjndiaaGreat.K
open Go.ChangeShapes Go.WideShapes Go.ChangeAt Go.RowKit
set_option linter.unusedVariables false
set_option linter.unusedSimpArgs false
section
theorem ps118rad : placesS Tryz.prog 118 = some [(0, 1), (1, 1), (2, 2), (4, 4), (8, 4)] := by kernel_rfl
theorem sz62rad : (Tryz.prog.info? 62).map (·.size) = some 4 := by kernel_rfl
theorem zc62rad : ((Tryz.prog.info? 62).bind (·.zero)).map (·.cells.toList) = some [.int .i64 0, .int .i64 0, .int .i64 0, .slice none 0 0] := by kernel_rfl
theorem zc118rad : ((Tryz.prog.info? 118).bind (·.zero)).map (·.cells.toList) = some [.int .i64 0, .int .i64 0, .int .i64 0, .int .i64 0, .int .i64 0, .int .i64 0, .int .i64 0, .slice none 0 0, .int .i64 0, .int .i64 0, .slice none 0 0, .slice none 0 0] := by kernel_rfl
theorem sz3rwi : (Tryz.prog.info? 3).map (·.size) = some 1 := by kernel_rfl
theorem fl25rst : flatS Tryz.prog 25 [.int .i64 0, .int .i64 0] = true := by kernel_rfl
theorem sz25rst : (Tryz.prog.info? 25).map (·.size) = some 2 := by kernel_rfl
theorem zc25rst : ((Tryz.prog.info? 25).bind (·.zero)).map (·.cells.toList) = some [.int .i64 0, .int .i64 0] := by kernel_rfl

theorem sz3rti : (Tryz.prog.info? 3).map (·.size) = some 1 := by kernel_rfl
theorem sz46rti : (Tryz.prog.info? 46).map (·.size) = some 3 := by kernel_rfl
theorem zc46rti : ((Tryz.prog.info? 46).bind (·.zero)).map (·.cells.toList) = some [.slice none 0 0, .slice none 0 0, .bool false] := by kernel_rfl

structure ROk (s : RS) : Prop where
 l : RLS s
 n : s.es.length < 90000
 co : -1000000000 ≤ s.x.co ∧ s.x.co ≤ 1000000000
 ld : lastS s - s.x.co ≤ 900
 ms : s.ms.length ≤ 800000
 rs : s.rs.length ≤ 800000
 te : 0 ≤ s.x.te ∧ s.x.te ≤ 1000000000000000
 id : 0 ≤ s.x.id ∧ s.x.id ≤ 6
 si : -1000000000000000 ≤ s.x.si ∧ s.x.si ≤ 1000000000000000
 be : -1000000000000000 ≤ s.x.be ∧ s.x.be ≤ 1000000000000000
 ys : s.ys.length ≤ 800
theorem ROk.run {s : RS} (h : ROk s) (ro : Int) : ROk (runS s ro) := ⟨h.l, h.n, h.co, h.ld, h.ms, h.rs, h.te, h.id, h.si, h.be, by show 1 ≤ 800; decide⟩
theorem ROk.si0 {s : RS} (h : ROk s) : ROk (withX s { s.x with si := 0 }) := ⟨h.l, h.n, h.co, h.ld, h.ms, h.rs, h.te, h.id, by show -1000000000000000 ≤ (0 : Int) ∧ (0 : Int) ≤ 1000000000000000; omega, h.be, h.ys⟩
structure OP where
 pm : Option Addr
 pq : Option Addr
 cm : Nat
 cq : Nat
abbrev ouM (t : RS) (o : OP) (M : Mm) : Mm := (11, .seg (.slice o.pm (t.ms.map rmD).length o.cm) 55 19 (t.ms.map rmD)) :: (12, .seg (.slice o.pq (t.rs.map rrD).length o.cq) 118 12 (t.rs.map rrD)) :: M
abbrev nilP (p : RP) : RP := { p with pm := none, cm := 0, pq := none, cq := 0 }
abbrev clrS (t : RS) : RS := { t with ms := [], rs := [], re := false }
theorem nx_all {x : RV} {v n : Int} (h0 : x.n0 = v) (h1 : x.n1 = v) (h2 : x.n2 = v) (h3 : x.n3 = v) (h4 : x.n4 = v) (h5 : x.n5 = v) (h6 : x.n6 = v) : nx x n = v := by
 unfold nx; repeat' split
 all_goals assumption
theorem win_nx (s : RS) (hb : RLS s) : ∀ n ∈ othS (addS (withX s (begX { s.x with ro := 3, le := s.x.id } (lastS s))) 0 []), (addS (withX s (begX { s.x with ro := 3, le := s.x.id } (lastS s))) 0 []).bi < nx (addS (withX s (begX { s.x with ro := 3, le := s.x.id } (lastS s))) 0 []).x n ∧ nx (addS (withX s (begX { s.x with ro := 3, le := s.x.id } (lastS s))) 0 []).x n ≤ 1000000000000000000 := by
 intro n _
 have e : nx (addS (withX s (begX { s.x with ro := 3, le := s.x.id } (lastS s))) 0 []).x n = lastS s + 1 := nx_all rfl rfl rfl rfl rfl rfl rfl
 have hl := lastS_bd s hb
 have h2 : lastS s = s.bi + (s.es.length : Int) := rfl
 rw [e]
 show s.bi < lastS s + 1 ∧ lastS s + 1 ≤ 1000000000000000000
 omega
theorem add_last (s : RS) (kd : Int) (d : List Int) : lastS (addE s kd d) = lastS s + 1 := by
 show s.bi + ((s.es ++ [newE s kd d]).length : Int) = s.bi + (s.es.length : Int) + 1
 rw [List.length_append]; simp; omega
theorem stand_yes (s : RS) (h : favS (runS (hardS (withX s { s.x with te := s.x.te + 1, vo := s.x.id })) 2) = true) : standS s = winS (runS (hardS (withX s { s.x with te := s.x.te + 1, vo := s.x.id })) 2) := by unfold standS; exact if_pos h
theorem stand_no (s : RS) (h : favS (runS (hardS (withX s { s.x with te := s.x.te + 1, vo := s.x.id })) 2) = false) : standS s = canvS (runS (hardS (withX s { s.x with te := s.x.te + 1, vo := s.x.id })) 2) 3 (s.x.te + 1) := by unfold standS; exact if_neg (by rw [h]; decide)
theorem ask_yes (s : RS) (h : favS (runS s 1) = true) : askS s = standS (runS s 1) := by unfold askS; exact if_pos h
theorem ask_no (s : RS) (h : favS (runS s 1) = false) : askS s = canvS (runS s 1) 1 (s.x.te + 1) := by unfold askS; exact if_neg (by rw [h]; decide)
theorem tick_tell (s : RS) (h : s.x.ro = 3) (h2 : (s.x.be + 1).tmod 2 = 0) : tickS s = tellS (withX s { s.x with be := s.x.be + 1 }) := by unfold tickS; rw [if_pos h]; exact if_pos h2
theorem tick_beat (s : RS) (h : s.x.ro = 3) (h2 : ¬ (s.x.be + 1).tmod 2 = 0) : tickS s = (withX s { s.x with be := s.x.be + 1 }) := by unfold tickS; rw [if_pos h]; exact if_neg h2
theorem tick_ask (s : RS) (h : ¬ s.x.ro = 3) (h2 : (memS s).contains s.x.id = true) (h3 : tmo s.x.id s.x.te ≤ s.x.si + 1) : tickS s = askS (withX s { s.x with si := 0 }) := by unfold tickS; rw [if_neg h]; exact if_pos ⟨h2, h3⟩
theorem tick_wait (s : RS) (h : ¬ s.x.ro = 3) (h3 : s.x.si + 1 < tmo s.x.id s.x.te) : tickS s = (withX s { s.x with si := s.x.si + 1 }) := by unfold tickS; rw [if_neg h]; exact if_neg fun h9 => by have h8 : tmo s.x.id s.x.te ≤ s.x.si + 1 := h9.2; omega
theorem tick_out (s : RS) (h : ¬ s.x.ro = 3) (h2 : (memS s).contains s.x.id = false) : tickS s = (withX s { s.x with si := s.x.si + 1 }) := by unfold tickS; rw [if_neg h]; exact if_neg fun h9 => by rw [show (memS (withX s { s.x with si := s.x.si + 1 })).contains s.x.id = false from h2] at h9; exact absurd h9.1 (by decide)
theorem timeout_b (n t : Int) (w : World) (n0 : -9223372036854775808 ≤ n) (n1 : n ≤ 9223372036854775807) (t0 : -9223372036854775808 ≤ t) (t1 : t ≤ 9223372036854775807) :
   Calls Tryz.prog 50 #[.int .i64 n, .int .i64 t] w fun e w' => e = .returned (.int .i64 (tmo n t)) ∧ Below w.heap.size w w' := by
 refine (timeout_any n t w n0 n1 t0 t1).mono ?_
 rintro e w' ⟨rfl, rfl⟩; exact ⟨rfl, Below.refl _ _⟩
theorem newer_b (a b c d : Int) (w : World) :
   Calls Tryz.prog 153 #[.int .i64 a, .int .i64 b, .int .i64 c, .int .i64 d] w fun e w' => e = .returned (.bool (newer a b c d)) ∧ Below w.heap.size w w' := by
 refine (newer_any a b c d w).mono ?_
 rintro e w' ⟨rfl, rfl⟩; exact ⟨rfl, Below.refl _ _⟩
theorem chas_b (v : Value) (l : List Int) (n : Int) (w : World) (hv : IsNums .i64 w v l) (hl : l.length ≤ 1000) :
   Calls Tryz.prog 48 #[v, .int .i64 n] w fun e w' => e = .returned (.bool (l.contains n)) ∧ Below w.heap.size w w' := by
 refine (chas_any v l n w hv hl).mono ?_
 rintro e w' ⟨rfl, rfl⟩; exact ⟨rfl, Below.refl _ _⟩
set_option maxRecDepth 100000
set_option maxHeartbeats 4000000
theorem rlogadd_s (X : Cx) (R : Nat) (s : RS) (p : RP) (tm kd : Int) (dd : List Int) (pa : Option Addr) (ca : Nat) (w0 : World) (hb : RLS s) (hn : s.es.length < 100000) (hdd : dd.length ≤ 100000) (m0 : MemOk X w0 ((9, .dat (.slice pa dd.length ca) (.ns .u8 dd)) :: rfM R s p) w0) :
   Calls Tryz.prog 115 #[.pointer (some ⟨p.L, 0, none⟩), .int .i64 tm, .int .i64 kd, .slice pa dd.length ca] w0 fun e w' => ∃ p' pr cr, e = .returned (.agg #[.int .i64 (lastS s + 1), .int .i64 tm, .int .i64 kd, .slice pr dd.length cr]) ∧ MemOk X w0 ((9, .dat (.slice pr dd.length cr) (.ns .u8 dd)) :: rfM R { s with es := s.es ++ [(lastS s + 1, tm, kd, dd)] } p') w' := by
 have h1 := hb.b; have h2 := hb.n
 refine (add_fr _ p.L s.bi s.bt s.cf s.bd s.es p.pc p.pd p.pl p.cc p.cd p.cl tm kd dd pa ca w0 (by omega) (by omega) (by omega) (m0.into [(1, 2), (2, 3), (3, 4), (4, 5), (5, 9)] (by decide) rfl)).mono ?_
 rintro e w' ⟨pl', cl', pr, cr, rfl, hm⟩
 have mb := m0.back hm [(2, 1), (3, 2), (4, 3), (5, 4), (9, 5)] (by decide)
 exact ⟨{ p with pl := pl', cl := cl' }, pr, cr, rfl, mb.only [9, 1, 2, 3, 4, 5, 6, 7, 8]⟩
theorem rsaveE_s (X : Cx) (R : Nat) (s : RS) (p : RP) (ei et ek : Int) (ed : List Int) (pe : Option Addr) (ce : Nat) (w0 : World) (hQ : s.rs.length ≤ 1000000) (m0 : MemOk X w0 ((9, .dat (.slice pe ed.length ce) (.ns .u8 ed)) :: rfM R s p) w0) :
   Calls Tryz.prog 73 #[.pointer (some ⟨R, 0, none⟩), .agg #[.int .i64 0, .int .i64 2, .int .i64 0, .int .i64 0, .int .i64 ei, .int .i64 et, .int .i64 ek, .slice pe ed.length ce, .int .i64 0, .int .i64 0, .slice none 0 0, .slice none 0 0]] w0 fun e w' => ∃ p', e = .returned (.tuple #[]) ∧ MemOk X w0 (rfM R (addR s (entR (ei, et, ek, ed))) p') w' := by
 have m1 := m0.dat 10 rfl (Rd.nilN _ _ .i64 none)
 have m2 := m1.dat 11 rfl (Rd.nilN _ _ .u8 none)
 refine (rsave_s X R s p (entR (ei, et, ek, ed)) pe none none ce 0 0 w0 hQ (m2.only [9, 10, 11, 1, 2, 3, 4, 5, 6, 7, 8])).mono ?_
 rintro e w' ⟨p', rfl, hm⟩
 exact ⟨p', rfl, hm.only [1, 2, 3, 4, 5, 6, 7, 8]⟩
theorem rtaken_s (X : Cx) (R : Nat) (s : RS) (p : RP) (w0 : World) (m0 : MemOk X w0 (rfM R s p) w0) :
   Calls Tryz.prog 47 #[.pointer (some ⟨R, 0, none⟩)] w0 fun e w' => ∃ p' o', e = .returned (.agg #[.slice o'.pm (s.ms.map rmD).length o'.cm, .slice o'.pq (s.rs.map rrD).length o'.cq, .bool s.re]) ∧ MemOk X w0 (ouM s o' (rfM R (clrS s) (nilP p'))) w' := by
 refine (rtaken_x _ R p.L s.x _ _ _ _ _ _ _ _ _ s.re _ (m0.into [(1, 1)] (by decide) rfl)).mono ?_
 rintro e w' ⟨rfl, hm⟩
 have mb := m0.back hm [(1, 1)] (by decide)
 have mc := mb.ren [(11, 7), (12, 8), (1, 1), (2, 2), (3, 3), (4, 4), (5, 5), (6, 6)] (by decide)
 have md := (mc.nilS 7 55 19).nilS 8 118 12
 exact ⟨p, ⟨p.pm, p.pq, p.cm, p.cq⟩, rfl, md.only [11, 12, 1, 2, 3, 4, 5, 6, 7, 8]⟩
theorem radd_s (X : Cx) (R : Nat) (s : RS) (p : RP) (kd : Int) (dd : List Int) (pa : Option Addr) (ca : Nat) (w0 : World) (hb : RLS s) (hn : s.es.length < 100000) (hdd : dd.length ≤ 100000) (hdb : ByteL dd) (hQ : s.rs.length ≤ 1000000) (hc : -1000000000 ≤ s.x.co ∧ s.x.co ≤ 1000000000) (hd : lastS s - s.x.co ≤ 900) (m0 : MemOk X w0 ((9, .dat (.slice pa dd.length ca) (.ns .u8 dd)) :: rfM R s p) w0) :
   Calls Tryz.prog 70 #[.pointer (some ⟨R, 0, none⟩), .int .i64 kd, .slice pa dd.length ca] w0 fun e w' => ∃ p', e = .returned (.int .i64 (lastS s + 1)) ∧ MemOk X w0 (rfM R (addS s kd dd) p') w' := by
 refine enter (fn := Tryz.f70) Tryz.func70 rfl Tryz.ntmps70 rfl (fun Az Hz => ?_)
 simp only [List.zipIdx_cons, List.zipIdx_nil, List.map_cons, List.map_nil, Nat.reduceAdd, Nat.zero_add] at Hz
 refine regS Hz (.assign rfl <| .nil) ?_
 clear Hz Az; intro Az Hz
 refine wp_seq_k (fun K0 hK0 => ?_)
 have m2 : MemOk _ _ [(1, _), (2, _), (3, _), (4, _), (5, _), (6, _), (7, _), (8, _), (9, _)] _ := m0.only [1, 2, 3, 4, 5, 6, 7, 8, 9]; clear m0
 refine region_p 13 (B := [(1, _), (2, _), (3, _), (4, _), (5, _), (6, _), (7, _), (8, _), (9, _)]) (m2.to ⟨il, il, il, il, il, il, il, il, il, trivial⟩) m2 (by kernel_rfl) (fun w3 hP3 m3 => ?_); clear m2
 refine goR hP3 [0, 1, 2, 3, 4, 5, 6, 7, 8, 9, 10, 11, 12] [4, 10] 13 0 8191 Hz (m3.to ⟨il, il, il, il, il, il, il, il, il, trivial⟩) (.move rfl <| .nilCheck rfl <| .fieldAddr (off := 0) rfl Tryz.underlying86 rfl (s := 4) (by kernel_rfl) rfl <| .fieldAddr (off := 4) rfl Tryz.underlying81 rfl (s := 0) (by kernel_rfl) rfl <| .loadB1 hh (i := 1) rfl rfl rfl Tryz.underlying79 rfl <| .move rfl <| .nilCheck rfl <| .fieldAddr (off := 0) rfl Tryz.underlying86 rfl (s := 4) (by kernel_rfl) rfl <| .fieldAddr (off := 2) rfl Tryz.underlying81 rfl (s := 1) (by kernel_rfl) rfl <| .fieldAddr (off := 2) rfl Tryz.underlying25 rfl (s := 0) (by kernel_rfl) rfl <| .loadB1 hh (i := 1) rfl rfl rfl Tryz.underlying3 rfl <| .move rfl <| .move rfl <| .nil) ?_
 clear Hz Az; intro Az Hz
 refine d_two 13 14 rfl rfl (by kernel_rfl) rfl rfl (fun K hK => ?_) (fun K hK => ?_)
 ·
  refine e_call Hz Tryz.func115 rfl rfl rfl rfl (rlogadd_s _ R s p s.x.te kd dd _ _ _ hb hn hdd (m3.into [(9, 9), (1, 1), (2, 2), (3, 3), (4, 4), (5, 5), (6, 6), (7, 7), (8, 8)] (by decide) rfl)) ?_
  rintro e w17 ⟨p1, pr, cr, rfl, hm17⟩
  have mx17 := m3.back hm17 [(1, 1), (2, 2), (3, 3), (4, 4), (5, 5), (6, 6), (7, 7), (8, 8), (9, 9)] (by decide); clear hm17 m3
  have m17 : MemOk _ _ [(1, _), (2, _), (3, _), (4, _), (5, _), (6, _), (7, _), (8, _), (9, _)] _ := mx17.only [1, 2, 3, 4, 5, 6, 7, 8, 9]; clear mx17
  refine ⟨_, rfl, ?_⟩; clear Hz Az; intro Az Hz
  refine hK _ _ (fun h => (Bool.false_ne_true (h.symm.trans (by rfl))).elim) ?_; clear hK K
  refine stepE_end 14 rfl (by kernel_rfl) rfl (by rfl) (fun K hK => ?_)
  refine e_alloc Hz m17 20 zc62rad rfl ?_
  clear Hz Az m17; intro g19 Az w20 Hz m20 hB20 hg20
  clear hB20 hg20
  refine hK _ _ ?_; clear hK K
  refine stepE_end 15 rfl (by kernel_rfl) rfl (by rfl) (fun K hK => ?_)
  refine e_storeW Hz m20 20 rfl rfl rfl rfl rfl sz62rad ?_
  clear m20; intro w21 m21 hB21
  clear hB21
  refine hK _ _ ?_; clear hK K
  refine wpAnyE_done (by kernel_rfl) ?_ _
  refine hK0 _ _ ?_; clear hK0; try clear K0
  replace Hz : Has 30 [(0, _), (6, _), (7, _)] Az := Hz.only [0, 6, 7]
  refine wp_seq_k (fun K1 hK1 => ?_)
  refine wp_region_lit ?_
  refine goCh Hz (.move rfl <| .loadBR m21 (i := 20) rfl rfl Tryz.underlying62 rfl sz62rad (by simp) (by dsimp only [List.drop, List.take] <;> rfl) <| .buildG rfl zc118rad ps118rad rfl <| .nil) ?_
  clear Hz Az; intro Az Hz
  refine wpList_plain rfl (fun K hK => ?_)
  refine e_call Hz Tryz.func73 rfl rfl rfl rfl (rsaveE_s _ R { s with es := s.es ++ [newE s kd dd] } p1 (lastS s + 1) s.x.te kd dd _ _ _ hQ (m21.into [(9, 9), (1, 1), (2, 2), (3, 3), (4, 4), (5, 5), (6, 6), (7, 7), (8, 8)] (by decide) rfl)) ?_
  rintro e w29 ⟨p2, rfl, hm29⟩
  have mx29 := m21.back hm29 [(1, 1), (2, 2), (3, 3), (4, 4), (5, 5), (6, 6), (7, 7), (8, 8)] (by decide); clear hm29 m21
  have m29 : MemOk _ _ [(1, _), (2, _), (3, _), (4, _), (5, _), (6, _), (7, _), (8, _), (20, _)] _ := mx29.only [1, 2, 3, 4, 5, 6, 7, 8, 20]; clear mx29
  refine ⟨_, rfl, ?_⟩; clear Hz Az; intro Az Hz
  refine hK _ _ ?_; clear hK K
  refine wpList_nil ?_
  refine hK1 _ _ ?_; clear hK1; try clear K1
  refine wp_seq_k (fun K2 hK2 => ?_)
  refine wp_region_lit ?_
  refine goCh Hz (.move rfl .nil) ?_
  clear Hz Az; intro Az Hz
  refine wpList_plain rfl (fun K hK => ?_)
  refine e_call Hz Tryz.func116 rfl rfl rfl rfl (rcount_s _ R (addE s kd dd) p2 _ (hb.snoc hn hdd hdb) hc (by rw [add_last]; show lastS s + 1 - s.x.co ≤ 1000; omega) (m29.into [(1, 1), (2, 2), (3, 3), (4, 4), (5, 5), (6, 6), (7, 7), (8, 8)] (by decide) rfl)) ?_
  rintro e w33 ⟨p3, rfl, hm33⟩
  have mx33 := m29.back hm33 [(1, 1), (2, 2), (3, 3), (4, 4), (5, 5), (6, 6), (7, 7), (8, 8)] (by decide); clear hm33 m29
  have m33 : MemOk _ _ [(1, _), (2, _), (3, _), (4, _), (5, _), (6, _), (7, _), (8, _), (20, _)] _ := mx33.only [1, 2, 3, 4, 5, 6, 7, 8, 20]; clear mx33
  refine ⟨_, rfl, ?_⟩; clear Hz Az; intro Az Hz
  refine hK _ _ ?_; clear hK K
  refine wpList_nil ?_
  refine hK2 _ _ ?_; clear hK2; try clear K2
  replace Hz : Has 30 [(6, _), (7, _)] Az := Hz.only [6, 7]
  refine regS Hz (.fieldAddr (off := 0) rfl Tryz.underlying62 rfl (s := 0) (by kernel_rfl) rfl <| .loadB1 m33 (i := 20) rfl rfl rfl Tryz.underlying3 rfl <| .assign rfl <| .nil) ?_
  clear Hz Az; intro Az Hz
  refine wp_ret ?_
  try dsimp only [Exit.then, Exit.inBlock]
  refine (ret1 (fn := Tryz.f70) Hz rfl rfl ?_)
  exact ⟨p3, rfl, m33.only [1, 2, 3, 4, 5, 6, 7, 8]⟩
 ·
  refine e_alloc Hz m3 20 zc62rad rfl ?_
  clear Hz Az m3; intro g39 Az w40 Hz m40 hB40 hg40
  clear hB40 hg40
  refine hK _ _ (fun _ => (m40.to ⟨il, il, il, il, il, il, il, il, il, trivial⟩)) ?_; clear hK K
  refine stepE_end 13 rfl (by kernel_rfl) rfl (by rfl) (fun K hK => ?_)
  refine e_call Hz Tryz.func115 rfl rfl rfl rfl (rlogadd_s _ R s p s.x.te kd dd _ _ _ hb hn hdd (m40.into [(9, 9), (1, 1), (2, 2), (3, 3), (4, 4), (5, 5), (6, 6), (7, 7), (8, 8)] (by decide) rfl)) ?_
  rintro e w41 ⟨p1, pr, cr, rfl, hm41⟩
  have mx41 := m40.back hm41 [(1, 1), (2, 2), (3, 3), (4, 4), (5, 5), (6, 6), (7, 7), (8, 8), (9, 9)] (by decide); clear hm41 m40
  have m41 : MemOk _ _ [(1, _), (2, _), (3, _), (4, _), (5, _), (6, _), (7, _), (8, _), (9, _), (20, _)] _ := mx41.only [1, 2, 3, 4, 5, 6, 7, 8, 9, 20]; clear mx41
  refine ⟨_, rfl, ?_⟩; clear Hz Az; intro Az Hz
  refine hK _ _ ?_; clear hK K
  refine stepE_end 15 rfl (by kernel_rfl) rfl (by rfl) (fun K hK => ?_)
  refine e_storeW Hz m41 20 rfl rfl rfl rfl rfl sz62rad ?_
  clear m41; intro w43 m43 hB43
  clear hB43
  refine hK _ _ ?_; clear hK K
  refine wpAnyE_done (by kernel_rfl) ?_ _
  refine hK0 _ _ ?_; clear hK0; try clear K0
  replace Hz : Has 30 [(0, _), (6, _), (7, _)] Az := Hz.only [0, 6, 7]
  refine wp_seq_k (fun K3 hK3 => ?_)
  refine wp_region_lit ?_
  refine goCh Hz (.move rfl <| .loadBR m43 (i := 20) rfl rfl Tryz.underlying62 rfl sz62rad (by simp) (by dsimp only [List.drop, List.take] <;> rfl) <| .buildG rfl zc118rad ps118rad rfl <| .nil) ?_
  clear Hz Az; intro Az Hz
  refine wpList_plain rfl (fun K hK => ?_)
  refine e_call Hz Tryz.func73 rfl rfl rfl rfl (rsaveE_s _ R { s with es := s.es ++ [newE s kd dd] } p1 (lastS s + 1) s.x.te kd dd _ _ _ hQ (m43.into [(9, 9), (1, 1), (2, 2), (3, 3), (4, 4), (5, 5), (6, 6), (7, 7), (8, 8)] (by decide) rfl)) ?_
  rintro e w51 ⟨p2, rfl, hm51⟩
  have mx51 := m43.back hm51 [(1, 1), (2, 2), (3, 3), (4, 4), (5, 5), (6, 6), (7, 7), (8, 8)] (by decide); clear hm51 m43
  have m51 : MemOk _ _ [(1, _), (2, _), (3, _), (4, _), (5, _), (6, _), (7, _), (8, _), (20, _)] _ := mx51.only [1, 2, 3, 4, 5, 6, 7, 8, 20]; clear mx51
  refine ⟨_, rfl, ?_⟩; clear Hz Az; intro Az Hz
  refine hK _ _ ?_; clear hK K
  refine wpList_nil ?_
  refine hK3 _ _ ?_; clear hK3; try clear K3
  refine wp_seq_k (fun K4 hK4 => ?_)
  refine wp_region_lit ?_
  refine goCh Hz (.move rfl .nil) ?_
  clear Hz Az; intro Az Hz
  refine wpList_plain rfl (fun K hK => ?_)
  refine e_call Hz Tryz.func116 rfl rfl rfl rfl (rcount_s _ R (addE s kd dd) p2 _ (hb.snoc hn hdd hdb) hc (by rw [add_last]; show lastS s + 1 - s.x.co ≤ 1000; omega) (m51.into [(1, 1), (2, 2), (3, 3), (4, 4), (5, 5), (6, 6), (7, 7), (8, 8)] (by decide) rfl)) ?_
  rintro e w55 ⟨p3, rfl, hm55⟩
  have mx55 := m51.back hm55 [(1, 1), (2, 2), (3, 3), (4, 4), (5, 5), (6, 6), (7, 7), (8, 8)] (by decide); clear hm55 m51
  have m55 : MemOk _ _ [(1, _), (2, _), (3, _), (4, _), (5, _), (6, _), (7, _), (8, _), (20, _)] _ := mx55.only [1, 2, 3, 4, 5, 6, 7, 8, 20]; clear mx55
  refine ⟨_, rfl, ?_⟩; clear Hz Az; intro Az Hz
  refine hK _ _ ?_; clear hK K
  refine wpList_nil ?_
  refine hK4 _ _ ?_; clear hK4; try clear K4
  replace Hz : Has 30 [(6, _), (7, _)] Az := Hz.only [6, 7]
  refine regS Hz (.fieldAddr (off := 0) rfl Tryz.underlying62 rfl (s := 0) (by kernel_rfl) rfl <| .loadB1 m55 (i := 20) rfl rfl rfl Tryz.underlying3 rfl <| .assign rfl <| .nil) ?_
  clear Hz Az; intro Az Hz
  refine wp_ret ?_
  try dsimp only [Exit.then, Exit.inBlock]
  refine (ret1 (fn := Tryz.f70) Hz rfl rfl ?_)
  exact ⟨p3, rfl, m55.only [1, 2, 3, 4, 5, 6, 7, 8]⟩
theorem radd0_s (X : Cx) (R : Nat) (s : RS) (p : RP) (kd : Int) (w0 : World) (hb : RLS s) (hn : s.es.length < 100000) (hQ : s.rs.length ≤ 1000000) (hc : -1000000000 ≤ s.x.co ∧ s.x.co ≤ 1000000000) (hd : lastS s - s.x.co ≤ 900) (m0 : MemOk X w0 (rfM R s p) w0) :
   Calls Tryz.prog 70 #[.pointer (some ⟨R, 0, none⟩), .int .i64 kd, .slice none 0 0] w0 fun e w' => ∃ p', e = .returned (.int .i64 (lastS s + 1)) ∧ MemOk X w0 (rfM R (addS s kd []) p') w' := by
 have m1 := m0.dat 9 rfl (Rd.nilN _ _ .u8 none)
 exact radd_s X R s p kd [] none 0 w0 hb hn (by decide) (by intro z hz; cases hz) hQ hc hd m1
theorem rwin_s (X : Cx) (R : Nat) (s : RS) (p : RP) (w0 : World) (hb : RLS s) (hn : s.es.length < 100000) (hQ : s.rs.length ≤ 1000000) (hc : -1000000000 ≤ s.x.co ∧ s.x.co ≤ 1000000000) (hd : lastS s - s.x.co ≤ 900) (hM : s.ms.length ≤ 900000) (m0 : MemOk X w0 (rfM R s p) w0) :
   Calls Tryz.prog 136 #[.pointer (some ⟨R, 0, none⟩)] w0 fun e w' => ∃ p', e = .returned (.tuple #[]) ∧ MemOk X w0 (rfM R (winS s) p') w' := by
 refine enter (fn := Tryz.f136) Tryz.func136 rfl Tryz.ntmps136 rfl (fun Az Hz => ?_)
 simp only [List.zipIdx_cons, List.zipIdx_nil, List.map_cons, List.map_nil, Nat.reduceAdd, Nat.zero_add] at Hz
 have hlb := lastS_bd s hb
 have hbi := hb.b
 have hes := hb.n
 refine wp_seq_k (fun K0 hK0 => ?_)
 refine wp_region_lit ?_
 refine goCh Hz (.move rfl <| .move rfl <| .move rfl <| .nilCheck rfl <| .fieldAddr (off := 0) rfl Tryz.underlying86 rfl (s := 4) (by kernel_rfl) rfl <| .fieldAddr (off := 0) rfl Tryz.underlying81 rfl (s := 0) (by kernel_rfl) rfl <| .loadB1 m0 (i := 1) rfl rfl rfl Tryz.underlying3 rfl <| .nilCheck rfl <| .fieldAddr (off := 20) rfl Tryz.underlying86 rfl (s := 0) (by kernel_rfl) rfl <| .nil) ?_
 clear Hz Az; intro Az Hz
 refine wpList_plain rfl (fun K hK => ?_)
 refine e_store1 Hz m0 1 rfl rfl rfl rfl rfl sz3rwi (by dsimp only [List.set] <;> rfl) ?_
 clear m0; intro w19 m19 hB19
 clear hB19
 refine hK _ _ ?_; clear hK K
 refine goCh Hz (.nilCheck rfl <| .fieldAddr (off := 21) rfl Tryz.underlying86 rfl (s := 0) (by kernel_rfl) rfl <| .nil) ?_
 clear Hz Az; intro Az Hz
 refine wpList_plain rfl (fun K hK => ?_)
 refine e_store1 Hz m19 1 rfl rfl rfl rfl rfl sz3rwi (by dsimp only [List.set] <;> rfl) ?_
 clear m19; intro w22 m22 hB22
 clear hB22
 refine hK _ _ ?_; clear hK K
 refine wpList_nil ?_
 refine hK0 _ _ ?_; clear hK0; try clear K0
 refine wp_seq_k (fun K1 hK1 => ?_)
 replace Hz : Has 29 [(0, _)] Az := Hz.only [0]
 have m24 : MemOk _ _ [(1, _), (2, _), (3, _), (4, _), (5, _), (6, _), (7, _), (8, _)] _ := m22.only [1, 2, 3, 4, 5, 6, 7, 8]; clear m22
 refine region_p 11 (B := [(1, _), (2, _), (3, _), (4, _), (5, _), (6, _), (7, _), (8, _)]) (m24.to ⟨il, il, il, il, il, il, il, il, trivial⟩) m24 (by kernel_rfl) (fun w25 hP25 m25 => ?_); clear m24
 refine goR hP25 [0, 1, 2, 3, 4, 5, 6, 7, 8, 9] [7] 10 0 1023 Hz (m25.to ⟨il, il, il, il, il, il, il, il, trivial⟩) (.move rfl <| .nilCheck rfl <| .fieldAddr (off := 5) rfl Tryz.underlying86 rfl (s := 14) (by kernel_rfl) rfl <| .move rfl <| .nilCheck rfl <| .fieldAddr (off := 0) rfl Tryz.underlying86 rfl (s := 4) (by kernel_rfl) rfl <| .fieldAddr (off := 4) rfl Tryz.underlying81 rfl (s := 0) (by kernel_rfl) rfl <| .loadB1 hh (i := 1) rfl rfl rfl Tryz.underlying79 rfl <| .nilCheck rfl <| .fieldAddr (off := 0) rfl Tryz.underlying123 rfl (s := 4) (by kernel_rfl) rfl <| .nil) ?_
 clear Hz Az; intro Az Hz
 refine stepE_only 10 rfl (by kernel_rfl) rfl (fun K hK => ?_)
 refine e_call Hz Tryz.func75 rfl rfl rfl rfl (rlast_s R (withX s { s.x with ro := 3, le := s.x.id }) p _ (rfM_is (withX s { s.x with ro := 3, le := s.x.id }) p (m25.into [(1, 1), (2, 2), (3, 3), (4, 4), (5, 5), (6, 6), (7, 7), (8, 8)] (by decide) rfl)) hb) ?_
 rintro e w36 ⟨rfl, hb36⟩
 have m37 := m25.later hb36
 clear m25
 clear hb36
 refine ⟨_, rfl, ?_⟩; clear Hz Az; intro Az Hz
 refine hK _ _ (m37.to ⟨il, il, il, il, il, il, il, il, trivial⟩) ?_; clear hK K
 refine stepE_end 11 rfl (by kernel_rfl) rfl (by rfl) (fun K hK => ?_)
 refine e_call Hz Tryz.func152 rfl rfl rfl rfl (rbegin_s _ R (withX s { s.x with ro := 3, le := s.x.id }) p (lastS s) _ (by omega) (m37.into [(1, 1), (2, 2), (3, 3), (4, 4), (5, 5), (6, 6), (7, 7), (8, 8)] (by decide) rfl)) ?_
 rintro e w39 ⟨p1, rfl, hm39⟩
 have mx39 := m37.back hm39 [(1, 1), (2, 2), (3, 3), (4, 4), (5, 5), (6, 6), (7, 7), (8, 8)] (by decide); clear hm39 m37
 have m39 : MemOk _ _ [(1, _), (2, _), (3, _), (4, _), (5, _), (6, _), (7, _), (8, _)] _ := mx39.only [1, 2, 3, 4, 5, 6, 7, 8]; clear mx39
 refine ⟨_, rfl, ?_⟩; clear Hz Az; intro Az Hz
 refine hK _ _ ?_; clear hK K
 refine wpAnyE_done (by kernel_rfl) ?_ _
 refine hK1 _ _ ?_; clear hK1; try clear K1
 replace Hz : Has 29 [(0, _)] Az := Hz.only [0]
 refine wp_seq_k (fun K2 hK2 => ?_)
 refine wp_region_lit ?_
 refine goCh Hz (.move rfl .nil) ?_
 clear Hz Az; intro Az Hz
 refine wpList_plain rfl (fun K hK => ?_)
 refine e_call Hz Tryz.func70 rfl rfl rfl rfl (radd0_s _ R (withX s (begX { s.x with ro := 3, le := s.x.id } (lastS s))) p1 0 _ hb hn hQ hc hd (m39.into [(1, 1), (2, 2), (3, 3), (4, 4), (5, 5), (6, 6), (7, 7), (8, 8)] (by decide) rfl)) ?_
 rintro e w44 ⟨p2, rfl, hm44⟩
 have mx44 := m39.back hm44 [(1, 1), (2, 2), (3, 3), (4, 4), (5, 5), (6, 6), (7, 7), (8, 8)] (by decide); clear hm44 m39
 have m44 : MemOk _ _ [(1, _), (2, _), (3, _), (4, _), (5, _), (6, _), (7, _), (8, _)] _ := mx44.only [1, 2, 3, 4, 5, 6, 7, 8]; clear mx44
 refine ⟨_, rfl, ?_⟩; clear Hz Az; intro Az Hz
 refine hK _ _ ?_; clear hK K
 refine wpList_nil ?_
 refine hK2 _ _ ?_; clear hK2; try clear K2
 refine wp_region_lit ?_
 refine goCh Hz (.move rfl .nil) ?_
 clear Hz Az; intro Az Hz
 refine wpList_plain rfl (fun K hK => ?_)
 refine e_call Hz Tryz.func46 rfl rfl rfl rfl (rtell_s _ R (addS (withX s (begX { s.x with ro := 3, le := s.x.id } (lastS s))) 0 []) p2 _ (hb.snoc hn (by decide) (by intro z hz; cases hz)) hM (win_nx s hb) (m44.into [(1, 1), (2, 2), (3, 3), (4, 4), (5, 5), (6, 6), (7, 7), (8, 8)] (by decide) rfl)) ?_
 rintro e w47 ⟨p3, rfl, hm47⟩
 have mx47 := m44.back hm47 [(1, 1), (2, 2), (3, 3), (4, 4), (5, 5), (6, 6), (7, 7), (8, 8)] (by decide); clear hm47 m44
 have m47 : MemOk _ _ [(1, _), (2, _), (3, _), (4, _), (5, _), (6, _), (7, _), (8, _)] _ := mx47.only [1, 2, 3, 4, 5, 6, 7, 8]; clear mx47
 refine ⟨_, rfl, ?_⟩; clear Hz Az; intro Az Hz
 refine hK _ _ ?_; clear hK K
 refine wpList_nil ?_
 try dsimp only [Exit.then]
 try refine out_here ?_
 refine (ret0 (fn := Tryz.f136) Hz rfl ?_)
 exact ⟨p3, rfl, m47.only [1, 2, 3, 4, 5, 6, 7, 8]⟩
theorem rstand_s (X : Cx) (R : Nat) (s : RS) (p : RP) (w0 : World) (hk : ROk s) (m0 : MemOk X w0 (rfM R s p) w0) :
   Calls Tryz.prog 91 #[.pointer (some ⟨R, 0, none⟩)] w0 fun e w' => ∃ p', e = .returned (.tuple #[]) ∧ MemOk X w0 (rfM R (standS s) p') w' := by
 refine enter (fn := Tryz.f91) Tryz.func91 rfl Tryz.ntmps91 rfl (fun Az Hz => ?_)
 simp only [List.zipIdx_cons, List.zipIdx_nil, List.map_cons, List.map_nil, Nat.reduceAdd, Nat.zero_add] at Hz
 have hte := hk.te
 refine wp_seq_k (fun K0 hK0 => ?_)
 have m1 : MemOk _ _ [(1, _), (2, _), (3, _), (4, _), (5, _), (6, _), (7, _), (8, _)] _ := m0.only [1, 2, 3, 4, 5, 6, 7, 8]; clear m0
 refine region_p 17 (B := [(1, _), (2, _), (3, _), (4, _), (5, _), (6, _), (7, _), (8, _)]) (m1.to ⟨il, il, il, il, il, il, il, il, trivial⟩) m1 (by kernel_rfl) (fun w2 hP2 m2 => ?_); clear m1
 refine goR hP2 [0, 1, 2, 3, 4, 5, 6, 7, 8, 9, 10, 11, 12, 13, 14, 15, 16] [6, 12] 17 0 131071 Hz (m2.to ⟨il, il, il, il, il, il, il, il, trivial⟩) (.move rfl <| .move rfl <| .nilCheck rfl <| .fieldAddr (off := 0) rfl Tryz.underlying86 rfl (s := 4) (by kernel_rfl) rfl <| .fieldAddr (off := 2) rfl Tryz.underlying81 rfl (s := 1) (by kernel_rfl) rfl <| .fieldAddr (off := 2) rfl Tryz.underlying25 rfl (s := 0) (by kernel_rfl) rfl <| .loadB1 hh (i := 1) rfl rfl rfl Tryz.underlying3 rfl <| .add rfl rfl (IntWalk.i64_in _ (by omega)) <| .move rfl <| .nilCheck rfl <| .fieldAddr (off := 0) rfl Tryz.underlying86 rfl (s := 4) (by kernel_rfl) rfl <| .fieldAddr (off := 0) rfl Tryz.underlying81 rfl (s := 0) (by kernel_rfl) rfl <| .loadB1 hh (i := 1) rfl rfl rfl Tryz.underlying3 rfl <| .build rfl zc25rst fl25rst rfl (by dsimp only [setL, List.set] <;> rfl) <| .nilCheck rfl <| .fieldAddr (off := 0) rfl Tryz.underlying86 rfl (s := 4) (by kernel_rfl) rfl <| .fieldAddr (off := 2) rfl Tryz.underlying81 rfl (s := 1) (by kernel_rfl) rfl <| .nil) ?_
 clear Hz Az; intro Az Hz
 refine stepE_end 17 rfl (by kernel_rfl) rfl (by rfl) (fun K hK => ?_)
 refine e_storeR Hz m2 1 rfl rfl rfl rfl rfl sz25rst (by dsimp only [List.take, List.drop, List.append_eq, List.append] <;> rfl) ?_
 clear m2; intro w20 m20 hB20
 clear hB20
 refine hK _ _ ?_; clear hK K
 refine wpAnyE_done (by kernel_rfl) ?_ _
 refine hK0 _ _ ?_; clear hK0; try clear K0
 replace Hz : Has 35 [(0, _)] Az := Hz.only [0]
 refine wp_seq_k (fun K1 hK1 => ?_)
 refine wp_region_lit ?_
 refine goCh Hz (.move rfl .nil) ?_
 clear Hz Az; intro Az Hz
 refine wpList_plain rfl (fun K hK => ?_)
 refine e_call Hz Tryz.func135 rfl rfl rfl rfl (rsaveHard_s _ R (withX s { s.x with te := s.x.te + 1, vo := s.x.id }) p _ (by have := hk.rs; show s.rs.length ≤ 1000000; omega) (m20.into [(1, 1), (2, 2), (3, 3), (4, 4), (5, 5), (6, 6), (7, 7), (8, 8)] (by decide) rfl)) ?_
 rintro e w24 ⟨p1, rfl, hm24⟩
 have mx24 := m20.back hm24 [(1, 1), (2, 2), (3, 3), (4, 4), (5, 5), (6, 6), (7, 7), (8, 8)] (by decide); clear hm24 m20
 have m24 : MemOk _ _ [(1, _), (2, _), (3, _), (4, _), (5, _), (6, _), (7, _), (8, _)] _ := mx24.only [1, 2, 3, 4, 5, 6, 7, 8]; clear mx24
 refine ⟨_, rfl, ?_⟩; clear Hz Az; intro Az Hz
 refine hK _ _ ?_; clear hK K
 refine wpList_nil ?_
 refine hK1 _ _ ?_; clear hK1; try clear K1
 refine wp_seq_k (fun K2 hK2 => ?_)
 refine wp_region_lit ?_
 refine goCh Hz (.move rfl .nil) ?_
 clear Hz Az; intro Az Hz
 refine wpList_plain rfl (fun K hK => ?_)
 refine e_call Hz Tryz.func89 rfl rfl rfl rfl (rrun_s _ R (hardS (withX s { s.x with te := s.x.te + 1, vo := s.x.id })) p1 2 _ (m24.into [(1, 1), (2, 2), (3, 3), (4, 4), (5, 5), (6, 6), (7, 7), (8, 8)] (by decide) rfl)) ?_
 rintro e w28 ⟨p2, rfl, hm28⟩
 have mx28 := m24.back hm28 [(1, 1), (2, 2), (3, 3), (4, 4), (5, 5), (6, 6), (7, 7), (8, 8)] (by decide); clear hm28 m24
 have m28 : MemOk _ _ [(1, _), (2, _), (3, _), (4, _), (5, _), (6, _), (7, _), (8, _)] _ := mx28.only [1, 2, 3, 4, 5, 6, 7, 8]; clear mx28
 refine ⟨_, rfl, ?_⟩; clear Hz Az; intro Az Hz
 refine hK _ _ ?_; clear hK K
 refine wpList_nil ?_
 refine hK2 _ _ ?_; clear hK2; try clear K2
 refine wp_seq_k (fun K3 hK3 => ?_)
 refine wp_seq_k (fun K4 hK4 => ?_)
 refine wp_region_lit ?_
 refine goCh Hz (.move rfl .nil) ?_
 clear Hz Az; intro Az Hz
 refine wpList_plain rfl (fun K hK => ?_)
 refine e_call Hz Tryz.func90 rfl rfl rfl rfl (rfav_s R (runS (hardS (withX s { s.x with te := s.x.te + 1, vo := s.x.id })) 2) p2 _ (rfM_is (runS (hardS (withX s { s.x with te := s.x.te + 1, vo := s.x.id })) 2) p2 (m28.into [(1, 1), (2, 2), (3, 3), (4, 4), (5, 5), (6, 6), (7, 7), (8, 8)] (by decide) rfl)) hk.l (by show 1 ≤ 900; decide)) ?_
 rintro e w32 ⟨rfl, hb32⟩
 have m33 := m28.later hb32
 clear m28
 clear hb32
 refine ⟨_, rfl, ?_⟩; clear Hz Az; intro Az Hz
 refine hK _ _ ?_; clear hK K
 refine wpList_nil ?_
 refine hK4 _ _ ?_; clear hK4; try clear K4
 refine bool_cases Hz (t := 24) rfl ?_ ?_
 ·
  clear Hz; intro hb35 Hz
  try simp only [Q1x, Q2x, Q3x, Q4x, Q5x, Q6x, Q7x, Q8x, Q9x, Q0x, Qax, Qbx] at hb35
  refine wp_cond_true (Hz.ev (x := .tmp 24) rfl) ?_
  refine wp_seq_k (fun K5 hK5 => ?_)
  refine wp_region_lit ?_
  refine goCh Hz (.move rfl .nil) ?_
  clear Hz Az; intro Az Hz
  refine wpList_plain rfl (fun K hK => ?_)
  refine e_call Hz Tryz.func136 rfl rfl rfl rfl (rwin_s _ R (runS (hardS (withX s { s.x with te := s.x.te + 1, vo := s.x.id })) 2) p2 _ hk.l (Nat.lt_of_lt_of_le hk.n (by decide)) (by show (s.rs ++ [_]).length ≤ _; have := hk.rs; rw [List.length_append]; simp; omega) hk.co hk.ld (by have := hk.ms; show s.ms.length ≤ _; omega) (m33.into [(1, 1), (2, 2), (3, 3), (4, 4), (5, 5), (6, 6), (7, 7), (8, 8)] (by decide) rfl)) ?_
  rintro e w38 ⟨p3, rfl, hm38⟩
  have mx38 := m33.back hm38 [(1, 1), (2, 2), (3, 3), (4, 4), (5, 5), (6, 6), (7, 7), (8, 8)] (by decide); clear hm38 m33
  have m38 : MemOk _ _ [(1, _), (2, _), (3, _), (4, _), (5, _), (6, _), (7, _), (8, _)] _ := mx38.only [1, 2, 3, 4, 5, 6, 7, 8]; clear mx38
  refine ⟨_, rfl, ?_⟩; clear Hz Az; intro Az Hz
  refine hK _ _ ?_; clear hK K
  refine wpList_nil ?_
  refine hK5 _ _ ?_; clear hK5; try clear K5
  refine wp_ret ?_
  try dsimp only [Exit.then, Exit.inBlock]
  refine (ret0r (fn := Tryz.f91) Hz rfl ?_)
  refine ⟨p3, rfl, ?_⟩
  rw [stand_yes s hb35]
  exact m38.only [1, 2, 3, 4, 5, 6, 7, 8]
 ·
  clear Hz; intro hb35 Hz
  try simp only [Q1x, Q2x, Q3x, Q4x, Q5x, Q6x, Q7x, Q8x, Q9x, Q0x, Qax, Qbx] at hb35
  refine wp_cond_false (Hz.ev (x := .tmp 24) rfl) ?_
  refine wp_skip ?_
  refine hK3 _ _ ?_; clear hK3; try clear K3
  refine wp_region_lit ?_
  refine goCh Hz (.move rfl <| .move rfl <| .nilCheck rfl <| .fieldAddr (off := 0) rfl Tryz.underlying86 rfl (s := 4) (by kernel_rfl) rfl <| .fieldAddr (off := 2) rfl Tryz.underlying81 rfl (s := 1) (by kernel_rfl) rfl <| .fieldAddr (off := 2) rfl Tryz.underlying25 rfl (s := 0) (by kernel_rfl) rfl <| .loadB1 m33 (i := 1) rfl rfl rfl Tryz.underlying3 rfl <| .nil) ?_
  clear Hz Az; intro Az Hz
  refine wpList_plain rfl (fun K hK => ?_)
  refine e_call Hz Tryz.func92 rfl rfl rfl rfl (rcanvass_s _ R (runS (hardS (withX s { s.x with te := s.x.te + 1, vo := s.x.id })) 2) p2 3 (s.x.te + 1) _ hk.l (by have := hk.ms; show s.ms.length ≤ _; omega) (m33.into [(1, 1), (2, 2), (3, 3), (4, 4), (5, 5), (6, 6), (7, 7), (8, 8)] (by decide) rfl)) ?_
  rintro e w47 ⟨p3, rfl, hm47⟩
  have mx47 := m33.back hm47 [(1, 1), (2, 2), (3, 3), (4, 4), (5, 5), (6, 6), (7, 7), (8, 8)] (by decide); clear hm47 m33
  have m47 : MemOk _ _ [(1, _), (2, _), (3, _), (4, _), (5, _), (6, _), (7, _), (8, _)] _ := mx47.only [1, 2, 3, 4, 5, 6, 7, 8]; clear mx47
  refine ⟨_, rfl, ?_⟩; clear Hz Az; intro Az Hz
  refine hK _ _ ?_; clear hK K
  refine wpList_nil ?_
  try dsimp only [Exit.then]
  try refine out_here ?_
  refine (ret0 (fn := Tryz.f91) Hz rfl ?_)
  refine ⟨p3, rfl, ?_⟩
  rw [stand_no s hb35]
  exact m47.only [1, 2, 3, 4, 5, 6, 7, 8]
theorem rask_s (X : Cx) (R : Nat) (s : RS) (p : RP) (w0 : World) (hk : ROk s) (m0 : MemOk X w0 (rfM R s p) w0) :
   Calls Tryz.prog 51 #[.pointer (some ⟨R, 0, none⟩)] w0 fun e w' => ∃ p', e = .returned (.tuple #[]) ∧ MemOk X w0 (rfM R (askS s) p') w' := by
 refine enter (fn := Tryz.f51) Tryz.func51 rfl Tryz.ntmps51 rfl (fun Az Hz => ?_)
 simp only [List.zipIdx_cons, List.zipIdx_nil, List.map_cons, List.map_nil, Nat.reduceAdd, Nat.zero_add] at Hz
 have hte := hk.te
 refine wp_seq_k (fun K0 hK0 => ?_)
 refine wp_region_lit ?_
 refine goCh Hz (.move rfl .nil) ?_
 clear Hz Az; intro Az Hz
 refine wpList_plain rfl (fun K hK => ?_)
 refine e_call Hz Tryz.func89 rfl rfl rfl rfl (rrun_s _ R s p 1 _ (m0.into [(1, 1), (2, 2), (3, 3), (4, 4), (5, 5), (6, 6), (7, 7), (8, 8)] (by decide) rfl)) ?_
 rintro e w3 ⟨p1, rfl, hm3⟩
 have mx3 := m0.back hm3 [(1, 1), (2, 2), (3, 3), (4, 4), (5, 5), (6, 6), (7, 7), (8, 8)] (by decide); clear hm3 m0
 have m3 : MemOk _ _ [(1, _), (2, _), (3, _), (4, _), (5, _), (6, _), (7, _), (8, _)] _ := mx3.only [1, 2, 3, 4, 5, 6, 7, 8]; clear mx3
 refine ⟨_, rfl, ?_⟩; clear Hz Az; intro Az Hz
 refine hK _ _ ?_; clear hK K
 refine wpList_nil ?_
 refine hK0 _ _ ?_; clear hK0; try clear K0
 refine wp_seq_k (fun K1 hK1 => ?_)
 refine wp_seq_k (fun K2 hK2 => ?_)
 refine wp_region_lit ?_
 refine goCh Hz (.move rfl .nil) ?_
 clear Hz Az; intro Az Hz
 refine wpList_plain rfl (fun K hK => ?_)
 refine e_call Hz Tryz.func90 rfl rfl rfl rfl (rfav_s R (runS s 1) p1 _ (rfM_is (runS s 1) p1 (m3.into [(1, 1), (2, 2), (3, 3), (4, 4), (5, 5), (6, 6), (7, 7), (8, 8)] (by decide) rfl)) hk.l (by show 1 ≤ 900; decide)) ?_
 rintro e w7 ⟨rfl, hb7⟩
 have m8 := m3.later hb7
 clear m3
 clear hb7
 refine ⟨_, rfl, ?_⟩; clear Hz Az; intro Az Hz
 refine hK _ _ ?_; clear hK K
 refine wpList_nil ?_
 refine hK2 _ _ ?_; clear hK2; try clear K2
 refine bool_cases Hz (t := 5) rfl ?_ ?_
 ·
  clear Hz; intro hb10 Hz
  try simp only [Q1x, Q2x, Q3x, Q4x, Q5x, Q6x, Q7x, Q8x, Q9x, Q0x, Qax, Qbx] at hb10
  refine wp_cond_true (Hz.ev (x := .tmp 5) rfl) ?_
  refine wp_seq_k (fun K3 hK3 => ?_)
  refine wp_region_lit ?_
  refine goCh Hz (.move rfl .nil) ?_
  clear Hz Az; intro Az Hz
  refine wpList_plain rfl (fun K hK => ?_)
  refine e_call Hz Tryz.func91 rfl rfl rfl rfl (rstand_s _ R (runS s 1) p1 _ (hk.run 1) (m8.into [(1, 1), (2, 2), (3, 3), (4, 4), (5, 5), (6, 6), (7, 7), (8, 8)] (by decide) rfl)) ?_
  rintro e w13 ⟨p2, rfl, hm13⟩
  have mx13 := m8.back hm13 [(1, 1), (2, 2), (3, 3), (4, 4), (5, 5), (6, 6), (7, 7), (8, 8)] (by decide); clear hm13 m8
  have m13 : MemOk _ _ [(1, _), (2, _), (3, _), (4, _), (5, _), (6, _), (7, _), (8, _)] _ := mx13.only [1, 2, 3, 4, 5, 6, 7, 8]; clear mx13
  refine ⟨_, rfl, ?_⟩; clear Hz Az; intro Az Hz
  refine hK _ _ ?_; clear hK K
  refine wpList_nil ?_
  refine hK3 _ _ ?_; clear hK3; try clear K3
  refine wp_ret ?_
  try dsimp only [Exit.then, Exit.inBlock]
  refine (ret0r (fn := Tryz.f51) Hz rfl ?_)
  refine ⟨p2, rfl, ?_⟩
  rw [ask_yes s hb10]
  exact m13.only [1, 2, 3, 4, 5, 6, 7, 8]
 ·
  clear Hz; intro hb10 Hz
  try simp only [Q1x, Q2x, Q3x, Q4x, Q5x, Q6x, Q7x, Q8x, Q9x, Q0x, Qax, Qbx] at hb10
  refine wp_cond_false (Hz.ev (x := .tmp 5) rfl) ?_
  refine wp_skip ?_
  refine hK1 _ _ ?_; clear hK1; try clear K1
  refine wp_region_lit ?_
  refine goCh Hz (.move rfl <| .move rfl <| .nilCheck rfl <| .fieldAddr (off := 0) rfl Tryz.underlying86 rfl (s := 4) (by kernel_rfl) rfl <| .fieldAddr (off := 2) rfl Tryz.underlying81 rfl (s := 1) (by kernel_rfl) rfl <| .fieldAddr (off := 2) rfl Tryz.underlying25 rfl (s := 0) (by kernel_rfl) rfl <| .loadB1 m8 (i := 1) rfl rfl rfl Tryz.underlying3 rfl <| .add rfl rfl (r := s.x.te + 1) (IntWalk.i64_in (s.x.te + 1) (by omega)) <| .nil) ?_
  clear Hz Az; intro Az Hz
  refine wpList_plain rfl (fun K hK => ?_)
  refine e_call Hz Tryz.func92 rfl rfl rfl rfl (rcanvass_s _ R (runS s 1) p1 1 (s.x.te + 1) _ hk.l (by have := hk.ms; show s.ms.length ≤ _; omega) (m8.into [(1, 1), (2, 2), (3, 3), (4, 4), (5, 5), (6, 6), (7, 7), (8, 8)] (by decide) rfl)) ?_
  rintro e w23 ⟨p2, rfl, hm23⟩
  have mx23 := m8.back hm23 [(1, 1), (2, 2), (3, 3), (4, 4), (5, 5), (6, 6), (7, 7), (8, 8)] (by decide); clear hm23 m8
  have m23 : MemOk _ _ [(1, _), (2, _), (3, _), (4, _), (5, _), (6, _), (7, _), (8, _)] _ := mx23.only [1, 2, 3, 4, 5, 6, 7, 8]; clear mx23
  refine ⟨_, rfl, ?_⟩; clear Hz Az; intro Az Hz
  refine hK _ _ ?_; clear hK K
  refine wpList_nil ?_
  try dsimp only [Exit.then]
  try refine out_here ?_
  refine (ret0 (fn := Tryz.f51) Hz rfl ?_)
  refine ⟨p2, rfl, ?_⟩
  rw [ask_no s hb10]
  exact m23.only [1, 2, 3, 4, 5, 6, 7, 8]
theorem rtick_s (X : Cx) (R : Nat) (s : RS) (p : RP) (w0 : World) (hk : ROk s) (hnx : s.x.ro = 3 → ∀ n ∈ othS s, s.bi < nx s.x n ∧ nx s.x n ≤ 1000000000000000000) (m0 : MemOk X w0 (rfM R s p) w0) :
   Calls Tryz.prog 18 #[.pointer (some ⟨R, 0, none⟩)] w0 fun e w' => ∃ p' o', e = .returned (.agg #[.slice o'.pm ((tickS s).ms.map rmD).length o'.cm, .slice o'.pq ((tickS s).rs.map rrD).length o'.cq, .bool (tickS s).re]) ∧ MemOk X w0 (ouM (tickS s) o' (rfM R (clrS (tickS s)) (nilP p'))) w' := by
 refine enter (fn := Tryz.f18) Tryz.func18 rfl Tryz.ntmps18 rfl (fun Az Hz => ?_)
 simp only [List.zipIdx_cons, List.zipIdx_nil, List.map_cons, List.map_nil, Nat.reduceAdd, Nat.zero_add] at Hz
 have hte := hk.te
 have hid := hk.id
 have hsi := hk.si
 have hbe := hk.be
 refine wp_seq_k (fun K0 hK0 => ?_)
 refine wp_region_lit ?_
 refine wpList_plain rfl (fun K hK => ?_)
 refine e_alloc Hz m0 20 zc46rti rfl ?_
 clear Hz Az m0; intro g1 Az w2 Hz m2 hB2 hg2
 clear hB2 hg2
 refine hK _ _ ?_; clear hK K
 refine wpList_nil ?_
 refine hK0 _ _ ?_; clear hK0; try clear K0
 refine wp_seq_k (fun K1 hK1 => ?_)
 refine regS Hz (.move rfl <| .nilCheck rfl <| .fieldAddr (off := 20) rfl Tryz.underlying86 rfl (s := 0) (by kernel_rfl) rfl <| .loadB1 m2 (i := 1) rfl rfl rfl Tryz.underlying3 rfl <| .eql rfl rfl <| .nil) ?_
 clear Hz Az; intro Az Hz
 refine bool_cases Hz (t := 7) rfl ?_ ?_
 ·
  clear Hz; intro hb8 Hz
  try simp only [Q1x, Q2x, Q3x, Q4x, Q5x, Q6x, Q7x, Q8x, Q9x, Q0x, Qax, Qbx] at hb8
  refine wp_cond_true (Hz.ev (x := .tmp 7) rfl) ?_
  refine wp_seq_k (fun K2 hK2 => ?_)
  refine wp_region_lit ?_
  refine goCh Hz (.move rfl <| .nilCheck rfl <| .fieldAddr (off := 5) rfl Tryz.underlying86 rfl (s := 14) (by kernel_rfl) rfl <| .fieldAddr (off := 5) rfl Tryz.underlying84 rfl (s := 0) (by kernel_rfl) rfl <| .loadB1 m2 (i := 1) rfl rfl rfl Tryz.underlying3 rfl <| .add rfl rfl (IntWalk.i64_in _ (by omega)) <| .nilCheck rfl <| .fieldAddr (off := 5) rfl Tryz.underlying86 rfl (s := 14) (by kernel_rfl) rfl <| .fieldAddr (off := 5) rfl Tryz.underlying84 rfl (s := 0) (by kernel_rfl) rfl <| .nil) ?_
  clear Hz Az; intro Az Hz
  refine wpList_plain rfl (fun K hK => ?_)
  refine e_store1 Hz m2 1 rfl rfl rfl rfl rfl sz3rti (by dsimp only [List.set] <;> rfl) ?_
  clear m2; intro w27 m27 hB27
  clear hB27
  refine hK _ _ ?_; clear hK K
  refine wpList_nil ?_
  refine hK2 _ _ ?_; clear hK2; try clear K2
  refine wp_seq_k (fun K3 hK3 => ?_)
  replace Hz : Has 71 [(0, _), (2, _), (7, _)] Az := Hz.only [0, 2, 7]
  refine regS Hz (.move rfl <| .nilCheck rfl <| .fieldAddr (off := 5) rfl Tryz.underlying86 rfl (s := 14) (by kernel_rfl) rfl <| .fieldAddr (off := 5) rfl Tryz.underlying84 rfl (s := 0) (by kernel_rfl) rfl <| .loadB1 m27 (i := 1) rfl rfl rfl Tryz.underlying3 rfl <| .rem rfl rfl (by omega) rfl <| .eql rfl rfl <| .nil) ?_
  clear Hz Az; intro Az Hz
  refine bool_cases Hz (t := 23) rfl ?_ ?_
  ·
   clear Hz; intro hb36 Hz
   try simp only [Q1x, Q2x, Q3x, Q4x, Q5x, Q6x, Q7x, Q8x, Q9x, Q0x, Qax, Qbx] at hb36
   refine wp_cond_true (Hz.ev (x := .tmp 23) rfl) ?_
   replace Hz : Has 71 [(0, _), (2, _), (7, _), (23, _)] Az := Hz.only [0, 2, 7, 23]
   refine wp_region_lit ?_
   refine goCh Hz (.move rfl .nil) ?_
   clear Hz Az; intro Az Hz
   refine wpList_plain rfl (fun K hK => ?_)
   refine e_call Hz Tryz.func46 rfl rfl rfl rfl (rtell_s _ R (withX s { s.x with be := s.x.be + 1 }) p _ hk.l (by have := hk.ms; show s.ms.length ≤ _; omega) (hnx hb8) (m27.into [(1, 1), (2, 2), (3, 3), (4, 4), (5, 5), (6, 6), (7, 7), (8, 8)] (by decide) rfl)) ?_
   rintro e w39 ⟨p1, rfl, hm39⟩
   have mx39 := m27.back hm39 [(1, 1), (2, 2), (3, 3), (4, 4), (5, 5), (6, 6), (7, 7), (8, 8)] (by decide); clear hm39 m27
   have m39 : MemOk _ _ [(1, _), (2, _), (3, _), (4, _), (5, _), (6, _), (7, _), (8, _), (20, _)] _ := mx39.only [1, 2, 3, 4, 5, 6, 7, 8, 20]; clear mx39
   refine ⟨_, rfl, ?_⟩; clear Hz Az; intro Az Hz
   refine hK _ _ ?_; clear hK K
   refine wpList_nil ?_
   refine hK3 _ _ ?_; clear hK3; try clear K3
   refine wp_seq_k (fun K4 hK4 => ?_)
   refine wp_region_lit ?_
   refine goCh Hz (.move rfl .nil) ?_
   clear Hz Az; intro Az Hz
   refine wpList_plain rfl (fun K hK => ?_)
   refine e_call Hz Tryz.func47 rfl rfl rfl rfl (rtaken_s _ R (tellS (withX s { s.x with be := s.x.be + 1 })) p1 _ (m39.into [(1, 1), (2, 2), (3, 3), (4, 4), (5, 5), (6, 6), (7, 7), (8, 8)] (by decide) rfl)) ?_
   rintro e w43 ⟨p9, o9, rfl, hm43⟩
   have mx43 := m39.back hm43 [(1, 1), (2, 2), (3, 3), (4, 4), (5, 5), (6, 6), (7, 7), (8, 8), (11, 11), (12, 12)] (by decide); clear hm43 m39
   have m43 : MemOk _ _ [(1, _), (2, _), (3, _), (4, _), (5, _), (6, _), (7, _), (8, _), (11, _), (12, _), (20, _)] _ := mx43.only [1, 2, 3, 4, 5, 6, 7, 8, 11, 12, 20]; clear mx43
   refine ⟨_, rfl, ?_⟩; clear Hz Az; intro Az Hz
   refine hK _ _ ?_; clear hK K
   refine wpList_plain rfl (fun K hK => ?_)
   refine e_storeW Hz m43 20 rfl rfl rfl rfl rfl sz46rti ?_
   clear m43; intro w45 m45 hB45
   clear hB45
   refine hK _ _ ?_; clear hK K
   refine wpList_nil ?_
   refine hK4 _ _ ?_; clear hK4; try clear K4
   refine wp_ret ?_
   try dsimp only [Exit.then, Exit.inBlock]
   refine (retC (fn := Tryz.f18) Hz m45 (i := 20) rfl rfl rfl Tryz.underlying46 rfl sz46rti ?_)
   rw [tick_tell s hb8 hb36]
   exact ⟨p9, o9, rfl, m45.only [11, 12, 1, 2, 3, 4, 5, 6, 7, 8]⟩
  ·
   clear Hz; intro hb36 Hz
   try simp only [Q1x, Q2x, Q3x, Q4x, Q5x, Q6x, Q7x, Q8x, Q9x, Q0x, Qax, Qbx] at hb36
   refine wp_cond_false (Hz.ev (x := .tmp 23) rfl) ?_
   refine wp_skip ?_
   refine hK3 _ _ ?_; clear hK3; try clear K3
   replace Hz : Has 71 [(0, _), (2, _), (7, _), (23, _)] Az := Hz.only [0, 2, 7, 23]
   refine wp_seq_k (fun K5 hK5 => ?_)
   refine wp_region_lit ?_
   refine goCh Hz (.move rfl .nil) ?_
   clear Hz Az; intro Az Hz
   refine wpList_plain rfl (fun K hK => ?_)
   refine e_call Hz Tryz.func47 rfl rfl rfl rfl (rtaken_s _ R (withX s { s.x with be := s.x.be + 1 }) p _ (m27.into [(1, 1), (2, 2), (3, 3), (4, 4), (5, 5), (6, 6), (7, 7), (8, 8)] (by decide) rfl)) ?_
   rintro e w49 ⟨p9, o9, rfl, hm49⟩
   have mx49 := m27.back hm49 [(1, 1), (2, 2), (3, 3), (4, 4), (5, 5), (6, 6), (7, 7), (8, 8), (11, 11), (12, 12)] (by decide); clear hm49 m27
   have m49 : MemOk _ _ [(1, _), (2, _), (3, _), (4, _), (5, _), (6, _), (7, _), (8, _), (11, _), (12, _), (20, _)] _ := mx49.only [1, 2, 3, 4, 5, 6, 7, 8, 11, 12, 20]; clear mx49
   refine ⟨_, rfl, ?_⟩; clear Hz Az; intro Az Hz
   refine hK _ _ ?_; clear hK K
   refine wpList_plain rfl (fun K hK => ?_)
   refine e_storeW Hz m49 20 rfl rfl rfl rfl rfl sz46rti ?_
   clear m49; intro w51 m51 hB51
   clear hB51
   refine hK _ _ ?_; clear hK K
   refine wpList_nil ?_
   refine hK5 _ _ ?_; clear hK5; try clear K5
   refine wp_ret ?_
   try dsimp only [Exit.then, Exit.inBlock]
   refine (retC (fn := Tryz.f18) Hz m51 (i := 20) rfl rfl rfl Tryz.underlying46 rfl sz46rti ?_)
   rw [tick_beat s hb8 hb36]
   exact ⟨p9, o9, rfl, m51.only [11, 12, 1, 2, 3, 4, 5, 6, 7, 8]⟩
 ·
  clear Hz; intro hb8 Hz
  try simp only [Q1x, Q2x, Q3x, Q4x, Q5x, Q6x, Q7x, Q8x, Q9x, Q0x, Qax, Qbx] at hb8
  refine wp_cond_false (Hz.ev (x := .tmp 7) rfl) ?_
  refine wp_skip ?_
  refine hK1 _ _ ?_; clear hK1; try clear K1
  refine wp_seq_k (fun K6 hK6 => ?_)
  refine wp_region_lit ?_
  refine goCh Hz (.move rfl <| .nilCheck rfl <| .fieldAddr (off := 24) rfl Tryz.underlying86 rfl (s := 0) (by kernel_rfl) rfl <| .loadB1 m2 (i := 1) rfl rfl rfl Tryz.underlying3 rfl <| .add rfl rfl (IntWalk.i64_in _ (by omega)) <| .nilCheck rfl <| .fieldAddr (off := 24) rfl Tryz.underlying86 rfl (s := 0) (by kernel_rfl) rfl <| .nil) ?_
  clear Hz Az; intro Az Hz
  refine wpList_plain rfl (fun K hK => ?_)
  refine e_store1 Hz m2 1 rfl rfl rfl rfl rfl sz3rti (by dsimp only [List.set] <;> rfl) ?_
  clear m2; intro w66 m66 hB66
  clear hB66
  refine hK _ _ ?_; clear hK K
  refine wpList_nil ?_
  refine hK6 _ _ ?_; clear hK6; try clear K6
  refine wp_seq_k (fun K7 hK7 => ?_)
  refine wp_seq_k (fun K8 hK8 => ?_)
  replace Hz : Has 71 [(0, _), (2, _), (7, _)] Az := Hz.only [0, 2, 7]
  have m68 : MemOk _ _ [(1, _), (2, _), (3, _), (4, _), (5, _), (6, _), (7, _), (8, _), (20, _)] _ := m66.only [1, 2, 3, 4, 5, 6, 7, 8, 20]; clear m66
  refine region_p 29 (B := [(1, _), (2, _), (3, _), (4, _), (5, _), (6, _), (7, _), (8, _), (20, _)]) (m68.to ⟨il, il, il, il, il, il, il, il, il, trivial⟩) m68 (by kernel_rfl) (fun w69 hP69 m69 => ?_); clear m68
  refine goR hP69 [0, 1, 2, 4, 5, 6, 7, 8] [8] 8 0 503 Hz (m69.to ⟨il, il, il, il, il, il, il, il, il, trivial⟩) (.move rfl <| .nilCheck rfl <| .fieldAddr (off := 0) rfl Tryz.underlying86 rfl (s := 4) (by kernel_rfl) rfl <| .move rfl <| .nilCheck rfl <| .fieldAddr (off := 0) rfl Tryz.underlying86 rfl (s := 4) (by kernel_rfl) rfl <| .fieldAddr (off := 0) rfl Tryz.underlying81 rfl (s := 0) (by kernel_rfl) rfl <| .loadB1 hh (i := 1) rfl rfl rfl Tryz.underlying3 rfl <| .nil) ?_
  clear Hz Az; intro Az Hz
  refine stepE_only 3 rfl (by kernel_rfl) rfl (fun K hK => ?_)
  refine e_call Hz Tryz.func49 rfl rfl rfl rfl (rmembers_s R (withX s { s.x with si := s.x.si + 1 }) p _ (rfM_is (withX s { s.x with si := s.x.si + 1 }) p (m69.into [(1, 1), (2, 2), (3, 3), (4, 4), (5, 5), (6, 6), (7, 7), (8, 8)] (by decide) rfl)) hk.l) ?_
  rintro e w78 ⟨p78, c78, rfl, hd78, hb78⟩
  have m79 := m69.callF 21 rfl hb78 hd78
  clear m69
  clear hb78 hd78
  refine ⟨_, rfl, ?_⟩; clear Hz Az; intro Az Hz
  refine hK _ _ (m79.to ⟨il, il, il, il, il, il, il, il, il, trivial⟩) ?_; clear hK K
  refine stepE_only 9 rfl (by kernel_rfl) rfl (fun K hK => ?_)
  refine e_call Hz Tryz.func48 rfl rfl rfl rfl (chas_b _ (memS s) s.x.id _ (m79.nums (i := 21) rfl) (Nat.le_trans (memS_len s) (by decide))) ?_
  rintro e w81 ⟨rfl, hb81⟩
  have m82 := m79.later hb81
  clear m79
  clear hb81
  refine ⟨_, rfl, ?_⟩; clear Hz Az; intro Az Hz
  refine hK _ _ (m82.to ⟨il, il, il, il, il, il, il, il, il, trivial⟩) ?_; clear hK K
  refine goA hP69 [10] 1 1023 2047 Hz (m82.to ⟨il, il, il, il, il, il, il, il, il, trivial⟩) (.move rfl <| .nil) ?_
  clear Hz Az; intro Az Hz
  refine bool_cases Hz (t := 45) rfl ?_ ?_
  ·
   clear Hz; intro hb85 Hz
   try simp only [Q1x, Q2x, Q3x, Q4x, Q5x, Q6x, Q7x, Q8x, Q9x, Q0x, Qax, Qbx] at hb85
   refine goR hP69 [11, 12, 13, 14, 15, 16, 17, 18, 19, 20, 21, 22, 23, 24, 25] [14, 19, 25] 15 2047 67108863 Hz (m82.to ⟨il, il, il, il, il, il, il, il, il, trivial⟩) (.move rfl <| .nilCheck rfl <| .fieldAddr (off := 24) rfl Tryz.underlying86 rfl (s := 0) (by kernel_rfl) rfl <| .loadB1 hh (i := 1) rfl rfl rfl Tryz.underlying3 rfl <| .move rfl <| .nilCheck rfl <| .fieldAddr (off := 0) rfl Tryz.underlying86 rfl (s := 4) (by kernel_rfl) rfl <| .fieldAddr (off := 0) rfl Tryz.underlying81 rfl (s := 0) (by kernel_rfl) rfl <| .loadB1 hh (i := 1) rfl rfl rfl Tryz.underlying3 rfl <| .move rfl <| .nilCheck rfl <| .fieldAddr (off := 0) rfl Tryz.underlying86 rfl (s := 4) (by kernel_rfl) rfl <| .fieldAddr (off := 2) rfl Tryz.underlying81 rfl (s := 1) (by kernel_rfl) rfl <| .fieldAddr (off := 2) rfl Tryz.underlying25 rfl (s := 0) (by kernel_rfl) rfl <| .loadB1 hh (i := 1) rfl rfl rfl Tryz.underlying3 rfl <| .nil) ?_
   clear Hz Az; intro Az Hz
   refine stepE_only 26 rfl (by kernel_rfl) (wantedG Hz rfl rfl rfl rfl) (fun K hK => ?_)
   refine e_call Hz Tryz.func50 rfl rfl rfl rfl (timeout_b s.x.id s.x.te _ (by omega) (by omega) (by omega) (by omega)) ?_
   rintro e w101 ⟨rfl, hb101⟩
   have m102 := m82.later hb101
   clear m82
   clear hb101
   refine ⟨_, rfl, ?_⟩; clear Hz Az; intro Az Hz
   refine hK _ _ (m102.to ⟨il, il, il, il, il, il, il, il, il, trivial⟩) ?_; clear hK K
   refine goA hP69 [27, 28] 2 134217727 536870911 Hz (m102.to ⟨il, il, il, il, il, il, il, il, il, trivial⟩) (.geq rfl rfl <| .pickT rfl rfl <| .nil) ?_
   clear Hz Az; intro Az Hz
   refine wpAnyE_done (by kernel_rfl) ?_ _
   refine hK8 _ _ ?_; clear hK8; try clear K8
   refine bool_cases Hz (t := 63) rfl ?_ ?_
   ·
    clear Hz; intro hb106 Hz
    try simp only [Q1x, Q2x, Q3x, Q4x, Q5x, Q6x, Q7x, Q8x, Q9x, Q0x, Qax, Qbx] at hb106
    refine wp_cond_true (Hz.ev (x := .tmp 63) rfl) ?_
    replace Hz : Has 71 [(0, _), (2, _), (7, _), (45, _), (46, _), (63, _)] Az := Hz.only [0, 2, 7, 45, 46, 63]
    refine wp_seq_k (fun K9 hK9 => ?_)
    refine wp_region_lit ?_
    refine goCh Hz (.move rfl <| .nilCheck rfl <| .fieldAddr (off := 24) rfl Tryz.underlying86 rfl (s := 0) (by kernel_rfl) rfl <| .nil) ?_
    clear Hz Az; intro Az Hz
    refine wpList_plain rfl (fun K hK => ?_)
    refine e_store1 Hz m102 1 rfl rfl rfl rfl rfl sz3rti (by dsimp only [List.set] <;> rfl) ?_
    clear m102; intro w114 m114 hB114
    clear hB114
    refine hK _ _ ?_; clear hK K
    refine wpList_nil ?_
    refine hK9 _ _ ?_; clear hK9; try clear K9
    refine wp_region_lit ?_
    refine goCh Hz (.move rfl .nil) ?_
    clear Hz Az; intro Az Hz
    refine wpList_plain rfl (fun K hK => ?_)
    refine e_call Hz Tryz.func51 rfl rfl rfl rfl (rask_s _ R (withX s { s.x with si := 0 }) p _ (hk.si0) (m114.into [(1, 1), (2, 2), (3, 3), (4, 4), (5, 5), (6, 6), (7, 7), (8, 8)] (by decide) rfl)) ?_
    rintro e w116 ⟨p1, rfl, hm116⟩
    have mx116 := m114.back hm116 [(1, 1), (2, 2), (3, 3), (4, 4), (5, 5), (6, 6), (7, 7), (8, 8)] (by decide); clear hm116 m114
    have m116 : MemOk _ _ [(1, _), (2, _), (3, _), (4, _), (5, _), (6, _), (7, _), (8, _), (20, _), (21, _)] _ := mx116.only [1, 2, 3, 4, 5, 6, 7, 8, 20, 21]; clear mx116
    refine ⟨_, rfl, ?_⟩; clear Hz Az; intro Az Hz
    refine hK _ _ ?_; clear hK K
    refine wpList_nil ?_
    refine hK7 _ _ ?_; clear hK7; try clear K7
    refine wp_seq_k (fun K10 hK10 => ?_)
    refine wp_region_lit ?_
    refine goCh Hz (.move rfl .nil) ?_
    clear Hz Az; intro Az Hz
    refine wpList_plain rfl (fun K hK => ?_)
    refine e_call Hz Tryz.func47 rfl rfl rfl rfl (rtaken_s _ R (askS (withX s { s.x with si := 0 })) p1 _ (m116.into [(1, 1), (2, 2), (3, 3), (4, 4), (5, 5), (6, 6), (7, 7), (8, 8)] (by decide) rfl)) ?_
    rintro e w120 ⟨p9, o9, rfl, hm120⟩
    have mx120 := m116.back hm120 [(1, 1), (2, 2), (3, 3), (4, 4), (5, 5), (6, 6), (7, 7), (8, 8), (11, 11), (12, 12)] (by decide); clear hm120 m116
    have m120 : MemOk _ _ [(1, _), (2, _), (3, _), (4, _), (5, _), (6, _), (7, _), (8, _), (11, _), (12, _), (20, _), (21, _)] _ := mx120.only [1, 2, 3, 4, 5, 6, 7, 8, 11, 12, 20, 21]; clear mx120
    refine ⟨_, rfl, ?_⟩; clear Hz Az; intro Az Hz
    refine hK _ _ ?_; clear hK K
    refine wpList_plain rfl (fun K hK => ?_)
    refine e_storeW Hz m120 20 rfl rfl rfl rfl rfl sz46rti ?_
    clear m120; intro w122 m122 hB122
    clear hB122
    refine hK _ _ ?_; clear hK K
    refine wpList_nil ?_
    refine hK10 _ _ ?_; clear hK10; try clear K10
    refine wp_ret ?_
    try dsimp only [Exit.then, Exit.inBlock]
    refine (retC (fn := Tryz.f18) Hz m122 (i := 20) rfl rfl rfl Tryz.underlying46 rfl sz46rti ?_)
    rw [tick_ask s hb8 hb85 hb106]
    exact ⟨p9, o9, rfl, m122.only [11, 12, 1, 2, 3, 4, 5, 6, 7, 8]⟩
   ·
    clear Hz; intro hb106 Hz
    try simp only [Q1x, Q2x, Q3x, Q4x, Q5x, Q6x, Q7x, Q8x, Q9x, Q0x, Qax, Qbx] at hb106
    refine wp_cond_false (Hz.ev (x := .tmp 63) rfl) ?_
    refine wp_skip ?_
    refine hK7 _ _ ?_; clear hK7; try clear K7
    replace Hz : Has 71 [(0, _), (2, _), (7, _), (45, _), (46, _), (63, _)] Az := Hz.only [0, 2, 7, 45, 46, 63]
    refine wp_seq_k (fun K11 hK11 => ?_)
    refine wp_region_lit ?_
    refine goCh Hz (.move rfl .nil) ?_
    clear Hz Az; intro Az Hz
    refine wpList_plain rfl (fun K hK => ?_)
    refine e_call Hz Tryz.func47 rfl rfl rfl rfl (rtaken_s _ R (withX s { s.x with si := s.x.si + 1 }) p _ (m102.into [(1, 1), (2, 2), (3, 3), (4, 4), (5, 5), (6, 6), (7, 7), (8, 8)] (by decide) rfl)) ?_
    rintro e w126 ⟨p9, o9, rfl, hm126⟩
    have mx126 := m102.back hm126 [(1, 1), (2, 2), (3, 3), (4, 4), (5, 5), (6, 6), (7, 7), (8, 8), (11, 11), (12, 12)] (by decide); clear hm126 m102
    have m126 : MemOk _ _ [(1, _), (2, _), (3, _), (4, _), (5, _), (6, _), (7, _), (8, _), (11, _), (12, _), (20, _), (21, _)] _ := mx126.only [1, 2, 3, 4, 5, 6, 7, 8, 11, 12, 20, 21]; clear mx126
    refine ⟨_, rfl, ?_⟩; clear Hz Az; intro Az Hz
    refine hK _ _ ?_; clear hK K
    refine wpList_plain rfl (fun K hK => ?_)
    refine e_storeW Hz m126 20 rfl rfl rfl rfl rfl sz46rti ?_
    clear m126; intro w128 m128 hB128
    clear hB128
    refine hK _ _ ?_; clear hK K
    refine wpList_nil ?_
    refine hK11 _ _ ?_; clear hK11; try clear K11
    refine wp_ret ?_
    try dsimp only [Exit.then, Exit.inBlock]
    refine (retC (fn := Tryz.f18) Hz m128 (i := 20) rfl rfl rfl Tryz.underlying46 rfl sz46rti ?_)
    rw [tick_wait s hb8 hb106]
    exact ⟨p9, o9, rfl, m128.only [11, 12, 1, 2, 3, 4, 5, 6, 7, 8]⟩
  ·
   clear Hz; intro hb85 Hz
   try simp only [Q1x, Q2x, Q3x, Q4x, Q5x, Q6x, Q7x, Q8x, Q9x, Q0x, Qax, Qbx] at hb85
   refine goA hP69 [11, 12, 13, 14, 15, 16, 17, 18, 19, 20, 21, 22, 23, 24, 25, 26, 27, 28] 18 2047 536870911 Hz (m82.to ⟨il, il, il, il, il, il, il, il, il, trivial⟩) (.s <| .s <| .s <| .s <| .s <| .s <| .s <| .s <| .s <| .s <| .s <| .s <| .s <| .s <| .s <| .s <| .s <| .pickF rfl rfl <| .nil) ?_
   clear Hz Az; intro Az Hz
   refine wpAnyE_done (by kernel_rfl) ?_ _
   refine hK8 _ _ ?_; clear hK8; try clear K8
   refine wp_cond_false (Hz.ev (x := .tmp 63) rfl) ?_
   refine wp_skip ?_
   refine hK7 _ _ ?_; clear hK7; try clear K7
   replace Hz : Has 71 [(0, _), (2, _), (7, _), (45, _), (46, _), (63, _)] Az := Hz.only [0, 2, 7, 45, 46, 63]
   refine wp_seq_k (fun K12 hK12 => ?_)
   refine wp_region_lit ?_
   refine goCh Hz (.move rfl .nil) ?_
   clear Hz Az; intro Az Hz
   refine wpList_plain rfl (fun K hK => ?_)
   refine e_call Hz Tryz.func47 rfl rfl rfl rfl (rtaken_s _ R (withX s { s.x with si := s.x.si + 1 }) p _ (m82.into [(1, 1), (2, 2), (3, 3), (4, 4), (5, 5), (6, 6), (7, 7), (8, 8)] (by decide) rfl)) ?_
   rintro e w150 ⟨p9, o9, rfl, hm150⟩
   have mx150 := m82.back hm150 [(1, 1), (2, 2), (3, 3), (4, 4), (5, 5), (6, 6), (7, 7), (8, 8), (11, 11), (12, 12)] (by decide); clear hm150 m82
   have m150 : MemOk _ _ [(1, _), (2, _), (3, _), (4, _), (5, _), (6, _), (7, _), (8, _), (11, _), (12, _), (20, _), (21, _)] _ := mx150.only [1, 2, 3, 4, 5, 6, 7, 8, 11, 12, 20, 21]; clear mx150
   refine ⟨_, rfl, ?_⟩; clear Hz Az; intro Az Hz
   refine hK _ _ ?_; clear hK K
   refine wpList_plain rfl (fun K hK => ?_)
   refine e_storeW Hz m150 20 rfl rfl rfl rfl rfl sz46rti ?_
   clear m150; intro w152 m152 hB152
   clear hB152
   refine hK _ _ ?_; clear hK K
   refine wpList_nil ?_
   refine hK12 _ _ ?_; clear hK12; try clear K12
   refine wp_ret ?_
   try dsimp only [Exit.then, Exit.inBlock]
   refine (retC (fn := Tryz.f18) Hz m152 (i := 20) rfl rfl rfl Tryz.underlying46 rfl sz46rti ?_)
   rw [tick_out s hb8 hb85]
   exact ⟨p9, o9, rfl, m152.only [11, 12, 1, 2, 3, 4, 5, 6, 7, 8]⟩
end
end Go.Proofs.YtndnnlbdnjndiaaGreat.K
