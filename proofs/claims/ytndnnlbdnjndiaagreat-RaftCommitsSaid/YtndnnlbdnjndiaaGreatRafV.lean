/- raft: send, save over the whole state; canvass, word, tell. -/
import Derived.Test.YtndnnlbdnjndiaaGreatRafU
namespace Go.Proofs.YtndnnlbdnjndiaaGreat.K
open Go.ChangeShapes Go.WideShapes Go.ChangeAt Go.RowKit
set_option linter.unusedVariables false
set_option linter.unusedSimpArgs false

theorem ps55rca : placesS Tryz.prog 55 = some [(0, 1), (1, 1), (2, 1), (3, 1), (4, 1), (5, 1), (6, 1), (7, 1), (8, 1), (9, 1), (10, 4), (14, 1), (15, 1), (16, 1), (17, 1), (18, 1)] := by kernel_rfl
theorem sz3rca : (Tryz.prog.info? 3).map (·.size) = some 1 := by kernel_rfl
theorem zc55rca : ((Tryz.prog.info? 55).bind (·.zero)).map (·.cells.toList) = some [.int .i64 0, .int .i64 0, .int .i64 0, .int .i64 0, .int .i64 0, .int .i64 0, .int .i64 0, .int .i64 0, .bool false, .slice none 0 0, .int .i64 0, .int .i64 0, .slice none 0 0, .slice none 0 0, .slice none 0 0, .int .i64 0, .int .i64 0, .int .i64 0, .int .i64 0] := by kernel_rfl
theorem ps55rwo : placesS Tryz.prog 55 = some [(0, 1), (1, 1), (2, 1), (3, 1), (4, 1), (5, 1), (6, 1), (7, 1), (8, 1), (9, 1), (10, 4), (14, 1), (15, 1), (16, 1), (17, 1), (18, 1)] := by kernel_rfl
theorem sz3rwo : (Tryz.prog.info? 3).map (·.size) = some 1 := by kernel_rfl
theorem sz29rwo : (Tryz.prog.info? 29).map (·.size) = some 4 := by kernel_rfl
theorem zc29rwo : ((Tryz.prog.info? 29).bind (·.zero)).map (·.cells.toList) = some [.int .i64 0, .int .i64 0, .slice none 0 0, .slice none 0 0] := by kernel_rfl
theorem zc55rwo : ((Tryz.prog.info? 55).bind (·.zero)).map (·.cells.toList) = some [.int .i64 0, .int .i64 0, .int .i64 0, .int .i64 0, .int .i64 0, .int .i64 0, .int .i64 0, .int .i64 0, .bool false, .slice none 0 0, .int .i64 0, .int .i64 0, .slice none 0 0, .slice none 0 0, .slice none 0 0, .int .i64 0, .int .i64 0, .int .i64 0, .int .i64 0] := by kernel_rfl
theorem sz3rtl : (Tryz.prog.info? 3).map (·.size) = some 1 := by kernel_rfl

theorem getD_mem {l : List Int} {k : Nat} (h : k < l.length) : l.getD k 0 ∈ l := by rw [List.getD, List.getElem?_eq_getElem h]; exact List.getElem_mem h
theorem ofL_in {l : List Int} {n : Int} (h : n ∈ canon l) : 0 ≤ n ∧ n ≤ 6 := by
 have h := ((canon_mem l n).1 h).2
 omega
theorem memS_in (s : RS) {n : Int} (h : n ∈ memS s) : 0 ≤ n ∧ n ≤ 6 := ofL_in h
theorem othS_mem (s : RS) {n : Int} (h : n ∈ othS s) : 0 ≤ n ∧ n ≤ 6 := ofL_in (List.mem_filter.1 h).1
theorem othS_in (s : RS) {k : Nat} (h : k < (othS s).length) : 0 ≤ (othS s).getD k 0 ∧ (othS s).getD k 0 ≤ 6 := othS_mem s (getD_mem h)
theorem take_getD {l : List Int} {k : Nat} (h : k < l.length) : l.take (k + 1) = l.take k ++ [l.getD k 0] := by
 rw [List.take_succ_eq_append_getElem h, List.getD, List.getElem?_eq_getElem h]; rfl
theorem canv_zero (s : RS) (kd tm : Int) : s = (addM s (((othS s).take 0).map fun n => toM s n (canvM s kd tm))) := by simp [addM]
theorem canv_step (s : RS) (kd tm : Int) {k : Nat} (h : k < (othS s).length) : addM (addM s (((othS s).take k).map fun n => toM s n (canvM s kd tm))) [toM s ((othS s).getD k 0) (canvM s kd tm)] = (addM s (((othS s).take (k + 1)).map fun n => toM s n (canvM s kd tm))) := by
 rw [take_getD h, List.map_append]; simp [addM]
theorem tell_zero (s : RS) : s = (addM s (((othS s).take 0).map fun n => toM s n (wordM s n))) := by simp [addM]
theorem tell_step (s : RS) {k : Nat} (h : k < (othS s).length) : addM (addM s (((othS s).take k).map fun n => toM s n (wordM s n))) [toM s ((othS s).getD k 0) (wordM s ((othS s).getD k 0))] = (addM s (((othS s).take (k + 1)).map fun n => toM s n (wordM s n))) := by
 rw [take_getD h, List.map_append]; simp [addM]
set_option maxRecDepth 100000
set_option maxHeartbeats 4000000
theorem rsend_s (X : Cx) (R : Nat) (s : RS) (p : RP) (n : Int) (r : RM) (pe pc pd pf : Option Addr) (ce cc cd cf : Nat) (w0 : World) (hQ : s.ms.length ≤ 1000000) (m0 : MemOk X w0 ((9, .dat (.slice pe (r.es.map entD).length ce) (.l 4 (r.es.map entD))) :: (10, .dat (.slice pc r.cf.length cc) (.ns .i64 r.cf)) :: (11, .dat (.slice pd r.bd.length cd) (.ns .u8 r.bd)) :: (12, .dat (.slice pf r.da.length cf) (.ns .u8 r.da)) :: rfM R s p) w0) :
   Calls Tryz.prog 129 #[.pointer (some ⟨R, 0, none⟩), .int .i64 n, .agg #[.int .i64 r.k, .int .i64 r.g, .int .i64 r.f, .int .i64 r.t, .int .i64 r.te, .int .i64 r.ix, .int .i64 r.lt, .int .i64 r.co, .bool r.ok, .slice pe (r.es.map entD).length ce, .int .i64 r.bi, .int .i64 r.bt, .slice pc r.cf.length cc, .slice pd r.bd.length cd, .slice pf r.da.length cf, .int .i64 r.vo, .int .i64 r.ch, .int .i64 r.ma, .int .i64 r.fl]] w0 fun e w' => ∃ p', e = .returned (.tuple #[]) ∧ MemOk X w0 (rfM R (addM s [toM s n r]) p') w' := by
 refine (rsend_x _ R p.L s.x _ _ s.re s.ms n r pe pc pd pf p.pm ce cc cd cf p.cm w0 hQ (m0.into [(1, 1), (7, 7), (9, 9), (10, 10), (11, 11), (12, 12)] (by decide) rfl)).mono ?_
 rintro e w' ⟨q, c, rfl, hm⟩
 have mb := m0.back hm [(1, 1), (7, 7)] (by decide)
 exact ⟨{ p with pm := q, cm := c }, rfl, mb.only [1, 2, 3, 4, 5, 6, 7, 8]⟩
theorem rsendE_s (X : Cx) (R : Nat) (s : RS) (p : RP) (n k te ix lt co : Int) (ok : Bool) (es : List En) (pe : Option Addr) (ce : Nat) (w0 : World) (hQ : s.ms.length ≤ 1000000) (m0 : MemOk X w0 ((9, .dat (.slice pe (es.map entD).length ce) (.l 4 (es.map entD))) :: rfM R s p) w0) :
   Calls Tryz.prog 129 #[.pointer (some ⟨R, 0, none⟩), .int .i64 n, .agg #[.int .i64 k, .int .i64 0, .int .i64 0, .int .i64 0, .int .i64 te, .int .i64 ix, .int .i64 lt, .int .i64 co, .bool ok, .slice pe (es.map entD).length ce, .int .i64 0, .int .i64 0, .slice none 0 0, .slice none 0 0, .slice none 0 0, .int .i64 0, .int .i64 0, .int .i64 0, .int .i64 0]] w0 fun e w' => ∃ p', e = .returned (.tuple #[]) ∧ MemOk X w0 (rfM R (addM s [toM s n ⟨k, 0, 0, 0, te, ix, lt, co, ok, es, 0, 0, [], [], [], 0, 0, 0, 0⟩]) p') w' := by
 have m1 := m0.dat 10 rfl (Rd.nilN _ _ .i64 none)
 have m2 := m1.dat 11 rfl (Rd.nilN _ _ .u8 none)
 have m3 := m2.dat 12 rfl (Rd.nilN _ _ .u8 none)
 exact rsend_s X R s p n ⟨k, 0, 0, 0, te, ix, lt, co, ok, es, 0, 0, [], [], [], 0, 0, 0, 0⟩ pe none none none ce 0 0 0 w0 hQ (m3.only [9, 10, 11, 12, 1, 2, 3, 4, 5, 6, 7, 8])
theorem rsend0_s (X : Cx) (R : Nat) (s : RS) (p : RP) (n k te ix lt : Int) (ok : Bool) (w0 : World) (hQ : s.ms.length ≤ 1000000) (m0 : MemOk X w0 (rfM R s p) w0) :
   Calls Tryz.prog 129 #[.pointer (some ⟨R, 0, none⟩), .int .i64 n, .agg #[.int .i64 k, .int .i64 0, .int .i64 0, .int .i64 0, .int .i64 te, .int .i64 ix, .int .i64 lt, .int .i64 0, .bool ok, .slice none 0 0, .int .i64 0, .int .i64 0, .slice none 0 0, .slice none 0 0, .slice none 0 0, .int .i64 0, .int .i64 0, .int .i64 0, .int .i64 0]] w0 fun e w' => ∃ p', e = .returned (.tuple #[]) ∧ MemOk X w0 (rfM R (addM s [toM s n ⟨k, 0, 0, 0, te, ix, lt, 0, ok, [], 0, 0, [], [], [], 0, 0, 0, 0⟩]) p') w' := by
 have m1 := m0.dat 9 rfl (Rd.nil4 _ _)
 exact rsendE_s X R s p n k te ix lt 0 ok [] none 0 w0 hQ m1
theorem rsave_s (X : Cx) (R : Nat) (s : RS) (p : RP) (r : RR) (pe pc pd : Option Addr) (ce cc cd : Nat) (w0 : World) (hQ : s.rs.length ≤ 1000000) (m0 : MemOk X w0 ((9, .dat (.slice pe r.ed.length ce) (.ns .u8 r.ed)) :: (10, .dat (.slice pc r.cf.length cc) (.ns .i64 r.cf)) :: (11, .dat (.slice pd r.bd.length cd) (.ns .u8 r.bd)) :: rfM R s p) w0) :
   Calls Tryz.prog 73 #[.pointer (some ⟨R, 0, none⟩), .agg #[.int .i64 r.g, .int .i64 r.k, .int .i64 r.te, .int .i64 r.vo, .int .i64 r.ei, .int .i64 r.et, .int .i64 r.ek, .slice pe r.ed.length ce, .int .i64 r.bi, .int .i64 r.bt, .slice pc r.cf.length cc, .slice pd r.bd.length cd]] w0 fun e w' => ∃ p', e = .returned (.tuple #[]) ∧ MemOk X w0 ((9, .dat (.slice pe r.ed.length ce) (.ns .u8 r.ed)) :: (10, .dat (.slice pc r.cf.length cc) (.ns .i64 r.cf)) :: (11, .dat (.slice pd r.bd.length cd) (.ns .u8 r.bd)) :: rfM R (addR s r) p') w' := by
 refine (rsave_x _ R p.L s.x _ _ s.re s.rs r pe pc pd p.pq ce cc cd p.cq w0 hQ (m0.into [(1, 1), (8, 8), (9, 9), (10, 10), (11, 11)] (by decide) rfl)).mono ?_
 rintro e w' ⟨q, c, rfl, hm⟩
 have mb := m0.back hm [(1, 1), (8, 8), (9, 9), (10, 10), (11, 11)] (by decide)
 exact ⟨{ p with pq := q, cq := c }, rfl, mb.only [9, 10, 11, 1, 2, 3, 4, 5, 6, 7, 8]⟩
theorem rcanvass_s (X : Cx) (R : Nat) (s : RS) (p : RP) (kd tm : Int) (w0 : World) (hb : RLS s) (hQ : s.ms.length ≤ 900000) (m0 : MemOk X w0 (rfM R s p) w0) :
   Calls Tryz.prog 92 #[.pointer (some ⟨R, 0, none⟩), .int .i64 kd, .int .i64 tm] w0 fun e w' => ∃ p', e = .returned (.tuple #[]) ∧ MemOk X w0 (rfM R (canvS s kd tm) p') w' := by
 refine enter (fn := Tryz.f92) Tryz.func92 rfl Tryz.ntmps92 rfl (fun Az Hz => ?_)
 simp only [List.zipIdx_cons, List.zipIdx_nil, List.map_cons, List.map_nil, Nat.reduceAdd, Nat.zero_add] at Hz
 have hol := othS_len s
 refine wp_seq_k (fun K0 hK0 => ?_)
 refine wp_region_lit ?_
 refine goCh Hz (.move rfl <| .nilCheck rfl <| .fieldAddr (off := 0) rfl Tryz.underlying86 rfl (s := 4) (by kernel_rfl) rfl <| .fieldAddr (off := 4) rfl Tryz.underlying81 rfl (s := 0) (by kernel_rfl) rfl <| .loadB1 m0 (i := 1) rfl rfl rfl Tryz.underlying79 rfl <| .nilCheck rfl <| .fieldAddr (off := 0) rfl Tryz.underlying123 rfl (s := 4) (by kernel_rfl) rfl <| .nil) ?_
 clear Hz Az; intro Az Hz
 refine wpList_plain rfl (fun K hK => ?_)
 refine e_call Hz Tryz.func75 rfl rfl rfl rfl (rlast_s R s p _ (rfM_is s p (m0.into [(1, 1), (2, 2), (3, 3), (4, 4), (5, 5), (6, 6), (7, 7), (8, 8)] (by decide) rfl)) hb) ?_
 rintro e w15 ⟨rfl, hb15⟩
 have m16 := m0.later hb15
 clear m0
 clear hb15
 refine ⟨_, rfl, ?_⟩; clear Hz Az; intro Az Hz
 refine hK _ _ ?_; clear hK K
 refine goCh Hz (.assign rfl .nil) ?_
 clear Hz Az; intro Az Hz
 refine wpList_nil ?_
 refine hK0 _ _ ?_; clear hK0; try clear K0
 replace Hz : Has 41 [(0, _), (1, _), (2, _), (6, _)] Az := Hz.only [0, 1, 2, 6]
 refine wp_seq_k (fun K1 hK1 => ?_)
 refine wp_region_lit ?_
 refine goCh Hz (.move rfl <| .nilCheck rfl <| .fieldAddr (off := 0) rfl Tryz.underlying86 rfl (s := 4) (by kernel_rfl) rfl <| .nil) ?_
 clear Hz Az; intro Az Hz
 refine wpList_plain rfl (fun K hK => ?_)
 refine e_call Hz Tryz.func85 rfl rfl rfl rfl (rothers_s R s p _ (rfM_is s p (m16.into [(1, 1), (2, 2), (3, 3), (4, 4), (5, 5), (6, 6), (7, 7), (8, 8)] (by decide) rfl)) hb) ?_
 rintro e w26 ⟨qo, co9, rfl, hd26, hb26⟩
 have m27 := m16.callF 20 rfl hb26 hd26
 clear m16
 clear hb26 hd26
 refine ⟨_, rfl, ?_⟩; clear Hz Az; intro Az Hz
 refine hK _ _ ?_; clear hK K
 refine goCh Hz (.len rfl Tryz.underlying26 <| .move rfl <| .nil) ?_
 clear Hz Az; intro Az Hz
 refine wpList_nil ?_
 refine hK1 _ _ ?_; clear hK1; try clear K1
 refine wp_block ?_
 refine wp_loop_ghost (fun g a w => ∃ (k : Nat) (p1 : RP), k ≤ (othS s).length ∧ g = (othS s).length - k ∧ Has 41 [(0, .pointer (some ⟨R, 0, none⟩)), (1, .int .i64 kd), (2, .int .i64 tm), (6, .int .i64 (lastS s)), (20, .slice qo (othS s).length co9), (21, .int .i64 ((othS s).length : Nat)), (22, .int .i64 (k : Nat))] a ∧ MemOk X w0 ((20, .dat (.slice qo (othS s).length co9) (.ns .i64 (othS s))) :: rfM R (addM s (((othS s).take k).map fun n => toM s n (canvM s kd tm))) p1) w) ((othS s).length) ?_ ?_
 · exact ⟨0, p, Nat.zero_le _, rfl, Hz.only [0, 1, 2, 6, 20, 21, 22], (canv_zero s kd tm) ▸ m27.ren [(20, 20), (1, 1), (2, 2), (3, 3), (4, 4), (5, 5), (6, 6), (7, 7), (8, 8)] (by decide)⟩
 ·
  clear Hz m27
  rintro g Az w31 ⟨k, p1, hkl, hg, Hz, m31⟩
  refine regS Hz (.lss rfl rfl <| .nil) ?_
  clear Hz Az; intro Az Hz
  refine wp_seq_k (fun K2 hK2 => ?_)
  refine bool_cases Hz (t := 23) rfl ?_ ?_
  ·
   clear Hz; intro hb33 Hz
   try simp only [Q1x, Q2x, Q3x, Q4x, Q5x, Q6x, Q7x, Q8x, Q9x, Q0x, Qax, Qbx] at hb33
   have hk : k < (othS s).length := by omega
   refine wp_cond_true (Hz.ev (x := .tmp 23) rfl) ?_
   refine wp_skip ?_
   refine hK2 _ _ ?_; clear hK2; try clear K2
   refine wp_seq_k (fun K3 hK3 => ?_)
   refine wp_block ?_
   refine wp_seq_k (fun K4 hK4 => ?_)
   refine wp_region_lit ?_
   obtain ⟨b35, o35, hp35, m35⟩ := m31.openN (i := 20) rfl (k) hk 100 rfl
   cases hp35; clear m31
   refine goCh Hz (.c rfl (fun _ h_ => y_idx h_ rfl rfl Tryz.underlying26 sz3rca (k) rfl hk) <| .loadC0 m35 (i := 100) rfl rfl Tryz.underlying3 rfl <| .assign rfl <| .nil) ?_
   clear Hz Az; intro Az Hz
   refine wpList_nil ?_
   refine hK4 _ _ ?_; clear hK4; try clear K4
   refine wp_region_lit ?_
   refine goCh Hz (.move rfl <| .move rfl <| .move rfl <| .move rfl <| .move rfl <| .move rfl <| .nilCheck rfl <| .fieldAddr (off := 0) rfl Tryz.underlying86 rfl (s := 4) (by kernel_rfl) rfl <| .fieldAddr (off := 4) rfl Tryz.underlying81 rfl (s := 0) (by kernel_rfl) rfl <| .loadB1 m35 (i := 1) rfl rfl rfl Tryz.underlying79 rfl <| .move rfl <| .nil) ?_
   clear Hz Az; intro Az Hz
   refine wpList_plain rfl (fun K hK => ?_)
   refine e_call Hz Tryz.func113 rfl rfl rfl rfl (rterm_s R (addM s (((othS s).take k).map fun n => toM s n (canvM s kd tm))) p1 _ (rfM_is (addM s (((othS s).take k).map fun n => toM s n (canvM s kd tm))) p1 (m35.into [(1, 1), (2, 2), (3, 3), (4, 4), (5, 5), (6, 6), (7, 7), (8, 8)] (by decide) rfl)) hb (lastS s)) ?_
   rintro e w50 ⟨rfl, hb50⟩
   have m51 := m35.later hb50
   clear m35
   clear hb50
   refine ⟨_, rfl, ?_⟩; clear Hz Az; intro Az Hz
   refine hK _ _ ?_; clear hK K
   refine goCh Hz (.buildG rfl zc55rca ps55rca rfl .nil) ?_
   clear Hz Az; intro Az Hz
   refine wpList_plain rfl (fun K hK => ?_)
   refine e_call Hz Tryz.func129 rfl rfl rfl rfl (rsend0_s _ R (addM s (((othS s).take k).map fun n => toM s n (canvM s kd tm))) p1 ((othS s).getD k 0) kd tm (lastS s) (termS s (lastS s)) false _ (by simp; omega) (m51.into [(1, 1), (2, 2), (3, 3), (4, 4), (5, 5), (6, 6), (7, 7), (8, 8)] (by decide) rfl)) ?_
   rintro e w54 ⟨p54, rfl, hm54⟩
   have mx54 := m51.back hm54 [(1, 1), (2, 2), (3, 3), (4, 4), (5, 5), (6, 6), (7, 7), (8, 8)] (by decide); clear hm54 m51
   have m54 : MemOk _ _ [(1, _), (2, _), (3, _), (4, _), (5, _), (6, _), (7, _), (8, _), (20, _), (100, _)] _ := mx54.only [1, 2, 3, 4, 5, 6, 7, 8, 20, 100]; clear mx54
   refine ⟨_, rfl, ?_⟩; clear Hz Az; intro Az Hz
   refine hK _ _ ?_; clear hK K
   refine wpList_nil ?_
   refine hK3 _ _ ?_; clear hK3; try clear K3
   replace Hz : Has 41 [(0, _), (1, _), (2, _), (6, _), (20, _), (21, _), (22, _)] Az := Hz.only [0, 1, 2, 6, 20, 21, 22]
   refine wp_region_lit ?_
   refine goCh Hz (.add rfl rfl (r := ((k + 1 : Nat) : Int)) (by rw [IntWalk.i64_in _ (by omega)]; omega) <| .move rfl <| .nil) ?_
   clear Hz Az; intro Az Hz
   refine wpList_nil ?_
   show ∃ n', n' < _ ∧ _
   exact ⟨(othS s).length - (k + 1), by omega, k + 1, _, by omega, rfl, Hz.only [0, 1, 2, 6, 20, 21, 22], (canv_step s kd tm hk) ▸ m54.only [20, 1, 2, 3, 4, 5, 6, 7, 8]⟩
  ·
   clear Hz; intro hb33 Hz
   try simp only [Q1x, Q2x, Q3x, Q4x, Q5x, Q6x, Q7x, Q8x, Q9x, Q0x, Qax, Qbx] at hb33
   obtain rfl : k = (othS s).length := by omega
   refine wp_cond_false (Hz.ev (x := .tmp 23) rfl) ?_
   refine wp_exit ?_
   try dsimp only [Exit.then]
   try refine out_here ?_
   refine (ret0 (fn := Tryz.f92) Hz rfl ?_)
   rw [List.take_length] at m31
   exact ⟨_, rfl, m31.only [1, 2, 3, 4, 5, 6, 7, 8]⟩
theorem rword_s (X : Cx) (R : Nat) (s : RS) (p : RP) (n : Int) (w0 : World) (hb : RLS s) (hQ : s.ms.length ≤ 1000000) (hn : 0 ≤ n ∧ n ≤ 6) (h1 : s.bi < nx s.x n) (h2 : nx s.x n ≤ 1000000000000000000) (m0 : MemOk X w0 (rfM R s p) w0) :
   Calls Tryz.prog 86 #[.pointer (some ⟨R, 0, none⟩), .int .i64 n] w0 fun e w' => ∃ p', e = .returned (.tuple #[]) ∧ MemOk X w0 (rfM R (addM s [toM s n (wordM s n)]) p') w' := by
 have hbi := hb.b
 refine enter (fn := Tryz.f86) Tryz.func86 rfl Tryz.ntmps86 rfl (fun Az Hz => ?_)
 simp only [List.zipIdx_cons, List.zipIdx_nil, List.map_cons, List.map_nil, Nat.reduceAdd, Nat.zero_add] at Hz
 refine wp_seq_k (fun K0 hK0 => ?_)
 have hC0 : ∀ (a : Act) (w : World), (Has 65 [(0, .pointer (some ⟨R, 0, none⟩)), (1, .int .i64 n), (4, .int .i64 (nx s.x n))] a ∧ MemOk X w0 (rfM R s p) w) → K0 a w := by
   clear Hz m0
   rintro Az w1 ⟨Hz, m1⟩
   refine hK0 _ _ ?_; clear hK0; try clear K0
   refine wp_seq_k (fun K1 hK1 => ?_)
   refine wp_seq_k (fun K2 hK2 => ?_)
   refine wp_region_lit ?_
   refine goCh Hz (.move rfl <| .nilCheck rfl <| .fieldAddr (off := 0) rfl Tryz.underlying86 rfl (s := 4) (by kernel_rfl) rfl <| .fieldAddr (off := 4) rfl Tryz.underlying81 rfl (s := 0) (by kernel_rfl) rfl <| .loadB1 m1 (i := 1) rfl rfl rfl Tryz.underlying79 rfl <| .nil) ?_
   clear Hz Az; intro Az Hz
   refine wpList_plain rfl (fun K hK => ?_)
   refine e_call Hz Tryz.func39 rfl rfl rfl rfl (rbase_s R s p _ (rfM_is s p (m1.into [(1, 1), (2, 2), (3, 3), (4, 4), (5, 5), (6, 6), (7, 7), (8, 8)] (by decide) rfl)) hb) ?_
   rintro e w12 ⟨u12, c12, q12, b12, rfl, hc12, hd12, hb12⟩
   have m13 := m1.callFF 100 101 rfl rfl hb12 hc12 hd12
   clear m1
   clear hb12 hc12 hd12
   refine ⟨_, rfl, ?_⟩; clear Hz Az; intro Az Hz
   refine hK _ _ ?_; clear hK K
   refine wpList_plain rfl (fun K hK => ?_)
   refine e_alloc Hz m13 102 zc29rwo rfl ?_
   clear Hz Az m13; intro g15 Az w16 Hz m16 hB16 hg16
   clear hB16 hg16
   refine hK _ _ ?_; clear hK K
   refine wpList_plain rfl (fun K hK => ?_)
   refine e_storeW Hz m16 102 rfl rfl rfl rfl rfl sz29rwo ?_
   clear m16; intro w17 m17 hB17
   clear hB17
   refine hK _ _ ?_; clear hK K
   refine wpList_nil ?_
   refine hK2 _ _ ?_; clear hK2; try clear K2
   replace Hz : Has 65 [(0, _), (1, _), (4, _), (5, _)] Az := Hz.only [0, 1, 4, 5]
   refine regS Hz (.move rfl <| .fieldAddr (off := 0) rfl Tryz.underlying29 rfl (s := 0) (by kernel_rfl) rfl <| .loadB1 m17 (i := 102) rfl rfl rfl Tryz.underlying3 rfl <| .leq rfl rfl <| .nil) ?_
   clear Hz Az; intro Az Hz
   refine bool_cases Hz (t := 22) rfl ?_ ?_
   · intro hb _; exact absurd hb (by simp; omega)
   clear Hz; intro _ Hz
   refine wp_cond_false (Hz.ev (x := .tmp 22) rfl) ?_
   refine wp_skip ?_
   refine hK1 _ _ ?_; clear hK1; try clear K1
   have m24 : MemOk _ _ [(1, _), (2, _), (3, _), (4, _), (5, _), (6, _), (7, _), (8, _), (100, _), (101, _), (102, _)] _ := m17.only [1, 2, 3, 4, 5, 6, 7, 8, 100, 101, 102]; clear m17
   refine region_p 30 (B := [(1, _), (2, _), (3, _), (4, _), (5, _), (6, _), (7, _), (8, _), (100, _), (101, _), (102, _)]) (m24.to ⟨il, il, il, il, il, il, il, il, il, il, il, trivial⟩) m24 (by kernel_rfl) (fun w25 hP25 m25 => ?_); clear m24
   refine goR hP25 [0, 1, 2, 3, 4, 5, 6, 7, 8, 9, 10, 11, 12, 13, 14, 15, 16, 18, 19, 20, 21, 22, 23, 24, 25, 26, 27] [7, 14, 21, 26] 27 0 268304383 Hz (m25.to ⟨il, il, il, il, il, il, il, il, il, il, il, trivial⟩) (.move rfl <| .move rfl <| .move rfl <| .nilCheck rfl <| .fieldAddr (off := 0) rfl Tryz.underlying86 rfl (s := 4) (by kernel_rfl) rfl <| .fieldAddr (off := 2) rfl Tryz.underlying81 rfl (s := 1) (by kernel_rfl) rfl <| .fieldAddr (off := 2) rfl Tryz.underlying25 rfl (s := 0) (by kernel_rfl) rfl <| .loadB1 hh (i := 1) rfl rfl rfl Tryz.underlying3 rfl <| .move rfl <| .sub rfl rfl (IntWalk.i64_in _ (by omega)) <| .move rfl <| .nilCheck rfl <| .fieldAddr (off := 0) rfl Tryz.underlying86 rfl (s := 4) (by kernel_rfl) rfl <| .fieldAddr (off := 4) rfl Tryz.underlying81 rfl (s := 0) (by kernel_rfl) rfl <| .loadB1 hh (i := 1) rfl rfl rfl Tryz.underlying79 rfl <| .move rfl <| .sub rfl rfl (IntWalk.i64_in _ (by omega)) <| .move rfl <| .nilCheck rfl <| .fieldAddr (off := 22) rfl Tryz.underlying86 rfl (s := 0) (by kernel_rfl) rfl <| .loadB1 hh (i := 1) rfl rfl rfl Tryz.underlying3 rfl <| .move rfl <| .nilCheck rfl <| .fieldAddr (off := 0) rfl Tryz.underlying86 rfl (s := 4) (by kernel_rfl) rfl <| .fieldAddr (off := 4) rfl Tryz.underlying81 rfl (s := 0) (by kernel_rfl) rfl <| .loadB1 hh (i := 1) rfl rfl rfl Tryz.underlying79 rfl <| .move rfl <| .nil) ?_
   clear Hz Az; intro Az Hz
   refine stepE_only 17 rfl (by kernel_rfl) rfl (fun K hK => ?_)
   refine e_call Hz Tryz.func113 rfl rfl rfl rfl (rterm_s R s p _ (rfM_is s p (m25.into [(1, 1), (2, 2), (3, 3), (4, 4), (5, 5), (6, 6), (7, 7), (8, 8)] (by decide) rfl)) hb (nx s.x n - 1)) ?_
   rintro e w53 ⟨rfl, hb53⟩
   have m54 := m25.later hb53
   clear m25
   clear hb53
   refine ⟨_, rfl, ?_⟩; clear Hz Az; intro Az Hz
   refine hK _ _ (m54.to ⟨il, il, il, il, il, il, il, il, il, il, il, trivial⟩) ?_; clear hK K
   refine stepE_only 28 rfl (by kernel_rfl) rfl (fun K hK => ?_)
   refine e_call Hz Tryz.func71 rfl rfl rfl rfl (rfrom_s R s p _ (rfM_is s p (m54.into [(1, 1), (2, 2), (3, 3), (4, 4), (5, 5), (6, 6), (7, 7), (8, 8)] (by decide) rfl)) hb (nx s.x n) 4) ?_
   rintro e w56 ⟨p56, c56, rfl, hd56, hb56⟩
   have m57 := m54.callF 103 rfl hb56 hd56
   clear m54
   clear hb56 hd56
   refine ⟨_, rfl, ?_⟩; clear Hz Az; intro Az Hz
   refine hK _ _ (m57.to ⟨il, il, il, il, il, il, il, il, il, il, il, trivial⟩) ?_; clear hK K
   refine goA hP25 [29] 1 536870911 1073741823 Hz (m57.to ⟨il, il, il, il, il, il, il, il, il, il, il, trivial⟩) (.p (fun _ _ h_ => y_buildG h_ rfl zc55rwo ps55rwo rfl) <| .nil) ?_
   clear Hz Az; intro Az Hz
   refine stepE_end 30 rfl (by kernel_rfl) rfl (by rfl) (fun K hK => ?_)
   refine e_call Hz Tryz.func129 rfl rfl rfl rfl (rsendE_s _ R s p n 5 s.x.te (nx s.x n - 1) (termS s (nx s.x n - 1)) s.x.co false (fromL s.bi s.es (nx s.x n) 4) _ _ _ (by omega) (m57.into [(9, 103), (1, 1), (2, 2), (3, 3), (4, 4), (5, 5), (6, 6), (7, 7), (8, 8)] (by decide) rfl)) ?_
   rintro e w60 ⟨p60, rfl, hm60⟩
   have mx60 := m57.back hm60 [(1, 1), (2, 2), (3, 3), (4, 4), (5, 5), (6, 6), (7, 7), (8, 8)] (by decide); clear hm60 m57
   have m60 : MemOk _ _ [(1, _), (2, _), (3, _), (4, _), (5, _), (6, _), (7, _), (8, _), (100, _), (101, _), (102, _)] _ := mx60.only [1, 2, 3, 4, 5, 6, 7, 8, 100, 101, 102]; clear mx60
   refine ⟨_, rfl, ?_⟩; clear Hz Az; intro Az Hz
   refine hK _ _ ?_; clear hK K
   refine wpAnyE_done (by kernel_rfl) ?_ _
   try dsimp only [Exit.then]
   try refine out_here ?_
   refine (ret0 (fn := Tryz.f86) Hz rfl ?_)
   exact ⟨_, rfl, m60.only [1, 2, 3, 4, 5, 6, 7, 8]⟩
 rcases (show n = 0 ∨ n = 1 ∨ n = 2 ∨ n = 3 ∨ n = 4 ∨ n = 5 ∨ n = 6 by omega) with rfl | rfl | rfl | rfl | rfl | rfl | rfl
 ·
  refine wp_region_lit ?_
  refine goCh Hz (.move rfl <| .move rfl <| .nilCheck rfl <| .fieldAddr (off := 5) rfl Tryz.underlying86 rfl (s := 14) (by kernel_rfl) rfl <| .fieldAddr (off := 6) rfl Tryz.underlying84 rfl (s := 6) (by kernel_rfl) rfl <| .c rfl (fun _ h_ => y_idxA h_ rfl rfl Tryz.underlying82 sz3rwo 0 rfl (by decide) (off := 6) rfl) <| .loadB1 m0 (i := 1) rfl rfl rfl Tryz.underlying3 rfl <| .assign rfl <| .nil) ?_
  clear Hz Az; intro Az Hz
  refine wpList_nil ?_
  show K0 _ _
  exact hC0 _ _ ⟨Hz.only [0, 1, 4], m0.only [1, 2, 3, 4, 5, 6, 7, 8]⟩
 ·
  refine wp_region_lit ?_
  refine goCh Hz (.move rfl <| .move rfl <| .nilCheck rfl <| .fieldAddr (off := 5) rfl Tryz.underlying86 rfl (s := 14) (by kernel_rfl) rfl <| .fieldAddr (off := 6) rfl Tryz.underlying84 rfl (s := 6) (by kernel_rfl) rfl <| .c rfl (fun _ h_ => y_idxA h_ rfl rfl Tryz.underlying82 sz3rwo 1 rfl (by decide) (off := 7) rfl) <| .loadB1 m0 (i := 1) rfl rfl rfl Tryz.underlying3 rfl <| .assign rfl <| .nil) ?_
  clear Hz Az; intro Az Hz
  refine wpList_nil ?_
  show K0 _ _
  exact hC0 _ _ ⟨Hz.only [0, 1, 4], m0.only [1, 2, 3, 4, 5, 6, 7, 8]⟩
 ·
  refine wp_region_lit ?_
  refine goCh Hz (.move rfl <| .move rfl <| .nilCheck rfl <| .fieldAddr (off := 5) rfl Tryz.underlying86 rfl (s := 14) (by kernel_rfl) rfl <| .fieldAddr (off := 6) rfl Tryz.underlying84 rfl (s := 6) (by kernel_rfl) rfl <| .c rfl (fun _ h_ => y_idxA h_ rfl rfl Tryz.underlying82 sz3rwo 2 rfl (by decide) (off := 8) rfl) <| .loadB1 m0 (i := 1) rfl rfl rfl Tryz.underlying3 rfl <| .assign rfl <| .nil) ?_
  clear Hz Az; intro Az Hz
  refine wpList_nil ?_
  show K0 _ _
  exact hC0 _ _ ⟨Hz.only [0, 1, 4], m0.only [1, 2, 3, 4, 5, 6, 7, 8]⟩
 ·
  refine wp_region_lit ?_
  refine goCh Hz (.move rfl <| .move rfl <| .nilCheck rfl <| .fieldAddr (off := 5) rfl Tryz.underlying86 rfl (s := 14) (by kernel_rfl) rfl <| .fieldAddr (off := 6) rfl Tryz.underlying84 rfl (s := 6) (by kernel_rfl) rfl <| .c rfl (fun _ h_ => y_idxA h_ rfl rfl Tryz.underlying82 sz3rwo 3 rfl (by decide) (off := 9) rfl) <| .loadB1 m0 (i := 1) rfl rfl rfl Tryz.underlying3 rfl <| .assign rfl <| .nil) ?_
  clear Hz Az; intro Az Hz
  refine wpList_nil ?_
  show K0 _ _
  exact hC0 _ _ ⟨Hz.only [0, 1, 4], m0.only [1, 2, 3, 4, 5, 6, 7, 8]⟩
 ·
  refine wp_region_lit ?_
  refine goCh Hz (.move rfl <| .move rfl <| .nilCheck rfl <| .fieldAddr (off := 5) rfl Tryz.underlying86 rfl (s := 14) (by kernel_rfl) rfl <| .fieldAddr (off := 6) rfl Tryz.underlying84 rfl (s := 6) (by kernel_rfl) rfl <| .c rfl (fun _ h_ => y_idxA h_ rfl rfl Tryz.underlying82 sz3rwo 4 rfl (by decide) (off := 10) rfl) <| .loadB1 m0 (i := 1) rfl rfl rfl Tryz.underlying3 rfl <| .assign rfl <| .nil) ?_
  clear Hz Az; intro Az Hz
  refine wpList_nil ?_
  show K0 _ _
  exact hC0 _ _ ⟨Hz.only [0, 1, 4], m0.only [1, 2, 3, 4, 5, 6, 7, 8]⟩
 ·
  refine wp_region_lit ?_
  refine goCh Hz (.move rfl <| .move rfl <| .nilCheck rfl <| .fieldAddr (off := 5) rfl Tryz.underlying86 rfl (s := 14) (by kernel_rfl) rfl <| .fieldAddr (off := 6) rfl Tryz.underlying84 rfl (s := 6) (by kernel_rfl) rfl <| .c rfl (fun _ h_ => y_idxA h_ rfl rfl Tryz.underlying82 sz3rwo 5 rfl (by decide) (off := 11) rfl) <| .loadB1 m0 (i := 1) rfl rfl rfl Tryz.underlying3 rfl <| .assign rfl <| .nil) ?_
  clear Hz Az; intro Az Hz
  refine wpList_nil ?_
  show K0 _ _
  exact hC0 _ _ ⟨Hz.only [0, 1, 4], m0.only [1, 2, 3, 4, 5, 6, 7, 8]⟩
 ·
  refine wp_region_lit ?_
  refine goCh Hz (.move rfl <| .move rfl <| .nilCheck rfl <| .fieldAddr (off := 5) rfl Tryz.underlying86 rfl (s := 14) (by kernel_rfl) rfl <| .fieldAddr (off := 6) rfl Tryz.underlying84 rfl (s := 6) (by kernel_rfl) rfl <| .c rfl (fun _ h_ => y_idxA h_ rfl rfl Tryz.underlying82 sz3rwo 6 rfl (by decide) (off := 12) rfl) <| .loadB1 m0 (i := 1) rfl rfl rfl Tryz.underlying3 rfl <| .assign rfl <| .nil) ?_
  clear Hz Az; intro Az Hz
  refine wpList_nil ?_
  show K0 _ _
  exact hC0 _ _ ⟨Hz.only [0, 1, 4], m0.only [1, 2, 3, 4, 5, 6, 7, 8]⟩
theorem rtell_s (X : Cx) (R : Nat) (s : RS) (p : RP) (w0 : World) (hb : RLS s) (hQ : s.ms.length ≤ 900000) (hnx : ∀ n ∈ othS s, s.bi < nx s.x n ∧ nx s.x n ≤ 1000000000000000000) (m0 : MemOk X w0 (rfM R s p) w0) :
   Calls Tryz.prog 46 #[.pointer (some ⟨R, 0, none⟩)] w0 fun e w' => ∃ p', e = .returned (.tuple #[]) ∧ MemOk X w0 (rfM R (tellS s) p') w' := by
 refine enter (fn := Tryz.f46) Tryz.func46 rfl Tryz.ntmps46 rfl (fun Az Hz => ?_)
 simp only [List.zipIdx_cons, List.zipIdx_nil, List.map_cons, List.map_nil, Nat.reduceAdd, Nat.zero_add] at Hz
 have hol := othS_len s
 refine wp_seq_k (fun K0 hK0 => ?_)
 refine wp_region_lit ?_
 refine goCh Hz (.move rfl <| .nilCheck rfl <| .fieldAddr (off := 0) rfl Tryz.underlying86 rfl (s := 4) (by kernel_rfl) rfl <| .nil) ?_
 clear Hz Az; intro Az Hz
 refine wpList_plain rfl (fun K hK => ?_)
 refine e_call Hz Tryz.func85 rfl rfl rfl rfl (rothers_s R s p _ (rfM_is s p (m0.into [(1, 1), (2, 2), (3, 3), (4, 4), (5, 5), (6, 6), (7, 7), (8, 8)] (by decide) rfl)) hb) ?_
 rintro e w7 ⟨qo, co9, rfl, hd7, hb7⟩
 have m8 := m0.callF 20 rfl hb7 hd7
 clear m0
 clear hb7 hd7
 refine ⟨_, rfl, ?_⟩; clear Hz Az; intro Az Hz
 refine hK _ _ ?_; clear hK K
 refine goCh Hz (.len rfl Tryz.underlying26 <| .move rfl <| .nil) ?_
 clear Hz Az; intro Az Hz
 refine wpList_nil ?_
 refine hK0 _ _ ?_; clear hK0; try clear K0
 refine wp_block ?_
 refine wp_loop_ghost (fun g a w => ∃ (k : Nat) (p1 : RP), k ≤ (othS s).length ∧ g = (othS s).length - k ∧ Has 17 [(0, .pointer (some ⟨R, 0, none⟩)), (7, .slice qo (othS s).length co9), (8, .int .i64 ((othS s).length : Nat)), (9, .int .i64 (k : Nat))] a ∧ MemOk X w0 ((20, .dat (.slice qo (othS s).length co9) (.ns .i64 (othS s))) :: rfM R (addM s (((othS s).take k).map fun n => toM s n (wordM s n))) p1) w) ((othS s).length) ?_ ?_
 · exact ⟨0, p, Nat.zero_le _, rfl, Hz.only [0, 7, 8, 9], (tell_zero s) ▸ m8.ren [(20, 20), (1, 1), (2, 2), (3, 3), (4, 4), (5, 5), (6, 6), (7, 7), (8, 8)] (by decide)⟩
 ·
  clear Hz m8
  rintro g Az w12 ⟨k, p1, hkl, hg, Hz, m12⟩
  refine regS Hz (.lss rfl rfl <| .nil) ?_
  clear Hz Az; intro Az Hz
  refine wp_seq_k (fun K1 hK1 => ?_)
  refine bool_cases Hz (t := 10) rfl ?_ ?_
  ·
   clear Hz; intro hb14 Hz
   try simp only [Q1x, Q2x, Q3x, Q4x, Q5x, Q6x, Q7x, Q8x, Q9x, Q0x, Qax, Qbx] at hb14
   have hk : k < (othS s).length := by omega
   refine wp_cond_true (Hz.ev (x := .tmp 10) rfl) ?_
   refine wp_skip ?_
   refine hK1 _ _ ?_; clear hK1; try clear K1
   refine wp_seq_k (fun K2 hK2 => ?_)
   refine wp_block ?_
   refine wp_seq_k (fun K3 hK3 => ?_)
   refine wp_region_lit ?_
   obtain ⟨b16, o16, hp16, m16⟩ := m12.openN (i := 20) rfl (k) hk 100 rfl
   cases hp16; clear m12
   refine goCh Hz (.c rfl (fun _ h_ => y_idx h_ rfl rfl Tryz.underlying26 sz3rtl (k) rfl hk) <| .loadC0 m16 (i := 100) rfl rfl Tryz.underlying3 rfl <| .assign rfl <| .nil) ?_
   clear Hz Az; intro Az Hz
   refine wpList_nil ?_
   refine hK3 _ _ ?_; clear hK3; try clear K3
   refine wp_region_lit ?_
   refine goCh Hz (.move rfl <| .move rfl <| .nil) ?_
   clear Hz Az; intro Az Hz
   refine wpList_plain rfl (fun K hK => ?_)
   refine e_call Hz Tryz.func86 rfl rfl rfl rfl (rword_s _ R (addM s (((othS s).take k).map fun n => toM s n (wordM s n))) p1 ((othS s).getD k 0) _ hb (by simp; omega) (othS_in s hk) (hnx _ (getD_mem hk)).1 (hnx _ (getD_mem hk)).2 (m16.into [(1, 1), (2, 2), (3, 3), (4, 4), (5, 5), (6, 6), (7, 7), (8, 8)] (by decide) rfl)) ?_
   rintro e w22 ⟨p22, rfl, hm22⟩
   have mx22 := m16.back hm22 [(1, 1), (2, 2), (3, 3), (4, 4), (5, 5), (6, 6), (7, 7), (8, 8)] (by decide); clear hm22 m16
   have m22 : MemOk _ _ [(1, _), (2, _), (3, _), (4, _), (5, _), (6, _), (7, _), (8, _), (20, _), (100, _)] _ := mx22.only [1, 2, 3, 4, 5, 6, 7, 8, 20, 100]; clear mx22
   refine ⟨_, rfl, ?_⟩; clear Hz Az; intro Az Hz
   refine hK _ _ ?_; clear hK K
   refine wpList_nil ?_
   refine hK2 _ _ ?_; clear hK2; try clear K2
   replace Hz : Has 17 [(0, _), (7, _), (8, _), (9, _)] Az := Hz.only [0, 7, 8, 9]
   refine wp_region_lit ?_
   refine goCh Hz (.add rfl rfl (r := ((k + 1 : Nat) : Int)) (by rw [IntWalk.i64_in _ (by omega)]; omega) <| .move rfl <| .nil) ?_
   clear Hz Az; intro Az Hz
   refine wpList_nil ?_
   show ∃ n', n' < _ ∧ _
   exact ⟨(othS s).length - (k + 1), by omega, k + 1, _, by omega, rfl, Hz.only [0, 7, 8, 9], (tell_step s hk) ▸ m22.only [20, 1, 2, 3, 4, 5, 6, 7, 8]⟩
  ·
   clear Hz; intro hb14 Hz
   try simp only [Q1x, Q2x, Q3x, Q4x, Q5x, Q6x, Q7x, Q8x, Q9x, Q0x, Qax, Qbx] at hb14
   obtain rfl : k = (othS s).length := by omega
   refine wp_cond_false (Hz.ev (x := .tmp 10) rfl) ?_
   refine wp_exit ?_
   try dsimp only [Exit.then]
   try refine out_here ?_
   refine (ret0 (fn := Tryz.f46) Hz rfl ?_)
   rw [List.take_length] at m12
   exact ⟨_, rfl, m12.only [1, 2, 3, 4, 5, 6, 7, 8]⟩
end Go.Proofs.YtndnnlbdnjndiaaGreat.K
