/- General laws of walks. -/
import Derived.Test.YtndnnlbdnjndiaaGreatG9
namespace Go.Proofs.YtndnnlbdnjndiaaGreat.K
open Go.ChangeShapes Go.WideShapes Go.ChangeAt Go.RowKit
set_option linter.unusedVariables false
set_option linter.unusedSimpArgs false
section
theorem ps55rca : placesS Tryz.prog 55 = some [(0, 1), (1, 1), (2, 1), (3, 1), (4, 1), (5, 1), (6, 1), (7, 1), (8, 1), (9, 1), (10, 4), (14, 1), (15, 1), (16, 1), (17, 1), (18, 1)] := by kernel_rfl
theorem sz3rca : (Tryz.prog.info? 3).map (·.size) = some 1 := by kernel_rfl
theorem zc55rca : ((Tryz.prog.info? 55).bind (·.zero)).map (·.cells.toList) = some [.int .i64 0, .int .i64 0, .int .i64 0, .int .i64 0, .int .i64 0, .int .i64 0, .int .i64 0, .int .i64 0, .bool false, .slice none 0 0, .int .i64 0, .int .i64 0, .slice none 0 0, .slice none 0 0, .slice none 0 0, .int .i64 0, .int .i64 0, .int .i64 0, .int .i64 0] := by kernel_rfl
theorem ps55rwo : placesS Tryz.prog 55 = some [(0, 1), (1, 1), (2, 1), (3, 1), (4, 1), (5, 1), (6, 1), (7, 1), (8, 1), (9, 1), (10, 4), (14, 1), (15, 1), (16, 1), (17, 1), (18, 1)] := by kernel_rfl
theorem sz3rwo : (Tryz.prog.info? 3).map (·.size) = some 1 := by kernel_rfl
theorem sz29rwo : (Tryz.prog.info? 29).map (·.size) = some 4 := by kernel_rfl
theorem zc29rwo : ((Tryz.prog.info? 29).bind (·.zero)).map (·.cells.toList) = some [.int .i64 0, .int .i64 0, .slice none 0 0, .slice none 0 0] := by kernel_rfl
theorem zc55rwo : ((Tryz.prog.info? 55).bind (·.zero)).map (·.cells.toList) = some [.int .i64 0, .int .i64 0, .int .i64 0, .int .i64 0, .int .i64 0, .int .i64 0, .int .i64 0, .int .i64 0, .bool false, .slice none 0 0, .int .i64 0, .int .i64 0, .slice none 0 0, .slice none 0 0, .slice none 0 0, .int .i64 0, .int .i64 0, .int .i64 0, .int .i64 0] := by kernel_rfl
theorem sz3rtl : (Tryz.prog.info? 3).map (·.size) = some 1 := by kernel_rfl

theorem getD_mem {l : List Int} {k : Nat} (h : k < l.length) : l.getD k 0 ∈ l := by rw [List.getD, List.getElem?_eq_getElem h]; exact List.getElem_mem h
theorem ofL_in {l : List Int} {n : Int} (h : n ∈ canon l) : 0 ≤ n ∧ n ≤ 6 := by
 have h := ((canon_mem l n).1 h).2
 omega
theorem memS_in (s : RS) {n : Int} (h : n ∈ memS s) : 0 ≤ n ∧ n ≤ 6 := ofL_in h
theorem othS_mem (s : RS) {n : Int} (h : n ∈ othS s) : 0 ≤ n ∧ n ≤ 6 := ofL_in (List.mem_filter.1 h).1
theorem othS_in (s : RS) {k : Nat} (h : k < (othS s).length) : 0 ≤ (othS s).getD k 0 ∧ (othS s).getD k 0 ≤ 6 := othS_mem s (getD_mem h)
theorem take_getD {l : List Int} {k : Nat} (h : k < l.length) : l.take (k + 1) = l.take k ++ [l.getD k 0] := by
 rw [List.take_succ_eq_append_getElem h, List.getD, List.getElem?_eq_getElem h]; rfl
theorem canv_zero (s : RS) (kd tm : Int) : s = (addM s (((othS s).take 0).map fun n => toM s n (canvM s kd tm))) := by simp [addM]
theorem canv_step (s : RS) (kd tm : Int) {k : Nat} (h : k < (othS s).length) : addM (addM s (((othS s).take k).map fun n => toM s n (canvM s kd tm))) [toM s ((othS s).getD k 0) (canvM s kd tm)] = (addM s (((othS s).take (k + 1)).map fun n => toM s n (canvM s kd tm))) := by
 rw [take_getD h, List.map_append]; simp [addM]
theorem tell_zero (s : RS) : s = (addM s (((othS s).take 0).map fun n => toM s n (wordM s n))) := by simp [addM]
theorem tell_step (s : RS) {k : Nat} (h : k < (othS s).length) : addM (addM s (((othS s).take k).map fun n => toM s n (wordM s n))) [toM s ((othS s).getD k 0) (wordM s ((othS s).getD k 0))] = (addM s (((othS s).take (k + 1)).map fun n => toM s n (wordM s n))) := by
 rw [take_getD h, List.map_append]; simp [addM]
set_option maxRecDepth 100000
set_option maxHeartbeats 4000000
theorem rsend_s (X : Cx) (R : Nat) (s : RS) (p : RP) (n : Int) (r : RM) (pe pc pd pf : Option Addr) (ce cc cd cf : Nat) (w0 : World) (hQ : s.ms.length ≤ 1000000) (m0 : MemOk X w0 ((9, .dat (.slice pe (r.es.map entD).length ce) (.l 4 (r.es.map entD))) :: (10, .dat (.slice pc r.cf.length cc) (.ns .i64 r.cf)) :: (11, .dat (.slice pd r.bd.length cd) (.ns .u8 r.bd)) :: (12, .dat (.slice pf r.da.length cf) (.ns .u8 r.da)) :: rfM R s p) w0) :
   Calls Tryz.prog 129 #[.pointer (some ⟨R, 0, none⟩), .int .i64 n, .agg #[.int .i64 r.k, .int .i64 r.g, .int .i64 r.f, .int .i64 r.t, .int .i64 r.te, .int .i64 r.ix, .int .i64 r.lt, .int .i64 r.co, .bool r.ok, .slice pe (r.es.map entD).length ce, .int .i64 r.bi, .int .i64 r.bt, .slice pc r.cf.length cc, .slice pd r.bd.length cd, .slice pf r.da.length cf, .int .i64 r.vo, .int .i64 r.ch, .int .i64 r.ma, .int .i64 r.fl]] w0 fun e w' => ∃ p', e = .returned (.tuple #[]) ∧ MemOk X w0 (rfM R (addM s [toM s n r]) p') w' := by
 refine (rsend_x _ R p.L s.x _ _ s.re s.ms n r pe pc pd pf p.pm ce cc cd cf p.cm w0 hQ (m0.into [(1, 1), (7, 7), (9, 9), (10, 10), (11, 11), (12, 12)] (by decide) rfl)).mono ?_
 rintro e w' ⟨q, c, rfl, hm⟩
 have mb := m0.back hm [(1, 1), (7, 7)] (by decide)
 exact ⟨{ p with pm := q, cm := c }, rfl, mb.only [1, 2, 3, 4, 5, 6, 7, 8]⟩
theorem rsendE_s (X : Cx) (R : Nat) (s : RS) (p : RP) (n k te ix lt co : Int) (ok : Bool) (es : List En) (pe : Option Addr) (ce : Nat) (w0 : World) (hQ : s.ms.length ≤ 1000000) (m0 : MemOk X w0 ((9, .dat (.slice pe (es.map entD).length ce) (.l 4 (es.map entD))) :: rfM R s p) w0) :
   Calls Tryz.prog 129 #[.pointer (some ⟨R, 0, none⟩), .int .i64 n, .agg #[.int .i64 k, .int .i64 0, .int .i64 0, .int .i64 0, .int .i64 te, .int .i64 ix, .int .i64 lt, .int .i64 co, .bool ok, .slice pe (es.map entD).length ce, .int .i64 0, .int .i64 0, .slice none 0 0, .slice none 0 0, .slice none 0 0, .int .i64 0, .int .i64 0, .int .i64 0, .int .i64 0]] w0 fun e w' => ∃ p', e = .returned (.tuple #[]) ∧ MemOk X w0 (rfM R (addM s [toM s n ⟨k, 0, 0, 0, te, ix, lt, co, ok, es, 0, 0, [], [], [], 0, 0, 0, 0⟩]) p') w' := by
 have m1 := m0.dat 10 rfl (Rd.nilN _ _ .i64 none)
 have m2 := m1.dat 11 rfl (Rd.nilN _ _ .u8 none)
 have m3 := m2.dat 12 rfl (Rd.nilN _ _ .u8 none)
 exact rsend_s X R s p n ⟨k, 0, 0, 0, te, ix, lt, co, ok, es, 0, 0, [], [], [], 0, 0, 0, 0⟩ pe none none none ce 0 0 0 w0 hQ (m3.only [9, 10, 11, 12, 1, 2, 3, 4, 5, 6, 7, 8])
theorem rsend0_s (X : Cx) (R : Nat) (s : RS) (p : RP) (n k te ix lt : Int) (ok : Bool) (w0 : World) (hQ : s.ms.length ≤ 1000000) (m0 : MemOk X w0 (rfM R s p) w0) :
   Calls Tryz.prog 129 #[.pointer (some ⟨R, 0, none⟩), .int .i64 n, .agg #[.int .i64 k, .int .i64 0, .int .i64 0, .int .i64 0, .int .i64 te, .int .i64 ix, .int .i64 lt, .int .i64 0, .bool ok, .slice none 0 0, .int .i64 0, .int .i64 0, .slice none 0 0, .slice none 0 0, .slice none 0 0, .int .i64 0, .int .i64 0, .int .i64 0, .int .i64 0]] w0 fun e w' => ∃ p', e = .returned (.tuple #[]) ∧ MemOk X w0 (rfM R (addM s [toM s n ⟨k, 0, 0, 0, te, ix, lt, 0, ok, [], 0, 0, [], [], [], 0, 0, 0, 0⟩]) p') w' := by
 have m1 := m0.dat 9 rfl (Rd.nil4 _ _)
 exact rsendE_s X R s p n k te ix lt 0 ok [] none 0 w0 hQ m1
theorem rsave_s (X : Cx) (R : Nat) (s : RS) (p : RP) (r : RR) (pe pc pd : Option Addr) (ce cc cd : Nat) (w0 : World) (hQ : s.rs.length ≤ 1000000) (m0 : MemOk X w0 ((9, .dat (.slice pe r.ed.length ce) (.ns .u8 r.ed)) :: (10, .dat (.slice pc r.cf.length cc) (.ns .i64 r.cf)) :: (11, .dat (.slice pd r.bd.length cd) (.ns .u8 r.bd)) :: rfM R s p) w0) :
   Calls Tryz.prog 73 #[.pointer (some ⟨R, 0, none⟩), .agg #[.int .i64 r.g, .int .i64 r.k, .int .i64 r.te, .int .i64 r.vo, .int .i64 r.ei, .int .i64 r.et, .int .i64 r.ek, .slice pe r.ed.length ce, .int .i64 r.bi, .int .i64 r.bt, .slice pc r.cf.length cc, .slice pd r.bd.length cd]] w0 fun e w' => ∃ p', e = .returned (.tuple #[]) ∧ MemOk X w0 ((9, .dat (.slice pe r.ed.length ce) (.ns .u8 r.ed)) :: (10, .dat (.slice pc r.cf.length cc) (.ns .i64 r.cf)) :: (11, .dat (.slice pd r.bd.length cd) (.ns .u8 r.bd)) :: rfM R (addR s r) p') w' := by
 refine (rsave_x _ R p.L s.x _ _ s.re s.rs r pe pc pd p.pq ce cc cd p.cq w0 hQ (m0.into [(1, 1), (8, 8), (9, 9), (10, 10), (11, 11)] (by decide) rfl)).mono ?_
 rintro e w' ⟨q, c, rfl, hm⟩
 have mb := m0.back hm [(1, 1), (8, 8), (9, 9), (10, 10), (11, 11)] (by decide)
 exact ⟨{ p with pq := q, cq := c }, rfl, mb.only [9, 10, 11, 1, 2, 3, 4, 5, 6, 7, 8]⟩
theorem rcanvass_s (X : Cx) (R : Nat) (s : RS) (p : RP) (kd tm : Int) (w0 : World) (hb : RLS s) (hQ : s.ms.length ≤ 900000) (m0 : MemOk X w0 (rfM R s p) w0) :
   Calls Tryz.prog 92 #[.pointer (some ⟨R, 0, none⟩), .int .i64 kd, .int .i64 tm] w0 fun e w' => ∃ p', e = .returned (.tuple #[]) ∧ MemOk X w0 (rfM R (canvS s kd tm) p') w' := by
 refine enter (fn := Tryz.f92) Tryz.func92 rfl Tryz.ntmps92 rfl (fun Az Hz => ?_)
 simp only [List.zipIdx_cons, List.zipIdx_nil, List.map_cons, List.map_nil, Nat.reduceAdd, Nat.zero_add] at Hz
 have hol := othS_len s
 refine wp_seq_k (fun K0 hK0 => ?_)
 refine wp_region_lit ?_
 refine goCh Hz (.move rfl <| .nilCheck rfl <| .fieldAddr (off := 0) rfl Tryz.underlying86 rfl (s := 4) (by kernel_rfl) rfl <| .fieldAddr (off := 4) rfl Tryz.underlying81 rfl (s := 0) (by kernel_rfl) rfl <| .loadB1 m0 (i := 1) rfl rfl rfl Tryz.underlying79 rfl <| .nilCheck rfl <| .fieldAddr (off := 0) rfl Tryz.underlying123 rfl (s := 4) (by kernel_rfl) rfl <| .nil) ?_
 clear Hz Az; intro Az Hz
 refine wpList_plain rfl (fun K hK => ?_)
 refine e_call Hz Tryz.func75 rfl rfl rfl rfl (rlast_s R s p _ (rfM_is s p (m0.into [(1, 1), (2, 2), (3, 3), (4, 4), (5, 5), (6, 6), (7, 7), (8, 8)] (by decide) rfl)) hb) ?_
 rintro e w15 ⟨rfl, hb15⟩
 have m16 := m0.later hb15
 clear m0
 clear hb15
 refine ⟨_, rfl, ?_⟩; clear Hz Az; intro Az Hz
 refine hK _ _ ?_; clear hK K
 refine goCh Hz (.assign rfl .nil) ?_
 clear Hz Az; intro Az Hz
 refine wpList_nil ?_
 refine hK0 _ _ ?_; clear hK0; try clear K0
 replace Hz : Has 41 [(0, _), (1, _), (2, _), (6, _)] Az := Hz.only [0, 1, 2, 6]
 refine wp_seq_k (fun K1 hK1 => ?_)
 refine wp_region_lit ?_
 refine goCh Hz (.move rfl <| .nilCheck rfl <| .fieldAddr (off := 0) rfl Tryz.underlying86 rfl (s := 4) (by kernel_rfl) rfl <| .nil) ?_
 clear Hz Az; intro Az Hz
 refine wpList_plain rfl (fun K hK => ?_)
 refine e_call Hz Tryz.func85 rfl rfl rfl rfl (rothers_s R s p _ (rfM_is s p (m16.into [(1, 1), (2, 2), (3, 3), (4, 4), (5, 5), (6, 6), (7, 7), (8, 8)] (by decide) rfl)) hb) ?_
 rintro e w26 ⟨qo, co9, rfl, hd26, hb26⟩
 have m27 := m16.callF 20 rfl hb26 hd26
 clear m16
 clear hb26 hd26
 refine ⟨_, rfl, ?_⟩; clear Hz Az; intro Az Hz
 refine hK _ _ ?_; clear hK K
 refine goCh Hz (.len rfl Tryz.underlying26 <| .move rfl <| .nil) ?_
 clear Hz Az; intro Az Hz
 refine wpList_nil ?_
 refine hK1 _ _ ?_; clear hK1; try clear K1
 refine wp_block ?_
 refine wp_loop_ghost (fun g a w => ∃ (k : Nat) (p1 : RP), k ≤ (othS s).length ∧ g = (othS s).length - k ∧ Has 41 [(0, .pointer (some ⟨R, 0, none⟩)), (1, .int .i64 kd), (2, .int .i64 tm), (6, .int .i64 (lastS s)), (20, .slice qo (othS s).length co9), (21, .int .i64 ((othS s).length : Nat)), (22, .int .i64 (k : Nat))] a ∧ MemOk X w0 ((20, .dat (.slice qo (othS s).length co9) (.ns .i64 (othS s))) :: rfM R (addM s (((othS s).take k).map fun n => toM s n (canvM s kd tm))) p1) w) ((othS s).length) ?_ ?_
 · exact ⟨0, p, Nat.zero_le _, rfl, Hz.only [0, 1, 2, 6, 20, 21, 22], (canv_zero s kd tm) ▸ m27.ren [(20, 20), (1, 1), (2, 2), (3, 3), (4, 4), (5, 5), (6, 6), (7, 7), (8, 8)] (by decide)⟩
 ·
  clear Hz m27
  rintro g Az w31 ⟨k, p1, hkl, hg, Hz, m31⟩
  refine regS Hz (.lss rfl rfl <| .nil) ?_
  clear Hz Az; intro Az Hz
  refine wp_seq_k (fun K2 hK2 => ?_)
  refine bool_cases Hz (t := 23) rfl ?_ ?_
  ·
   clear Hz; intro hb33 Hz
   try simp only [Q1x, Q2x, Q3x, Q4x, Q5x, Q6x, Q7x, Q8x, Q9x, Q0x, Qax, Qbx] at hb33
   have hk : k < (othS s).length := by omega
   refine wp_cond_true (Hz.ev (x := .tmp 23) rfl) ?_
   refine wp_skip ?_
   refine hK2 _ _ ?_; clear hK2; try clear K2
   refine wp_seq_k (fun K3 hK3 => ?_)
   refine wp_block ?_
   refine wp_seq_k (fun K4 hK4 => ?_)
   refine wp_region_lit ?_
   obtain ⟨b35, o35, hp35, m35⟩ := m31.openN (i := 20) rfl (k) hk 100 rfl
   cases hp35; clear m31
   refine goCh Hz (.c rfl (fun _ h_ => y_idx h_ rfl rfl Tryz.underlying26 sz3rca (k) rfl hk) <| .loadC0 m35 (i := 100) rfl rfl Tryz.underlying3 rfl <| .assign rfl <| .nil) ?_
   clear Hz Az; intro Az Hz
   refine wpList_nil ?_
   refine hK4 _ _ ?_; clear hK4; try clear K4
   refine wp_region_lit ?_
   refine goCh Hz (.move rfl <| .move rfl <| .move rfl <| .move rfl <| .move rfl <| .move rfl <| .nilCheck rfl <| .fieldAddr (off := 0) rfl Tryz.underlying86 rfl (s := 4) (by kernel_rfl) rfl <| .fieldAddr (off := 4) rfl Tryz.underlying81 rfl (s := 0) (by kernel_rfl) rfl <| .loadB1 m35 (i := 1) rfl rfl rfl Tryz.underlying79 rfl <| .move rfl <| .nil) ?_
   clear Hz Az; intro Az Hz
   refine wpList_plain rfl (fun K hK => ?_)
   refine e_call Hz Tryz.func113 rfl rfl rfl rfl (rterm_s R (addM s (((othS s).take k).map fun n => toM s n (canvM s kd tm))) p1 _ (rfM_is (addM s (((othS s).take k).map fun n => toM s n (canvM s kd tm))) p1 (m35.into [(1, 1), (2, 2), (3, 3), (4, 4), (5, 5), (6, 6), (7, 7), (8, 8)] (by decide) rfl)) hb (lastS s)) ?_
   rintro e w50 ⟨rfl, hb50⟩
   have m51 := m35.later hb50
   clear m35
   clear hb50
   refine ⟨_, rfl, ?_⟩; clear Hz Az; intro Az Hz
   refine hK _ _ ?_; clear hK K
   refine goCh Hz (.buildG rfl zc55rca ps55rca rfl .nil) ?_
   clear Hz Az; intro Az Hz
   refine wpList_plain rfl (fun K hK => ?_)
   refine e_call Hz Tryz.func129 rfl rfl rfl rfl (rsend0_s _ R (addM s (((othS s).take k).map fun n => toM s n (canvM s kd tm))) p1 ((othS s).getD k 0) kd tm (lastS s) (termS s (lastS s)) false _ (by simp; omega) (m51.into [(1, 1), (2, 2), (3, 3), (4, 4), (5, 5), (6, 6), (7, 7), (8, 8)] (by decide) rfl)) ?_
   rintro e w54 ⟨p54, rfl, hm54⟩
   have mx54 := m51.back hm54 [(1, 1), (2, 2), (3, 3), (4, 4), (5, 5), (6, 6), (7, 7), (8, 8)] (by decide); clear hm54 m51
   have m54 : MemOk _ _ [(1, _), (2, _), (3, _), (4, _), (5, _), (6, _), (7, _), (8, _), (20, _), (100, _)] _ := mx54.only [1, 2, 3, 4, 5, 6, 7, 8, 20, 100]; clear mx54
   refine ⟨_, rfl, ?_⟩; clear Hz Az; intro Az Hz
   refine hK _ _ ?_; clear hK K
   refine wpList_nil ?_
   refine hK3 _ _ ?_; clear hK3; try clear K3
   replace Hz : Has 41 [(0, _), (1, _), (2, _), (6, _), (20, _), (21, _), (22, _)] Az := Hz.only [0, 1, 2, 6, 20, 21, 22]
   refine wp_region_lit ?_
   refine goCh Hz (.add rfl rfl (r := ((k + 1 : Nat) : Int)) (by rw [IntWalk.i64_in _ (by omega)]; omega) <| .move rfl <| .nil) ?_
   clear Hz Az; intro Az Hz
   refine wpList_nil ?_
   show ∃ n', n' < _ ∧ _
   exact ⟨(othS s).length - (k + 1), by omega, k + 1, _, by omega, rfl, Hz.only [0, 1, 2, 6, 20, 21, 22], (canv_step s kd tm hk) ▸ m54.only [20, 1, 2, 3, 4, 5, 6, 7, 8]⟩
  ·
   clear Hz; intro hb33 Hz
   try simp only [Q1x, Q2x, Q3x, Q4x, Q5x, Q6x, Q7x, Q8x, Q9x, Q0x, Qax, Qbx] at hb33
   obtain rfl : k = (othS s).length := by omega
   refine wp_cond_false (Hz.ev (x := .tmp 23) rfl) ?_
   refine wp_exit ?_
   try dsimp only [Exit.then]
   try refine out_here ?_
   refine (ret0 (fn := Tryz.f92) Hz rfl ?_)
   rw [List.take_length] at m31
   exact ⟨_, rfl, m31.only [1, 2, 3, 4, 5, 6, 7, 8]⟩
theorem rword_s (X : Cx) (R : Nat) (s : RS) (p : RP) (n : Int) (w0 : World) (hb : RLS s) (hQ : s.ms.length ≤ 1000000) (hn : 0 ≤ n ∧ n ≤ 6) (h1 : s.bi < nx s.x n) (h2 : nx s.x n ≤ 1000000000000000000) (m0 : MemOk X w0 (rfM R s p) w0) :
   Calls Tryz.prog 86 #[.pointer (some ⟨R, 0, none⟩), .int .i64 n] w0 fun e w' => ∃ p', e = .returned (.tuple #[]) ∧ MemOk X w0 (rfM R (addM s [toM s n (wordM s n)]) p') w' := by
 have hbi := hb.b
 refine enter (fn := Tryz.f86) Tryz.func86 rfl Tryz.ntmps86 rfl (fun Az Hz => ?_)
 simp only [List.zipIdx_cons, List.zipIdx_nil, List.map_cons, List.map_nil, Nat.reduceAdd, Nat.zero_add] at Hz
 refine wp_seq_k (fun K0 hK0 => ?_)
 have hC0 : ∀ (a : Act) (w : World), (Has 65 [(0, .pointer (some ⟨R, 0, none⟩)), (1, .int .i64 n), (4, .int .i64 (nx s.x n))] a ∧ MemOk X w0 (rfM R s p) w) → K0 a w := by
   clear Hz m0
   rintro Az w1 ⟨Hz, m1⟩
   refine hK0 _ _ ?_; clear hK0; try clear K0
   refine wp_seq_k (fun K1 hK1 => ?_)
   refine wp_seq_k (fun K2 hK2 => ?_)
   refine wp_region_lit ?_
   refine goCh Hz (.move rfl <| .nilCheck rfl <| .fieldAddr (off := 0) rfl Tryz.underlying86 rfl (s := 4) (by kernel_rfl) rfl <| .fieldAddr (off := 4) rfl Tryz.underlying81 rfl (s := 0) (by kernel_rfl) rfl <| .loadB1 m1 (i := 1) rfl rfl rfl Tryz.underlying79 rfl <| .nil) ?_
   clear Hz Az; intro Az Hz
   refine wpList_plain rfl (fun K hK => ?_)
   refine e_call Hz Tryz.func39 rfl rfl rfl rfl (rbase_s R s p _ (rfM_is s p (m1.into [(1, 1), (2, 2), (3, 3), (4, 4), (5, 5), (6, 6), (7, 7), (8, 8)] (by decide) rfl)) hb) ?_
   rintro e w12 ⟨u12, c12, q12, b12, rfl, hc12, hd12, hb12⟩
   have m13 := m1.callFF 100 101 rfl rfl hb12 hc12 hd12
   clear m1
   clear hb12 hc12 hd12
   refine ⟨_, rfl, ?_⟩; clear Hz Az; intro Az Hz
   refine hK _ _ ?_; clear hK K
   refine wpList_plain rfl (fun K hK => ?_)
   refine e_alloc Hz m13 102 zc29rwo rfl ?_
   clear Hz Az m13; intro g15 Az w16 Hz m16 hB16 hg16
   clear hB16 hg16
   refine hK _ _ ?_; clear hK K
   refine wpList_plain rfl (fun K hK => ?_)
   refine e_storeW Hz m16 102 rfl rfl rfl rfl rfl sz29rwo ?_
   clear m16; intro w17 m17 hB17
   clear hB17
   refine hK _ _ ?_; clear hK K
   refine wpList_nil ?_
   refine hK2 _ _ ?_; clear hK2; try clear K2
   replace Hz : Has 65 [(0, _), (1, _), (4, _), (5, _)] Az := Hz.only [0, 1, 4, 5]
   refine regS Hz (.move rfl <| .fieldAddr (off := 0) rfl Tryz.underlying29 rfl (s := 0) (by kernel_rfl) rfl <| .loadB1 m17 (i := 102) rfl rfl rfl Tryz.underlying3 rfl <| .leq rfl rfl <| .nil) ?_
   clear Hz Az; intro Az Hz
   refine bool_cases Hz (t := 22) rfl ?_ ?_
   · intro hb _; exact absurd hb (by simp; omega)
   clear Hz; intro _ Hz
   refine wp_cond_false (Hz.ev (x := .tmp 22) rfl) ?_
   refine wp_skip ?_
   refine hK1 _ _ ?_; clear hK1; try clear K1
   have m24 : MemOk _ _ [(1, _), (2, _), (3, _), (4, _), (5, _), (6, _), (7, _), (8, _), (100, _), (101, _), (102, _)] _ := m17.only [1, 2, 3, 4, 5, 6, 7, 8, 100, 101, 102]; clear m17
   refine region_p 30 (B := [(1, _), (2, _), (3, _), (4, _), (5, _), (6, _), (7, _), (8, _), (100, _), (101, _), (102, _)]) (m24.to ⟨il, il, il, il, il, il, il, il, il, il, il, trivial⟩) m24 (by kernel_rfl) (fun w25 hP25 m25 => ?_); clear m24
   refine goR hP25 [0, 1, 2, 3, 4, 5, 6, 7, 8, 9, 10, 11, 12, 13, 14, 15, 16, 18, 19, 20, 21, 22, 23, 24, 25, 26, 27] [7, 14, 21, 26] 27 0 268304383 Hz (m25.to ⟨il, il, il, il, il, il, il, il, il, il, il, trivial⟩) (.move rfl <| .move rfl <| .move rfl <| .nilCheck rfl <| .fieldAddr (off := 0) rfl Tryz.underlying86 rfl (s := 4) (by kernel_rfl) rfl <| .fieldAddr (off := 2) rfl Tryz.underlying81 rfl (s := 1) (by kernel_rfl) rfl <| .fieldAddr (off := 2) rfl Tryz.underlying25 rfl (s := 0) (by kernel_rfl) rfl <| .loadB1 hh (i := 1) rfl rfl rfl Tryz.underlying3 rfl <| .move rfl <| .sub rfl rfl (IntWalk.i64_in _ (by omega)) <| .move rfl <| .nilCheck rfl <| .fieldAddr (off := 0) rfl Tryz.underlying86 rfl (s := 4) (by kernel_rfl) rfl <| .fieldAddr (off := 4) rfl Tryz.underlying81 rfl (s := 0) (by kernel_rfl) rfl <| .loadB1 hh (i := 1) rfl rfl rfl Tryz.underlying79 rfl <| .move rfl <| .sub rfl rfl (IntWalk.i64_in _ (by omega)) <| .move rfl <| .nilCheck rfl <| .fieldAddr (off := 22) rfl Tryz.underlying86 rfl (s := 0) (by kernel_rfl) rfl <| .loadB1 hh (i := 1) rfl rfl rfl Tryz.underlying3 rfl <| .move rfl <| .nilCheck rfl <| .fieldAddr (off := 0) rfl Tryz.underlying86 rfl (s := 4) (by kernel_rfl) rfl <| .fieldAddr (off := 4) rfl Tryz.underlying81 rfl (s := 0) (by kernel_rfl) rfl <| .loadB1 hh (i := 1) rfl rfl rfl Tryz.underlying79 rfl <| .move rfl <| .nil) ?_
   clear Hz Az; intro Az Hz
   refine stepE_only 17 rfl (by kernel_rfl) rfl (fun K hK => ?_)
   refine e_call Hz Tryz.func113 rfl rfl rfl rfl (rterm_s R s p _ (rfM_is s p (m25.into [(1, 1), (2, 2), (3, 3), (4, 4), (5, 5), (6, 6), (7, 7), (8, 8)] (by decide) rfl)) hb (nx s.x n - 1)) ?_
   rintro e w53 ⟨rfl, hb53⟩
   have m54 := m25.later hb53
   clear m25
   clear hb53
   refine ⟨_, rfl, ?_⟩; clear Hz Az; intro Az Hz
   refine hK _ _ (m54.to ⟨il, il, il, il, il, il, il, il, il, il, il, trivial⟩) ?_; clear hK K
   refine stepE_only 28 rfl (by kernel_rfl) rfl (fun K hK => ?_)
   refine e_call Hz Tryz.func71 rfl rfl rfl rfl (rfrom_s R s p _ (rfM_is s p (m54.into [(1, 1), (2, 2), (3, 3), (4, 4), (5, 5), (6, 6), (7, 7), (8, 8)] (by decide) rfl)) hb (nx s.x n) 4) ?_
   rintro e w56 ⟨p56, c56, rfl, hd56, hb56⟩
   have m57 := m54.callF 103 rfl hb56 hd56
   clear m54
   clear hb56 hd56
   refine ⟨_, rfl, ?_⟩; clear Hz Az; intro Az Hz
   refine hK _ _ (m57.to ⟨il, il, il, il, il, il, il, il, il, il, il, trivial⟩) ?_; clear hK K
   refine goA hP25 [29] 1 536870911 1073741823 Hz (m57.to ⟨il, il, il, il, il, il, il, il, il, il, il, trivial⟩) (.p (fun _ _ h_ => y_buildG h_ rfl zc55rwo ps55rwo rfl) <| .nil) ?_
   clear Hz Az; intro Az Hz
   refine stepE_end 30 rfl (by kernel_rfl) rfl (by rfl) (fun K hK => ?_)
   refine e_call Hz Tryz.func129 rfl rfl rfl rfl (rsendE_s _ R s p n 5 s.x.te (nx s.x n - 1) (termS s (nx s.x n - 1)) s.x.co false (fromL s.bi s.es (nx s.x n) 4) _ _ _ (by omega) (m57.into [(9, 103), (1, 1), (2, 2), (3, 3), (4, 4), (5, 5), (6, 6), (7, 7), (8, 8)] (by decide) rfl)) ?_
   rintro e w60 ⟨p60, rfl, hm60⟩
   have mx60 := m57.back hm60 [(1, 1), (2, 2), (3, 3), (4, 4), (5, 5), (6, 6), (7, 7), (8, 8)] (by decide); clear hm60 m57
   have m60 : MemOk _ _ [(1, _), (2, _), (3, _), (4, _), (5, _), (6, _), (7, _), (8, _), (100, _), (101, _), (102, _)] _ := mx60.only [1, 2, 3, 4, 5, 6, 7, 8, 100, 101, 102]; clear mx60
   refine ⟨_, rfl, ?_⟩; clear Hz Az; intro Az Hz
   refine hK _ _ ?_; clear hK K
   refine wpAnyE_done (by kernel_rfl) ?_ _
   try dsimp only [Exit.then]
   try refine out_here ?_
   refine (ret0 (fn := Tryz.f86) Hz rfl ?_)
   exact ⟨_, rfl, m60.only [1, 2, 3, 4, 5, 6, 7, 8]⟩
 rcases (show n = 0 ∨ n = 1 ∨ n = 2 ∨ n = 3 ∨ n = 4 ∨ n = 5 ∨ n = 6 by omega) with rfl | rfl | rfl | rfl | rfl | rfl | rfl
 ·
  refine wp_region_lit ?_
  refine goCh Hz (.move rfl <| .move rfl <| .nilCheck rfl <| .fieldAddr (off := 5) rfl Tryz.underlying86 rfl (s := 14) (by kernel_rfl) rfl <| .fieldAddr (off := 6) rfl Tryz.underlying84 rfl (s := 6) (by kernel_rfl) rfl <| .c rfl (fun _ h_ => y_idxA h_ rfl rfl Tryz.underlying82 sz3rwo 0 rfl (by decide) (off := 6) rfl) <| .loadB1 m0 (i := 1) rfl rfl rfl Tryz.underlying3 rfl <| .assign rfl <| .nil) ?_
  clear Hz Az; intro Az Hz
  refine wpList_nil ?_
  show K0 _ _
  exact hC0 _ _ ⟨Hz.only [0, 1, 4], m0.only [1, 2, 3, 4, 5, 6, 7, 8]⟩
 ·
  refine wp_region_lit ?_
  refine goCh Hz (.move rfl <| .move rfl <| .nilCheck rfl <| .fieldAddr (off := 5) rfl Tryz.underlying86 rfl (s := 14) (by kernel_rfl) rfl <| .fieldAddr (off := 6) rfl Tryz.underlying84 rfl (s := 6) (by kernel_rfl) rfl <| .c rfl (fun _ h_ => y_idxA h_ rfl rfl Tryz.underlying82 sz3rwo 1 rfl (by decide) (off := 7) rfl) <| .loadB1 m0 (i := 1) rfl rfl rfl Tryz.underlying3 rfl <| .assign rfl <| .nil) ?_
  clear Hz Az; intro Az Hz
  refine wpList_nil ?_
  show K0 _ _
  exact hC0 _ _ ⟨Hz.only [0, 1, 4], m0.only [1, 2, 3, 4, 5, 6, 7, 8]⟩
 ·
  refine wp_region_lit ?_
  refine goCh Hz (.move rfl <| .move rfl <| .nilCheck rfl <| .fieldAddr (off := 5) rfl Tryz.underlying86 rfl (s := 14) (by kernel_rfl) rfl <| .fieldAddr (off := 6) rfl Tryz.underlying84 rfl (s := 6) (by kernel_rfl) rfl <| .c rfl (fun _ h_ => y_idxA h_ rfl rfl Tryz.underlying82 sz3rwo 2 rfl (by decide) (off := 8) rfl) <| .loadB1 m0 (i := 1) rfl rfl rfl Tryz.underlying3 rfl <| .assign rfl <| .nil) ?_
  clear Hz Az; intro Az Hz
  refine wpList_nil ?_
  show K0 _ _
  exact hC0 _ _ ⟨Hz.only [0, 1, 4], m0.only [1, 2, 3, 4, 5, 6, 7, 8]⟩
 ·
  refine wp_region_lit ?_
  refine goCh Hz (.move rfl <| .move rfl <| .nilCheck rfl <| .fieldAddr (off := 5) rfl Tryz.underlying86 rfl (s := 14) (by kernel_rfl) rfl <| .fieldAddr (off := 6) rfl Tryz.underlying84 rfl (s := 6) (by kernel_rfl) rfl <| .c rfl (fun _ h_ => y_idxA h_ rfl rfl Tryz.underlying82 sz3rwo 3 rfl (by decide) (off := 9) rfl) <| .loadB1 m0 (i := 1) rfl rfl rfl Tryz.underlying3 rfl <| .assign rfl <| .nil) ?_
  clear Hz Az; intro Az Hz
  refine wpList_nil ?_
  show K0 _ _
  exact hC0 _ _ ⟨Hz.only [0, 1, 4], m0.only [1, 2, 3, 4, 5, 6, 7, 8]⟩
 ·
  refine wp_region_lit ?_
  refine goCh Hz (.move rfl <| .move rfl <| .nilCheck rfl <| .fieldAddr (off := 5) rfl Tryz.underlying86 rfl (s := 14) (by kernel_rfl) rfl <| .fieldAddr (off := 6) rfl Tryz.underlying84 rfl (s := 6) (by kernel_rfl) rfl <| .c rfl (fun _ h_ => y_idxA h_ rfl rfl Tryz.underlying82 sz3rwo 4 rfl (by decide) (off := 10) rfl) <| .loadB1 m0 (i := 1) rfl rfl rfl Tryz.underlying3 rfl <| .assign rfl <| .nil) ?_
  clear Hz Az; intro Az Hz
  refine wpList_nil ?_
  show K0 _ _
  exact hC0 _ _ ⟨Hz.only [0, 1, 4], m0.only [1, 2, 3, 4, 5, 6, 7, 8]⟩
 ·
  refine wp_region_lit ?_
  refine goCh Hz (.move rfl <| .move rfl <| .nilCheck rfl <| .fieldAddr (off := 5) rfl Tryz.underlying86 rfl (s := 14) (by kernel_rfl) rfl <| .fieldAddr (off := 6) rfl Tryz.underlying84 rfl (s := 6) (by kernel_rfl) rfl <| .c rfl (fun _ h_ => y_idxA h_ rfl rfl Tryz.underlying82 sz3rwo 5 rfl (by decide) (off := 11) rfl) <| .loadB1 m0 (i := 1) rfl rfl rfl Tryz.underlying3 rfl <| .assign rfl <| .nil) ?_
  clear Hz Az; intro Az Hz
  refine wpList_nil ?_
  show K0 _ _
  exact hC0 _ _ ⟨Hz.only [0, 1, 4], m0.only [1, 2, 3, 4, 5, 6, 7, 8]⟩
 ·
  refine wp_region_lit ?_
  refine goCh Hz (.move rfl <| .move rfl <| .nilCheck rfl <| .fieldAddr (off := 5) rfl Tryz.underlying86 rfl (s := 14) (by kernel_rfl) rfl <| .fieldAddr (off := 6) rfl Tryz.underlying84 rfl (s := 6) (by kernel_rfl) rfl <| .c rfl (fun _ h_ => y_idxA h_ rfl rfl Tryz.underlying82 sz3rwo 6 rfl (by decide) (off := 12) rfl) <| .loadB1 m0 (i := 1) rfl rfl rfl Tryz.underlying3 rfl <| .assign rfl <| .nil) ?_
  clear Hz Az; intro Az Hz
  refine wpList_nil ?_
  show K0 _ _
  exact hC0 _ _ ⟨Hz.only [0, 1, 4], m0.only [1, 2, 3, 4, 5, 6, 7, 8]⟩
theorem rtell_s (X : Cx) (R : Nat) (s : RS) (p : RP) (w0 : World) (hb : RLS s) (hQ : s.ms.length ≤ 900000) (hnx : ∀ n ∈ othS s, s.bi < nx s.x n ∧ nx s.x n ≤ 1000000000000000000) (m0 : MemOk X w0 (rfM R s p) w0) :
   Calls Tryz.prog 46 #[.pointer (some ⟨R, 0, none⟩)] w0 fun e w' => ∃ p', e = .returned (.tuple #[]) ∧ MemOk X w0 (rfM R (tellS s) p') w' := by
 refine enter (fn := Tryz.f46) Tryz.func46 rfl Tryz.ntmps46 rfl (fun Az Hz => ?_)
 simp only [List.zipIdx_cons, List.zipIdx_nil, List.map_cons, List.map_nil, Nat.reduceAdd, Nat.zero_add] at Hz
 have hol := othS_len s
 refine wp_seq_k (fun K0 hK0 => ?_)
 refine wp_region_lit ?_
 refine goCh Hz (.move rfl <| .nilCheck rfl <| .fieldAddr (off := 0) rfl Tryz.underlying86 rfl (s := 4) (by kernel_rfl) rfl <| .nil) ?_
 clear Hz Az; intro Az Hz
 refine wpList_plain rfl (fun K hK => ?_)
 refine e_call Hz Tryz.func85 rfl rfl rfl rfl (rothers_s R s p _ (rfM_is s p (m0.into [(1, 1), (2, 2), (3, 3), (4, 4), (5, 5), (6, 6), (7, 7), (8, 8)] (by decide) rfl)) hb) ?_
 rintro e w7 ⟨qo, co9, rfl, hd7, hb7⟩
 have m8 := m0.callF 20 rfl hb7 hd7
 clear m0
 clear hb7 hd7
 refine ⟨_, rfl, ?_⟩; clear Hz Az; intro Az Hz
 refine hK _ _ ?_; clear hK K
 refine goCh Hz (.len rfl Tryz.underlying26 <| .move rfl <| .nil) ?_
 clear Hz Az; intro Az Hz
 refine wpList_nil ?_
 refine hK0 _ _ ?_; clear hK0; try clear K0
 refine wp_block ?_
 refine wp_loop_ghost (fun g a w => ∃ (k : Nat) (p1 : RP), k ≤ (othS s).length ∧ g = (othS s).length - k ∧ Has 17 [(0, .pointer (some ⟨R, 0, none⟩)), (7, .slice qo (othS s).length co9), (8, .int .i64 ((othS s).length : Nat)), (9, .int .i64 (k : Nat))] a ∧ MemOk X w0 ((20, .dat (.slice qo (othS s).length co9) (.ns .i64 (othS s))) :: rfM R (addM s (((othS s).take k).map fun n => toM s n (wordM s n))) p1) w) ((othS s).length) ?_ ?_
 · exact ⟨0, p, Nat.zero_le _, rfl, Hz.only [0, 7, 8, 9], (tell_zero s) ▸ m8.ren [(20, 20), (1, 1), (2, 2), (3, 3), (4, 4), (5, 5), (6, 6), (7, 7), (8, 8)] (by decide)⟩
 ·
  clear Hz m8
  rintro g Az w12 ⟨k, p1, hkl, hg, Hz, m12⟩
  refine regS Hz (.lss rfl rfl <| .nil) ?_
  clear Hz Az; intro Az Hz
  refine wp_seq_k (fun K1 hK1 => ?_)
  refine bool_cases Hz (t := 10) rfl ?_ ?_
  ·
   clear Hz; intro hb14 Hz
   try simp only [Q1x, Q2x, Q3x, Q4x, Q5x, Q6x, Q7x, Q8x, Q9x, Q0x, Qax, Qbx] at hb14
   have hk : k < (othS s).length := by omega
   refine wp_cond_true (Hz.ev (x := .tmp 10) rfl) ?_
   refine wp_skip ?_
   refine hK1 _ _ ?_; clear hK1; try clear K1
   refine wp_seq_k (fun K2 hK2 => ?_)
   refine wp_block ?_
   refine wp_seq_k (fun K3 hK3 => ?_)
   refine wp_region_lit ?_
   obtain ⟨b16, o16, hp16, m16⟩ := m12.openN (i := 20) rfl (k) hk 100 rfl
   cases hp16; clear m12
   refine goCh Hz (.c rfl (fun _ h_ => y_idx h_ rfl rfl Tryz.underlying26 sz3rtl (k) rfl hk) <| .loadC0 m16 (i := 100) rfl rfl Tryz.underlying3 rfl <| .assign rfl <| .nil) ?_
   clear Hz Az; intro Az Hz
   refine wpList_nil ?_
   refine hK3 _ _ ?_; clear hK3; try clear K3
   refine wp_region_lit ?_
   refine goCh Hz (.move rfl <| .move rfl <| .nil) ?_
   clear Hz Az; intro Az Hz
   refine wpList_plain rfl (fun K hK => ?_)
   refine e_call Hz Tryz.func86 rfl rfl rfl rfl (rword_s _ R (addM s (((othS s).take k).map fun n => toM s n (wordM s n))) p1 ((othS s).getD k 0) _ hb (by simp; omega) (othS_in s hk) (hnx _ (getD_mem hk)).1 (hnx _ (getD_mem hk)).2 (m16.into [(1, 1), (2, 2), (3, 3), (4, 4), (5, 5), (6, 6), (7, 7), (8, 8)] (by decide) rfl)) ?_
   rintro e w22 ⟨p22, rfl, hm22⟩
   have mx22 := m16.back hm22 [(1, 1), (2, 2), (3, 3), (4, 4), (5, 5), (6, 6), (7, 7), (8, 8)] (by decide); clear hm22 m16
   have m22 : MemOk _ _ [(1, _), (2, _), (3, _), (4, _), (5, _), (6, _), (7, _), (8, _), (20, _), (100, _)] _ := mx22.only [1, 2, 3, 4, 5, 6, 7, 8, 20, 100]; clear mx22
   refine ⟨_, rfl, ?_⟩; clear Hz Az; intro Az Hz
   refine hK _ _ ?_; clear hK K
   refine wpList_nil ?_
   refine hK2 _ _ ?_; clear hK2; try clear K2
   replace Hz : Has 17 [(0, _), (7, _), (8, _), (9, _)] Az := Hz.only [0, 7, 8, 9]
   refine wp_region_lit ?_
   refine goCh Hz (.add rfl rfl (r := ((k + 1 : Nat) : Int)) (by rw [IntWalk.i64_in _ (by omega)]; omega) <| .move rfl <| .nil) ?_
   clear Hz Az; intro Az Hz
   refine wpList_nil ?_
   show ∃ n', n' < _ ∧ _
   exact ⟨(othS s).length - (k + 1), by omega, k + 1, _, by omega, rfl, Hz.only [0, 7, 8, 9], (tell_step s hk) ▸ m22.only [20, 1, 2, 3, 4, 5, 6, 7, 8]⟩
  ·
   clear Hz; intro hb14 Hz
   try simp only [Q1x, Q2x, Q3x, Q4x, Q5x, Q6x, Q7x, Q8x, Q9x, Q0x, Qax, Qbx] at hb14
   obtain rfl : k = (othS s).length := by omega
   refine wp_cond_false (Hz.ev (x := .tmp 10) rfl) ?_
   refine wp_exit ?_
   try dsimp only [Exit.then]
   try refine out_here ?_
   refine (ret0 (fn := Tryz.f46) Hz rfl ?_)
   rw [List.take_length] at m12
   exact ⟨_, rfl, m12.only [1, 2, 3, 4, 5, 6, 7, 8]⟩
end
section
theorem ps84rbe : placesS Tryz.prog 84 = some [(0, 1), (1, 7), (8, 7)] := by kernel_rfl
theorem sz3rbe : (Tryz.prog.info? 3).map (·.size) = some 1 := by kernel_rfl
theorem sz84rbe : (Tryz.prog.info? 84).map (·.size) = some 15 := by kernel_rfl
theorem zc84rbe : ((Tryz.prog.info? 84).bind (·.zero)).map (·.cells.toList) = some [.int .i64 0, .int .i64 0, .int .i64 0, .int .i64 0, .int .i64 0, .int .i64 0, .int .i64 0, .int .i64 0, .int .i64 0, .int .i64 0, .int .i64 0, .int .i64 0, .int .i64 0, .int .i64 0, .int .i64 0] := by kernel_rfl
theorem inf3rco : (Tryz.prog.info? 3).map (fun i => (i.zero, i.size, i.bytes)) = some (some (.int .i64 0), 1, 8) := by kernel_rfl
theorem sz3rco : (Tryz.prog.info? 3).map (·.size) = some 1 := by kernel_rfl

def begK (x : RV) (last : Int) : Nat → RV
 | 0 => { x with be := 0, n0 := 0, n1 := 0, n2 := 0, n3 := 0, n4 := 0, n5 := 0, n6 := 0, m0 := 0, m1 := 0, m2 := 0, m3 := 0, m4 := 0, m5 := 0, m6 := 0 }
 | k + 1 => setN (begK x last k) k (last + 1)
theorem memS_len7 (s : RS) : (memS s).length ≤ 7 := canon_len _
theorem matchL_len (s : RS) : (matchL s).length = (memS s).length := List.length_map _
theorem termsL_len (s : RS) : (termsL s).length = (lastS s - s.x.co).toNat := by simp [termsL]
theorem lastS_bd (s : RS) (hb : RLS s) : -1000000000000000 ≤ lastS s ∧ lastS s ≤ 1000000000100000 := by
 have h1 := hb.b; have h2 := hb.n
 show -1000000000000000 ≤ s.bi + (s.es.length : Int) ∧ s.bi + (s.es.length : Int) ≤ 1000000000100000
 omega
theorem match_self (s : RS) {k : Nat} (h : k < (memS s).length) (he : (memS s).getD k 0 = s.x.id) : (matchL s).take k ++ [lastS s] = (matchL s).take (k + 1) := by
 have h2 : k < (matchL s).length := by rw [matchL_len]; exact h
 rw [take_getD h2]; congr 2
 rw [List.getD, List.getElem?_eq_getElem h] at he
 have he : (memS s)[k] = s.x.id := he
 simp [matchL, List.getD, List.getElem?_eq_getElem h, he]
theorem match_other (s : RS) {k : Nat} (h : k < (memS s).length) (he : ¬ (memS s).getD k 0 = s.x.id) {v : Int} (hv : mx s.x ((memS s).getD k 0) = v) : (matchL s).take k ++ [v] = (matchL s).take (k + 1) := by
 have h2 : k < (matchL s).length := by rw [matchL_len]; exact h
 rw [take_getD h2]; congr 2
 rw [List.getD, List.getElem?_eq_getElem h] at he hv
 have he : ¬ (memS s)[k] = s.x.id := he
 have hv : mx s.x (memS s)[k] = v := hv
 simp [matchL, List.getD, List.getElem?_eq_getElem h, he, hv]
theorem terms_step (s : RS) {k : Nat} (h : k < (termsL s).length) : (termsL s).take k ++ [termS s (s.x.co + 1 + (k : Int))] = (termsL s).take (k + 1) := by
 rw [take_getD h]; congr 2
 have h2 : k < (lastS s - s.x.co).toNat := by rw [← termsL_len]; exact h
 simp [termsL, List.getD, h2]
theorem co_zero (s : RS) : s.x.co + 1 = s.x.co + 1 + ((0 : Nat) : Int) := by simp
set_option maxRecDepth 100000
set_option maxHeartbeats 4000000
theorem rbegin_x (X : Cx) (R L : Nat) (x : RV) (ys ms rs : Value) (re : Bool) (last : Int) (w0 : World) (hl : -2000000000000000 ≤ last ∧ last ≤ 2000000000000000) (m0 : MemOk X w0 [(1, .box R 86 (raC x L ys ms rs re))] w0) :
   Calls Tryz.prog 152 #[.pointer (some ⟨R, 5, none⟩), .int .i64 last] w0 fun e w' => e = .returned (.tuple #[]) ∧ MemOk X w0 [(1, .box R 86 (raC (begX x last) L ys ms rs re))] w' := by
 refine enter (fn := Tryz.f152) Tryz.func152 rfl Tryz.ntmps152 rfl (fun Az Hz => ?_)
 simp only [List.zipIdx_cons, List.zipIdx_nil, List.map_cons, List.map_nil, Nat.reduceAdd, Nat.zero_add] at Hz
 refine wp_seq_k (fun K0 hK0 => ?_)
 refine wp_region_lit ?_
 refine goCh Hz (.move rfl <| .buildG rfl zc84rbe ps84rbe rfl <| .nilCheck rfl <| .nil) ?_
 clear Hz Az; intro Az Hz
 refine wpList_plain rfl (fun K hK => ?_)
 refine e_storeR Hz m0 1 rfl rfl rfl rfl rfl sz84rbe (by dsimp only [List.take, List.drop, List.append_eq, List.append] <;> rfl) ?_
 clear m0; intro w7 m7 hB7
 clear hB7
 refine hK _ _ ?_; clear hK K
 refine wpList_nil ?_
 refine hK0 _ _ ?_; clear hK0; try clear K0
 refine regS Hz (.move rfl <| .nil) ?_
 clear Hz Az; intro Az Hz
 refine wp_block ?_
 refine wp_loop_ghost (fun g a w => ∃ (k : Nat), k ≤ 7 ∧ g = 7 - k ∧ Has 19 [(0, .pointer (some ⟨R, 5, none⟩)), (1, .int .i64 last), (8, .int .i64 (k : Nat))] a ∧ MemOk X w0 [(1, .box R 86 (raC (begK x last k) L ys ms rs re))] w) (7) ?_ ?_
 · exact ⟨0, Nat.zero_le _, rfl, Hz.only [0, 1, 8], m7.only [1]⟩
 ·
  clear Hz m7
  rintro g Az w9 ⟨k, hkl, hg, Hz, m9⟩
  refine regS Hz (.lss rfl rfl <| .nil) ?_
  clear Hz Az; intro Az Hz
  refine wp_seq_k (fun K1 hK1 => ?_)
  refine bool_cases Hz (t := 9) rfl ?_ ?_
  ·
   clear Hz; intro hb11 Hz
   try simp only [Q1x, Q2x, Q3x, Q4x, Q5x, Q6x, Q7x, Q8x, Q9x, Q0x, Qax, Qbx] at hb11
   have hk : k < 7 := by omega
   refine wp_cond_true (Hz.ev (x := .tmp 9) rfl) ?_
   refine wp_skip ?_
   refine hK1 _ _ ?_; clear hK1; try clear K1
   refine wp_seq_k (fun K2 hK2 => ?_)
   have hC2 : ∀ (a : Act) (w : World), (Has 19 [(0, .pointer (some ⟨R, 5, none⟩)), (1, .int .i64 last), (8, .int .i64 (k : Nat))] a ∧ MemOk X w0 [(1, .box R 86 (raC (begK x last (k + 1)) L ys ms rs re))] w) → K2 a w := by
     clear Hz m9
     rintro Az w12 ⟨Hz, m12⟩
     refine hK2 _ _ ?_; clear hK2; try clear K2
     refine wp_region_lit ?_
     refine goCh Hz (.add rfl rfl (r := ((k + 1 : Nat) : Int)) (by rw [IntWalk.i64_in _ (by omega)]; omega) <| .move rfl <| .nil) ?_
     clear Hz Az; intro Az Hz
     refine wpList_nil ?_
     show ∃ n', n' < _ ∧ _
     exact ⟨7 - (k + 1), by omega, k + 1, by omega, rfl, Hz.only [0, 1, 8], m12.only [1]⟩
   refine wp_block ?_
   refine regS Hz (.move rfl <| .assign rfl <| .nil) ?_
   clear Hz Az; intro Az Hz
   rcases (show k = 0 ∨ k = 1 ∨ k = 2 ∨ k = 3 ∨ k = 4 ∨ k = 5 ∨ k = 6 by omega) with hj | hj | hj | hj | hj | hj | hj
   ·
    subst hj
    refine wp_region_lit ?_
    refine goCh Hz (.move rfl <| .move rfl <| .move rfl <| .add rfl rfl (IntWalk.i64_in _ (by omega)) <| .nilCheck rfl <| .fieldAddr (off := 6) rfl Tryz.underlying84 rfl (s := 6) (by kernel_rfl) rfl <| .c rfl (fun _ h_ => y_idxA h_ rfl rfl Tryz.underlying82 sz3rbe 0 rfl (by decide) (off := 6) rfl) <| .nil) ?_
    clear Hz Az; intro Az Hz
    refine wpList_plain rfl (fun K hK => ?_)
    refine e_store1 Hz m9 1 rfl rfl rfl rfl rfl sz3rbe (by dsimp only [List.set] <;> rfl) ?_
    clear m9; intro w24 m24 hB24
    clear hB24
    refine hK _ _ ?_; clear hK K
    refine wpList_nil ?_
    show K2 _ _
    exact hC2 _ _ ⟨Hz.only [0, 1, 8], m24.only [1]⟩
   ·
    subst hj
    refine wp_region_lit ?_
    refine goCh Hz (.move rfl <| .move rfl <| .move rfl <| .add rfl rfl (IntWalk.i64_in _ (by omega)) <| .nilCheck rfl <| .fieldAddr (off := 6) rfl Tryz.underlying84 rfl (s := 6) (by kernel_rfl) rfl <| .c rfl (fun _ h_ => y_idxA h_ rfl rfl Tryz.underlying82 sz3rbe 1 rfl (by decide) (off := 7) rfl) <| .nil) ?_
    clear Hz Az; intro Az Hz
    refine wpList_plain rfl (fun K hK => ?_)
    refine e_store1 Hz m9 1 rfl rfl rfl rfl rfl sz3rbe (by dsimp only [List.set] <;> rfl) ?_
    clear m9; intro w32 m32 hB32
    clear hB32
    refine hK _ _ ?_; clear hK K
    refine wpList_nil ?_
    show K2 _ _
    exact hC2 _ _ ⟨Hz.only [0, 1, 8], m32.only [1]⟩
   ·
    subst hj
    refine wp_region_lit ?_
    refine goCh Hz (.move rfl <| .move rfl <| .move rfl <| .add rfl rfl (IntWalk.i64_in _ (by omega)) <| .nilCheck rfl <| .fieldAddr (off := 6) rfl Tryz.underlying84 rfl (s := 6) (by kernel_rfl) rfl <| .c rfl (fun _ h_ => y_idxA h_ rfl rfl Tryz.underlying82 sz3rbe 2 rfl (by decide) (off := 8) rfl) <| .nil) ?_
    clear Hz Az; intro Az Hz
    refine wpList_plain rfl (fun K hK => ?_)
    refine e_store1 Hz m9 1 rfl rfl rfl rfl rfl sz3rbe (by dsimp only [List.set] <;> rfl) ?_
    clear m9; intro w40 m40 hB40
    clear hB40
    refine hK _ _ ?_; clear hK K
    refine wpList_nil ?_
    show K2 _ _
    exact hC2 _ _ ⟨Hz.only [0, 1, 8], m40.only [1]⟩
   ·
    subst hj
    refine wp_region_lit ?_
    refine goCh Hz (.move rfl <| .move rfl <| .move rfl <| .add rfl rfl (IntWalk.i64_in _ (by omega)) <| .nilCheck rfl <| .fieldAddr (off := 6) rfl Tryz.underlying84 rfl (s := 6) (by kernel_rfl) rfl <| .c rfl (fun _ h_ => y_idxA h_ rfl rfl Tryz.underlying82 sz3rbe 3 rfl (by decide) (off := 9) rfl) <| .nil) ?_
    clear Hz Az; intro Az Hz
    refine wpList_plain rfl (fun K hK => ?_)
    refine e_store1 Hz m9 1 rfl rfl rfl rfl rfl sz3rbe (by dsimp only [List.set] <;> rfl) ?_
    clear m9; intro w48 m48 hB48
    clear hB48
    refine hK _ _ ?_; clear hK K
    refine wpList_nil ?_
    show K2 _ _
    exact hC2 _ _ ⟨Hz.only [0, 1, 8], m48.only [1]⟩
   ·
    subst hj
    refine wp_region_lit ?_
    refine goCh Hz (.move rfl <| .move rfl <| .move rfl <| .add rfl rfl (IntWalk.i64_in _ (by omega)) <| .nilCheck rfl <| .fieldAddr (off := 6) rfl Tryz.underlying84 rfl (s := 6) (by kernel_rfl) rfl <| .c rfl (fun _ h_ => y_idxA h_ rfl rfl Tryz.underlying82 sz3rbe 4 rfl (by decide) (off := 10) rfl) <| .nil) ?_
    clear Hz Az; intro Az Hz
    refine wpList_plain rfl (fun K hK => ?_)
    refine e_store1 Hz m9 1 rfl rfl rfl rfl rfl sz3rbe (by dsimp only [List.set] <;> rfl) ?_
    clear m9; intro w56 m56 hB56
    clear hB56
    refine hK _ _ ?_; clear hK K
    refine wpList_nil ?_
    show K2 _ _
    exact hC2 _ _ ⟨Hz.only [0, 1, 8], m56.only [1]⟩
   ·
    subst hj
    refine wp_region_lit ?_
    refine goCh Hz (.move rfl <| .move rfl <| .move rfl <| .add rfl rfl (IntWalk.i64_in _ (by omega)) <| .nilCheck rfl <| .fieldAddr (off := 6) rfl Tryz.underlying84 rfl (s := 6) (by kernel_rfl) rfl <| .c rfl (fun _ h_ => y_idxA h_ rfl rfl Tryz.underlying82 sz3rbe 5 rfl (by decide) (off := 11) rfl) <| .nil) ?_
    clear Hz Az; intro Az Hz
    refine wpList_plain rfl (fun K hK => ?_)
    refine e_store1 Hz m9 1 rfl rfl rfl rfl rfl sz3rbe (by dsimp only [List.set] <;> rfl) ?_
    clear m9; intro w64 m64 hB64
    clear hB64
    refine hK _ _ ?_; clear hK K
    refine wpList_nil ?_
    show K2 _ _
    exact hC2 _ _ ⟨Hz.only [0, 1, 8], m64.only [1]⟩
   ·
    subst hj
    refine wp_region_lit ?_
    refine goCh Hz (.move rfl <| .move rfl <| .move rfl <| .add rfl rfl (IntWalk.i64_in _ (by omega)) <| .nilCheck rfl <| .fieldAddr (off := 6) rfl Tryz.underlying84 rfl (s := 6) (by kernel_rfl) rfl <| .c rfl (fun _ h_ => y_idxA h_ rfl rfl Tryz.underlying82 sz3rbe 6 rfl (by decide) (off := 12) rfl) <| .nil) ?_
    clear Hz Az; intro Az Hz
    refine wpList_plain rfl (fun K hK => ?_)
    refine e_store1 Hz m9 1 rfl rfl rfl rfl rfl sz3rbe (by dsimp only [List.set] <;> rfl) ?_
    clear m9; intro w72 m72 hB72
    clear hB72
    refine hK _ _ ?_; clear hK K
    refine wpList_nil ?_
    show K2 _ _
    exact hC2 _ _ ⟨Hz.only [0, 1, 8], m72.only [1]⟩
  ·
   clear Hz; intro hb11 Hz
   try simp only [Q1x, Q2x, Q3x, Q4x, Q5x, Q6x, Q7x, Q8x, Q9x, Q0x, Qax, Qbx] at hb11
   obtain rfl : k = 7 := by omega
   refine wp_cond_false (Hz.ev (x := .tmp 9) rfl) ?_
   refine wp_exit ?_
   try dsimp only [Exit.then]
   try refine out_here ?_
   refine (ret0 (fn := Tryz.f152) Hz rfl ?_)
   exact ⟨rfl, m9.only [1]⟩
theorem rbegin_s (X : Cx) (R : Nat) (s : RS) (p : RP) (last : Int) (w0 : World) (hl : -2000000000000000 ≤ last ∧ last ≤ 2000000000000000) (m0 : MemOk X w0 (rfM R s p) w0) :
   Calls Tryz.prog 152 #[.pointer (some ⟨R, 5, none⟩), .int .i64 last] w0 fun e w' => ∃ p', e = .returned (.tuple #[]) ∧ MemOk X w0 (rfM R (withX s (begX s.x last)) p') w' := by
 refine (rbegin_x _ R p.L s.x _ _ _ s.re last _ hl (m0.into [(1, 1)] (by decide) rfl)).mono ?_
 rintro e w' ⟨rfl, hm⟩
 have mb := m0.back hm [(1, 1)] (by decide)
 exact ⟨p, rfl, mb.only [1, 2, 3, 4, 5, 6, 7, 8]⟩
theorem rcount_s (X : Cx) (R : Nat) (s : RS) (p : RP) (w0 : World) (hb : RLS s) (hc : -1000000000 ≤ s.x.co ∧ s.x.co ≤ 1000000000) (hd : lastS s - s.x.co ≤ 1000) (m0 : MemOk X w0 (rfM R s p) w0) :
   Calls Tryz.prog 116 #[.pointer (some ⟨R, 0, none⟩)] w0 fun e w' => ∃ p', e = .returned (.tuple #[]) ∧ MemOk X w0 (rfM R (countS s) p') w' := by
 refine enter (fn := Tryz.f116) Tryz.func116 rfl Tryz.ntmps116 rfl (fun Az Hz => ?_)
 simp only [List.zipIdx_cons, List.zipIdx_nil, List.map_cons, List.map_nil, Nat.reduceAdd, Nat.zero_add] at Hz
 have hml := matchL_len s
 have hm7 := memS_len7 s
 have htl := termsL_len s
 have hlb := lastS_bd s hb
 refine wp_seq_k (fun K0 hK0 => ?_)
 refine wp_region_lit ?_
 have m2 := m0.nilN 20 3 .i64
 clear m0
 refine goCh Hz (.assign rfl .nil) ?_
 clear Hz Az; intro Az Hz
 have m4 := m2.nilN 21 3 .i64
 clear m2
 refine goCh Hz (.assign rfl .nil) ?_
 clear Hz Az; intro Az Hz
 refine wpList_nil ?_
 refine hK0 _ _ ?_; clear hK0; try clear K0
 refine wp_seq_k (fun K1 hK1 => ?_)
 refine wp_region_lit ?_
 refine goCh Hz (.move rfl <| .nilCheck rfl <| .fieldAddr (off := 0) rfl Tryz.underlying86 rfl (s := 4) (by kernel_rfl) rfl <| .fieldAddr (off := 4) rfl Tryz.underlying81 rfl (s := 0) (by kernel_rfl) rfl <| .loadB1 m4 (i := 1) rfl rfl rfl Tryz.underlying79 rfl <| .nilCheck rfl <| .fieldAddr (off := 0) rfl Tryz.underlying123 rfl (s := 4) (by kernel_rfl) rfl <| .nil) ?_
 clear Hz Az; intro Az Hz
 refine wpList_plain rfl (fun K hK => ?_)
 refine e_call Hz Tryz.func75 rfl rfl rfl rfl (rlast_s R s p _ (rfM_is s p (m4.into [(1, 1), (2, 2), (3, 3), (4, 4), (5, 5), (6, 6), (7, 7), (8, 8)] (by decide) rfl)) hb) ?_
 rintro e w20 ⟨rfl, hb20⟩
 have m21 := m4.later hb20
 clear m4
 clear hb20
 refine ⟨_, rfl, ?_⟩; clear Hz Az; intro Az Hz
 refine hK _ _ ?_; clear hK K
 refine goCh Hz (.assign rfl .nil) ?_
 clear Hz Az; intro Az Hz
 refine wpList_nil ?_
 refine hK1 _ _ ?_; clear hK1; try clear K1
 refine wp_seq_k (fun K2 hK2 => ?_)
 replace Hz : Has 83 [(0, _), (2, _), (3, _), (4, _)] Az := Hz.only [0, 2, 3, 4]
 refine wp_seq_k (fun K3 hK3 => ?_)
 refine wp_region_lit ?_
 refine goCh Hz (.move rfl <| .nilCheck rfl <| .fieldAddr (off := 0) rfl Tryz.underlying86 rfl (s := 4) (by kernel_rfl) rfl <| .nil) ?_
 clear Hz Az; intro Az Hz
 refine wpList_plain rfl (fun K hK => ?_)
 refine e_call Hz Tryz.func49 rfl rfl rfl rfl (rmembers_s R s p _ (rfM_is s p (m21.into [(1, 1), (2, 2), (3, 3), (4, 4), (5, 5), (6, 6), (7, 7), (8, 8)] (by decide) rfl)) hb) ?_
 rintro e w31 ⟨qo, co9, rfl, hd31, hb31⟩
 have m32 := m21.callF 22 rfl hb31 hd31
 clear m21
 clear hb31 hd31
 refine ⟨_, rfl, ?_⟩; clear Hz Az; intro Az Hz
 refine hK _ _ ?_; clear hK K
 refine goCh Hz (.len rfl Tryz.underlying26 <| .move rfl <| .nil) ?_
 clear Hz Az; intro Az Hz
 refine wpList_nil ?_
 refine hK3 _ _ ?_; clear hK3; try clear K3
 refine wp_block ?_
 refine wp_loop_ghost (fun g a w => ∃ (k : Nat) (pa : Option Addr) (ca : Nat), k ≤ (memS s).length ∧ g = (memS s).length - k ∧ Has 83 [(0, .pointer (some ⟨R, 0, none⟩)), (2, .slice pa ((matchL s).take k).length ca), (3, .slice none 0 0), (4, .int .i64 (lastS s)), (19, .slice qo (memS s).length co9), (20, .int .i64 ((memS s).length : Nat)), (21, .int .i64 (k : Nat))] a ∧ MemOk X w0 ((20, .dat (.slice qo (memS s).length co9) (.ns .i64 (memS s))) :: (30, .num (.slice pa ((matchL s).take k).length ca) 3 .i64 ((matchL s).take k)) :: (31, .num (.slice none 0 0) 3 .i64 []) :: rfM R s p) w) ((memS s).length) ?_ ?_
 · exact ⟨0, none, 0, Nat.zero_le _, rfl, Hz.only [0, 2, 3, 4, 19, 20, 21], m32.ren [(20, 22), (30, 20), (31, 21), (1, 1), (2, 2), (3, 3), (4, 4), (5, 5), (6, 6), (7, 7), (8, 8)] (by decide)⟩
 ·
  clear Hz m32
  rintro g Az w36 ⟨k, pa, ca, hkl, hg, Hz, m36⟩
  refine regS Hz (.lss rfl rfl <| .nil) ?_
  clear Hz Az; intro Az Hz
  refine wp_seq_k (fun K4 hK4 => ?_)
  refine bool_cases Hz (t := 22) rfl ?_ ?_
  ·
   clear Hz; intro hb38 Hz
   try simp only [Q1x, Q2x, Q3x, Q4x, Q5x, Q6x, Q7x, Q8x, Q9x, Q0x, Qax, Qbx] at hb38
   have hk : k < (memS s).length := by omega
   have hnn := memS_in s (getD_mem hk)
   refine wp_cond_true (Hz.ev (x := .tmp 22) rfl) ?_
   refine wp_skip ?_
   refine hK4 _ _ ?_; clear hK4; try clear K4
   refine wp_seq_k (fun K5 hK5 => ?_)
   have hC5 : ∀ (a : Act) (w : World), (∃ (pa : Option Addr) (ca : Nat), Has 83 [(0, .pointer (some ⟨R, 0, none⟩)), (2, .slice pa ((matchL s).take (k + 1)).length ca), (3, .slice none 0 0), (4, .int .i64 (lastS s)), (19, .slice qo (memS s).length co9), (20, .int .i64 ((memS s).length : Nat)), (21, .int .i64 (k : Nat))] a ∧ MemOk X w0 ((20, .dat (.slice qo (memS s).length co9) (.ns .i64 (memS s))) :: (30, .num (.slice pa ((matchL s).take (k + 1)).length ca) 3 .i64 ((matchL s).take (k + 1))) :: (31, .num (.slice none 0 0) 3 .i64 []) :: rfM R s p) w) → K5 a w := by
     clear Hz m36
     rintro Az w39 ⟨pa, ca, Hz, m39⟩
     refine hK5 _ _ ?_; clear hK5; try clear K5
     refine wp_region_lit ?_
     refine goCh Hz (.add rfl rfl (r := ((k + 1 : Nat) : Int)) (by rw [IntWalk.i64_in _ (by omega)]; omega) <| .move rfl <| .nil) ?_
     clear Hz Az; intro Az Hz
     refine wpList_nil ?_
     show ∃ n', n' < _ ∧ _
     exact ⟨(memS s).length - (k + 1), by omega, k + 1, _, _, by omega, rfl, Hz.only [0, 2, 3, 4, 19, 20, 21], m39.only [20, 30, 31, 1, 2, 3, 4, 5, 6, 7, 8]⟩
   refine wp_block ?_
   refine wp_seq_k (fun K6 hK6 => ?_)
   refine wp_region_lit ?_
   obtain ⟨b43, o43, hp43, m43⟩ := m36.openN (i := 20) rfl (k) hk 100 rfl
   cases hp43; clear m36
   refine goCh Hz (.c rfl (fun _ h_ => y_idx h_ rfl rfl Tryz.underlying26 sz3rco (k) rfl hk) <| .loadC0 m43 (i := 100) rfl rfl Tryz.underlying3 rfl <| .assign rfl <| .nil) ?_
   clear Hz Az; intro Az Hz
   refine wpList_nil ?_
   refine hK6 _ _ ?_; clear hK6; try clear K6
   refine regS Hz (.move rfl <| .move rfl <| .nilCheck rfl <| .fieldAddr (off := 0) rfl Tryz.underlying86 rfl (s := 4) (by kernel_rfl) rfl <| .fieldAddr (off := 0) rfl Tryz.underlying81 rfl (s := 0) (by kernel_rfl) rfl <| .loadB1 m43 (i := 1) rfl rfl rfl Tryz.underlying3 rfl <| .eql rfl rfl <| .nil) ?_
   clear Hz Az; intro Az Hz
   refine bool_cases Hz (t := 31) rfl ?_ ?_
   ·
    clear Hz; intro hb54 Hz
    try simp only [Q1x, Q2x, Q3x, Q4x, Q5x, Q6x, Q7x, Q8x, Q9x, Q0x, Qax, Qbx] at hb54
    have hst := match_self s hk hb54
    refine wp_cond_true (Hz.ev (x := .tmp 31) rfl) ?_
    skip
    ·
     replace Hz : Has 83 [(0, _), (2, _), (3, _), (4, _), (19, _), (20, _), (21, _), (6, _)] Az := Hz.only [0, 2, 3, 4, 19, 20, 21, 6]
     refine wp_region_lit ?_
     refine goCh Hz (.move rfl <| .move rfl <| .nil) ?_
     clear Hz Az; intro Az Hz
     refine wpList_plain rfl (fun K hK => ?_)
     refine e_litN Hz m43 101 (k := .i64) rfl rfl Tryz.underlying26 inf3rco rfl rfl rfl rfl ?_
     clear Hz Az m43; intro g58 Az w59 Hz m59
     refine hK _ _ ?_; clear hK K
     refine wpList_plain rfl (fun K hK => ?_)
     refine e_appN Hz m59 30 rfl rfl rfl (m59.numsO (i := 101) rfl) Tryz.underlying26 inf3rco (by decide) (by simp; omega) rfl ?_
     clear Hz Az m59; intro p60 c60 Az w61 Hz m61
     refine hK _ _ ?_; clear hK K
     refine goCh Hz (.assign rfl .nil) ?_
     clear Hz Az; intro Az Hz
     refine wpList_nil ?_
     rw [hst] at Hz m61
     show K5 _ _
     exact hC5 _ _ ⟨_, _, Hz.only [0, 2, 3, 4, 19, 20, 21], m61.only [20, 30, 31, 1, 2, 3, 4, 5, 6, 7, 8]⟩
   ·
    clear Hz; intro hb54 Hz
    try simp only [Q1x, Q2x, Q3x, Q4x, Q5x, Q6x, Q7x, Q8x, Q9x, Q0x, Qax, Qbx] at hb54
    have hid := hb54
    refine wp_cond_false (Hz.ev (x := .tmp 31) rfl) ?_
    rcases (show (memS s).getD k 0 = 0 ∨ (memS s).getD k 0 = 1 ∨ (memS s).getD k 0 = 2 ∨ (memS s).getD k 0 = 3 ∨ (memS s).getD k 0 = 4 ∨ (memS s).getD k 0 = 5 ∨ (memS s).getD k 0 = 6 by omega) with hj | hj | hj | hj | hj | hj | hj
    ·
     rw [hj] at Hz
     have hst := match_other s hk hid (v := s.x.m0) (by rw [hj]; rfl)
     replace Hz : Has 83 [(0, _), (2, _), (3, _), (4, _), (19, _), (20, _), (21, _), (6, _)] Az := Hz.only [0, 2, 3, 4, 19, 20, 21, 6]
     refine wp_region_lit ?_
     refine goCh Hz (.move rfl <| .move rfl <| .move rfl <| .nilCheck rfl <| .fieldAddr (off := 5) rfl Tryz.underlying86 rfl (s := 14) (by kernel_rfl) rfl <| .fieldAddr (off := 13) rfl Tryz.underlying84 rfl (s := 6) (by kernel_rfl) rfl <| .c rfl (fun _ h_ => y_idxA h_ rfl rfl Tryz.underlying82 sz3rco 0 rfl (by decide) (off := 13) rfl) <| .loadB1 m43 (i := 1) rfl rfl rfl Tryz.underlying3 rfl <| .nil) ?_
     clear Hz Az; intro Az Hz
     refine wpList_plain rfl (fun K hK => ?_)
     refine e_litN Hz m43 101 (k := .i64) rfl rfl Tryz.underlying26 inf3rco rfl rfl rfl rfl ?_
     clear Hz Az m43; intro g72 Az w73 Hz m73
     refine hK _ _ ?_; clear hK K
     refine wpList_plain rfl (fun K hK => ?_)
     refine e_appN Hz m73 30 rfl rfl rfl (m73.numsO (i := 101) rfl) Tryz.underlying26 inf3rco (by decide) (by simp; omega) rfl ?_
     clear Hz Az m73; intro p74 c74 Az w75 Hz m75
     refine hK _ _ ?_; clear hK K
     refine goCh Hz (.assign rfl .nil) ?_
     clear Hz Az; intro Az Hz
     refine wpList_nil ?_
     rw [hst] at Hz m75
     show K5 _ _
     exact hC5 _ _ ⟨_, _, Hz.only [0, 2, 3, 4, 19, 20, 21], m75.only [20, 30, 31, 1, 2, 3, 4, 5, 6, 7, 8]⟩
    ·
     rw [hj] at Hz
     have hst := match_other s hk hid (v := s.x.m1) (by rw [hj]; rfl)
     replace Hz : Has 83 [(0, _), (2, _), (3, _), (4, _), (19, _), (20, _), (21, _), (6, _)] Az := Hz.only [0, 2, 3, 4, 19, 20, 21, 6]
     refine wp_region_lit ?_
     refine goCh Hz (.move rfl <| .move rfl <| .move rfl <| .nilCheck rfl <| .fieldAddr (off := 5) rfl Tryz.underlying86 rfl (s := 14) (by kernel_rfl) rfl <| .fieldAddr (off := 13) rfl Tryz.underlying84 rfl (s := 6) (by kernel_rfl) rfl <| .c rfl (fun _ h_ => y_idxA h_ rfl rfl Tryz.underlying82 sz3rco 1 rfl (by decide) (off := 14) rfl) <| .loadB1 m43 (i := 1) rfl rfl rfl Tryz.underlying3 rfl <| .nil) ?_
     clear Hz Az; intro Az Hz
     refine wpList_plain rfl (fun K hK => ?_)
     refine e_litN Hz m43 101 (k := .i64) rfl rfl Tryz.underlying26 inf3rco rfl rfl rfl rfl ?_
     clear Hz Az m43; intro g86 Az w87 Hz m87
     refine hK _ _ ?_; clear hK K
     refine wpList_plain rfl (fun K hK => ?_)
     refine e_appN Hz m87 30 rfl rfl rfl (m87.numsO (i := 101) rfl) Tryz.underlying26 inf3rco (by decide) (by simp; omega) rfl ?_
     clear Hz Az m87; intro p88 c88 Az w89 Hz m89
     refine hK _ _ ?_; clear hK K
     refine goCh Hz (.assign rfl .nil) ?_
     clear Hz Az; intro Az Hz
     refine wpList_nil ?_
     rw [hst] at Hz m89
     show K5 _ _
     exact hC5 _ _ ⟨_, _, Hz.only [0, 2, 3, 4, 19, 20, 21], m89.only [20, 30, 31, 1, 2, 3, 4, 5, 6, 7, 8]⟩
    ·
     rw [hj] at Hz
     have hst := match_other s hk hid (v := s.x.m2) (by rw [hj]; rfl)
     replace Hz : Has 83 [(0, _), (2, _), (3, _), (4, _), (19, _), (20, _), (21, _), (6, _)] Az := Hz.only [0, 2, 3, 4, 19, 20, 21, 6]
     refine wp_region_lit ?_
     refine goCh Hz (.move rfl <| .move rfl <| .move rfl <| .nilCheck rfl <| .fieldAddr (off := 5) rfl Tryz.underlying86 rfl (s := 14) (by kernel_rfl) rfl <| .fieldAddr (off := 13) rfl Tryz.underlying84 rfl (s := 6) (by kernel_rfl) rfl <| .c rfl (fun _ h_ => y_idxA h_ rfl rfl Tryz.underlying82 sz3rco 2 rfl (by decide) (off := 15) rfl) <| .loadB1 m43 (i := 1) rfl rfl rfl Tryz.underlying3 rfl <| .nil) ?_
     clear Hz Az; intro Az Hz
     refine wpList_plain rfl (fun K hK => ?_)
     refine e_litN Hz m43 101 (k := .i64) rfl rfl Tryz.underlying26 inf3rco rfl rfl rfl rfl ?_
     clear Hz Az m43; intro g100 Az w101 Hz m101
     refine hK _ _ ?_; clear hK K
     refine wpList_plain rfl (fun K hK => ?_)
     refine e_appN Hz m101 30 rfl rfl rfl (m101.numsO (i := 101) rfl) Tryz.underlying26 inf3rco (by decide) (by simp; omega) rfl ?_
     clear Hz Az m101; intro p102 c102 Az w103 Hz m103
     refine hK _ _ ?_; clear hK K
     refine goCh Hz (.assign rfl .nil) ?_
     clear Hz Az; intro Az Hz
     refine wpList_nil ?_
     rw [hst] at Hz m103
     show K5 _ _
     exact hC5 _ _ ⟨_, _, Hz.only [0, 2, 3, 4, 19, 20, 21], m103.only [20, 30, 31, 1, 2, 3, 4, 5, 6, 7, 8]⟩
    ·
     rw [hj] at Hz
     have hst := match_other s hk hid (v := s.x.m3) (by rw [hj]; rfl)
     replace Hz : Has 83 [(0, _), (2, _), (3, _), (4, _), (19, _), (20, _), (21, _), (6, _)] Az := Hz.only [0, 2, 3, 4, 19, 20, 21, 6]
     refine wp_region_lit ?_
     refine goCh Hz (.move rfl <| .move rfl <| .move rfl <| .nilCheck rfl <| .fieldAddr (off := 5) rfl Tryz.underlying86 rfl (s := 14) (by kernel_rfl) rfl <| .fieldAddr (off := 13) rfl Tryz.underlying84 rfl (s := 6) (by kernel_rfl) rfl <| .c rfl (fun _ h_ => y_idxA h_ rfl rfl Tryz.underlying82 sz3rco 3 rfl (by decide) (off := 16) rfl) <| .loadB1 m43 (i := 1) rfl rfl rfl Tryz.underlying3 rfl <| .nil) ?_
     clear Hz Az; intro Az Hz
     refine wpList_plain rfl (fun K hK => ?_)
     refine e_litN Hz m43 101 (k := .i64) rfl rfl Tryz.underlying26 inf3rco rfl rfl rfl rfl ?_
     clear Hz Az m43; intro g114 Az w115 Hz m115
     refine hK _ _ ?_; clear hK K
     refine wpList_plain rfl (fun K hK => ?_)
     refine e_appN Hz m115 30 rfl rfl rfl (m115.numsO (i := 101) rfl) Tryz.underlying26 inf3rco (by decide) (by simp; omega) rfl ?_
     clear Hz Az m115; intro p116 c116 Az w117 Hz m117
     refine hK _ _ ?_; clear hK K
     refine goCh Hz (.assign rfl .nil) ?_
     clear Hz Az; intro Az Hz
     refine wpList_nil ?_
     rw [hst] at Hz m117
     show K5 _ _
     exact hC5 _ _ ⟨_, _, Hz.only [0, 2, 3, 4, 19, 20, 21], m117.only [20, 30, 31, 1, 2, 3, 4, 5, 6, 7, 8]⟩
    ·
     rw [hj] at Hz
     have hst := match_other s hk hid (v := s.x.m4) (by rw [hj]; rfl)
     replace Hz : Has 83 [(0, _), (2, _), (3, _), (4, _), (19, _), (20, _), (21, _), (6, _)] Az := Hz.only [0, 2, 3, 4, 19, 20, 21, 6]
     refine wp_region_lit ?_
     refine goCh Hz (.move rfl <| .move rfl <| .move rfl <| .nilCheck rfl <| .fieldAddr (off := 5) rfl Tryz.underlying86 rfl (s := 14) (by kernel_rfl) rfl <| .fieldAddr (off := 13) rfl Tryz.underlying84 rfl (s := 6) (by kernel_rfl) rfl <| .c rfl (fun _ h_ => y_idxA h_ rfl rfl Tryz.underlying82 sz3rco 4 rfl (by decide) (off := 17) rfl) <| .loadB1 m43 (i := 1) rfl rfl rfl Tryz.underlying3 rfl <| .nil) ?_
     clear Hz Az; intro Az Hz
     refine wpList_plain rfl (fun K hK => ?_)
     refine e_litN Hz m43 101 (k := .i64) rfl rfl Tryz.underlying26 inf3rco rfl rfl rfl rfl ?_
     clear Hz Az m43; intro g128 Az w129 Hz m129
     refine hK _ _ ?_; clear hK K
     refine wpList_plain rfl (fun K hK => ?_)
     refine e_appN Hz m129 30 rfl rfl rfl (m129.numsO (i := 101) rfl) Tryz.underlying26 inf3rco (by decide) (by simp; omega) rfl ?_
     clear Hz Az m129; intro p130 c130 Az w131 Hz m131
     refine hK _ _ ?_; clear hK K
     refine goCh Hz (.assign rfl .nil) ?_
     clear Hz Az; intro Az Hz
     refine wpList_nil ?_
     rw [hst] at Hz m131
     show K5 _ _
     exact hC5 _ _ ⟨_, _, Hz.only [0, 2, 3, 4, 19, 20, 21], m131.only [20, 30, 31, 1, 2, 3, 4, 5, 6, 7, 8]⟩
    ·
     rw [hj] at Hz
     have hst := match_other s hk hid (v := s.x.m5) (by rw [hj]; rfl)
     replace Hz : Has 83 [(0, _), (2, _), (3, _), (4, _), (19, _), (20, _), (21, _), (6, _)] Az := Hz.only [0, 2, 3, 4, 19, 20, 21, 6]
     refine wp_region_lit ?_
     refine goCh Hz (.move rfl <| .move rfl <| .move rfl <| .nilCheck rfl <| .fieldAddr (off := 5) rfl Tryz.underlying86 rfl (s := 14) (by kernel_rfl) rfl <| .fieldAddr (off := 13) rfl Tryz.underlying84 rfl (s := 6) (by kernel_rfl) rfl <| .c rfl (fun _ h_ => y_idxA h_ rfl rfl Tryz.underlying82 sz3rco 5 rfl (by decide) (off := 18) rfl) <| .loadB1 m43 (i := 1) rfl rfl rfl Tryz.underlying3 rfl <| .nil) ?_
     clear Hz Az; intro Az Hz
     refine wpList_plain rfl (fun K hK => ?_)
     refine e_litN Hz m43 101 (k := .i64) rfl rfl Tryz.underlying26 inf3rco rfl rfl rfl rfl ?_
     clear Hz Az m43; intro g142 Az w143 Hz m143
     refine hK _ _ ?_; clear hK K
     refine wpList_plain rfl (fun K hK => ?_)
     refine e_appN Hz m143 30 rfl rfl rfl (m143.numsO (i := 101) rfl) Tryz.underlying26 inf3rco (by decide) (by simp; omega) rfl ?_
     clear Hz Az m143; intro p144 c144 Az w145 Hz m145
     refine hK _ _ ?_; clear hK K
     refine goCh Hz (.assign rfl .nil) ?_
     clear Hz Az; intro Az Hz
     refine wpList_nil ?_
     rw [hst] at Hz m145
     show K5 _ _
     exact hC5 _ _ ⟨_, _, Hz.only [0, 2, 3, 4, 19, 20, 21], m145.only [20, 30, 31, 1, 2, 3, 4, 5, 6, 7, 8]⟩
    ·
     rw [hj] at Hz
     have hst := match_other s hk hid (v := s.x.m6) (by rw [hj]; rfl)
     replace Hz : Has 83 [(0, _), (2, _), (3, _), (4, _), (19, _), (20, _), (21, _), (6, _)] Az := Hz.only [0, 2, 3, 4, 19, 20, 21, 6]
     refine wp_region_lit ?_
     refine goCh Hz (.move rfl <| .move rfl <| .move rfl <| .nilCheck rfl <| .fieldAddr (off := 5) rfl Tryz.underlying86 rfl (s := 14) (by kernel_rfl) rfl <| .fieldAddr (off := 13) rfl Tryz.underlying84 rfl (s := 6) (by kernel_rfl) rfl <| .c rfl (fun _ h_ => y_idxA h_ rfl rfl Tryz.underlying82 sz3rco 6 rfl (by decide) (off := 19) rfl) <| .loadB1 m43 (i := 1) rfl rfl rfl Tryz.underlying3 rfl <| .nil) ?_
     clear Hz Az; intro Az Hz
     refine wpList_plain rfl (fun K hK => ?_)
     refine e_litN Hz m43 101 (k := .i64) rfl rfl Tryz.underlying26 inf3rco rfl rfl rfl rfl ?_
     clear Hz Az m43; intro g156 Az w157 Hz m157
     refine hK _ _ ?_; clear hK K
     refine wpList_plain rfl (fun K hK => ?_)
     refine e_appN Hz m157 30 rfl rfl rfl (m157.numsO (i := 101) rfl) Tryz.underlying26 inf3rco (by decide) (by simp; omega) rfl ?_
     clear Hz Az m157; intro p158 c158 Az w159 Hz m159
     refine hK _ _ ?_; clear hK K
     refine goCh Hz (.assign rfl .nil) ?_
     clear Hz Az; intro Az Hz
     refine wpList_nil ?_
     rw [hst] at Hz m159
     show K5 _ _
     exact hC5 _ _ ⟨_, _, Hz.only [0, 2, 3, 4, 19, 20, 21], m159.only [20, 30, 31, 1, 2, 3, 4, 5, 6, 7, 8]⟩
  ·
   clear Hz; intro hb38 Hz
   try simp only [Q1x, Q2x, Q3x, Q4x, Q5x, Q6x, Q7x, Q8x, Q9x, Q0x, Qax, Qbx] at hb38
   obtain rfl : k = (memS s).length := by omega
   rw [← matchL_len s, List.take_length] at m36 Hz
   refine wp_cond_false (Hz.ev (x := .tmp 22) rfl) ?_
   refine wp_exit ?_
   refine hK2 _ _ ?_; clear hK2; try clear K2
   refine wp_seq_k (fun K7 hK7 => ?_)
   refine regS Hz (.move rfl <| .nilCheck rfl <| .fieldAddr (off := 22) rfl Tryz.underlying86 rfl (s := 0) (by kernel_rfl) rfl <| .loadB1 m36 (i := 1) rfl rfl rfl Tryz.underlying3 rfl <| .add rfl rfl (r := s.x.co + 1) (IntWalk.i64_in _ (by omega)) <| .assign rfl <| .nil) ?_
   clear Hz Az; intro Az Hz
   refine wp_block ?_
   refine wp_loop_ghost (fun g a w => ∃ (k : Nat) (pb : Option Addr) (cb : Nat), k ≤ (termsL s).length ∧ g = (termsL s).length - k ∧ Has 83 [(0, .pointer (some ⟨R, 0, none⟩)), (2, .slice pa (matchL s).length ca), (3, .slice pb ((termsL s).take k).length cb), (4, .int .i64 (lastS s)), (7, .int .i64 (s.x.co + 1 + (k : Nat)))] a ∧ MemOk X w0 ((30, .num (.slice pa (matchL s).length ca) 3 .i64 (matchL s)) :: (31, .num (.slice pb ((termsL s).take k).length cb) 3 .i64 ((termsL s).take k)) :: rfM R s p) w) ((termsL s).length) ?_ ?_
   · exact ⟨0, none, 0, Nat.zero_le _, rfl, (co_zero s) ▸ Hz.only [0, 2, 3, 4, 7], m36.ren [(30, 30), (31, 31), (1, 1), (2, 2), (3, 3), (4, 4), (5, 5), (6, 6), (7, 7), (8, 8)] (by decide)⟩
   ·
    clear Hz m36
    rintro g Az w167 ⟨k, pb, cb, hkl, hg, Hz, m167⟩
    refine wp_seq_k (fun K8 hK8 => ?_)
    refine regS Hz (.move rfl <| .move rfl <| .leq rfl rfl <| .nil) ?_
    clear Hz Az; intro Az Hz
    refine bool_cases Hz (t := 54) rfl ?_ ?_
    ·
     clear Hz; intro hb171 Hz
     try simp only [Q1x, Q2x, Q3x, Q4x, Q5x, Q6x, Q7x, Q8x, Q9x, Q0x, Qax, Qbx] at hb171
     have hk : k < (termsL s).length := by rw [htl]; omega
     refine wp_cond_true (Hz.ev (x := .tmp 54) rfl) ?_
     refine wp_skip ?_
     refine hK8 _ _ ?_; clear hK8; try clear K8
     refine wp_seq_k (fun K9 hK9 => ?_)
     refine wp_block ?_
     refine wp_region_lit ?_
     refine goCh Hz (.move rfl <| .move rfl <| .nilCheck rfl <| .fieldAddr (off := 0) rfl Tryz.underlying86 rfl (s := 4) (by kernel_rfl) rfl <| .fieldAddr (off := 4) rfl Tryz.underlying81 rfl (s := 0) (by kernel_rfl) rfl <| .loadB1 m167 (i := 1) rfl rfl rfl Tryz.underlying79 rfl <| .move rfl <| .nil) ?_
     clear Hz Az; intro Az Hz
     refine wpList_plain rfl (fun K hK => ?_)
     refine e_call Hz Tryz.func113 rfl rfl rfl rfl (rterm_s R s p _ (rfM_is s p (m167.into [(1, 1), (2, 2), (3, 3), (4, 4), (5, 5), (6, 6), (7, 7), (8, 8)] (by decide) rfl)) hb (s.x.co + 1 + (k : Int))) ?_
     rintro e w179 ⟨rfl, hb179⟩
     have m180 := m167.later hb179
     clear m167
     clear hb179
     refine ⟨_, rfl, ?_⟩; clear Hz Az; intro Az Hz
     refine hK _ _ ?_; clear hK K
     refine wpList_plain rfl (fun K hK => ?_)
     refine e_litN Hz m180 200 (k := .i64) rfl rfl Tryz.underlying26 inf3rco rfl rfl rfl rfl ?_
     clear Hz Az m180; intro g182 Az w183 Hz m183
     refine hK _ _ ?_; clear hK K
     refine wpList_plain rfl (fun K hK => ?_)
     refine e_appN Hz m183 31 rfl rfl rfl (m183.numsO (i := 200) rfl) Tryz.underlying26 inf3rco (by decide) (by simp; omega) rfl ?_
     clear Hz Az m183; intro p184 c184 Az w185 Hz m185
     refine hK _ _ ?_; clear hK K
     refine goCh Hz (.assign rfl .nil) ?_
     clear Hz Az; intro Az Hz
     refine wpList_nil ?_
     refine hK9 _ _ ?_; clear hK9; try clear K9
     replace Hz : Has 83 [(0, _), (2, _), (3, _), (4, _), (7, _)] Az := Hz.only [0, 2, 3, 4, 7]
     refine wp_region_lit ?_
     refine goCh Hz (.move rfl <| .add rfl rfl (r := s.x.co + 1 + ((k + 1 : Nat) : Int)) (by rw [IntWalk.i64_in _ (by omega)]; omega) <| .assign rfl <| .nil) ?_
     clear Hz Az; intro Az Hz
     refine wpList_nil ?_
     show ∃ n', n' < _ ∧ _
     rw [terms_step s hk] at Hz m185
     exact ⟨(termsL s).length - (k + 1), by omega, k + 1, _, _, by omega, rfl, Hz.only [0, 2, 3, 4, 7], m185.only [30, 31, 1, 2, 3, 4, 5, 6, 7, 8]⟩
    ·
     clear Hz; intro hb171 Hz
     try simp only [Q1x, Q2x, Q3x, Q4x, Q5x, Q6x, Q7x, Q8x, Q9x, Q0x, Qax, Qbx] at hb171
     obtain rfl : k = (termsL s).length := by omega
     rw [List.take_length] at m167 Hz
     refine wp_cond_false (Hz.ev (x := .tmp 54) rfl) ?_
     refine wp_exit ?_
     refine hK7 _ _ ?_; clear hK7; try clear K7
     have m191 : MemOk _ _ [(1, _), (2, _), (3, _), (4, _), (5, _), (6, _), (7, _), (8, _), (30, _), (31, _)] _ := m167.only [1, 2, 3, 4, 5, 6, 7, 8, 30, 31]; clear m167
     refine region_p 13 (B := [(1, _), (2, _), (3, _), (4, _), (5, _), (6, _), (7, _), (8, _), (30, _), (31, _)]) (m191.to ⟨il, il, il, il, il, il, il, il, il, il, trivial⟩) m191 (by kernel_rfl) (fun w192 hP192 m192 => ?_); clear m191
     refine goR hP192 [0, 1, 2, 3, 4, 5, 6, 7, 8, 9, 10, 11, 12] [6, 10] 13 0 8191 Hz (m192.to ⟨il, il, il, il, il, il, il, il, il, il, trivial⟩) (.move rfl <| .move rfl <| .nilCheck rfl <| .fieldAddr (off := 0) rfl Tryz.underlying86 rfl (s := 4) (by kernel_rfl) rfl <| .fieldAddr (off := 2) rfl Tryz.underlying81 rfl (s := 1) (by kernel_rfl) rfl <| .fieldAddr (off := 2) rfl Tryz.underlying25 rfl (s := 0) (by kernel_rfl) rfl <| .loadB1 hh (i := 1) rfl rfl rfl Tryz.underlying3 rfl <| .move rfl <| .nilCheck rfl <| .fieldAddr (off := 22) rfl Tryz.underlying86 rfl (s := 0) (by kernel_rfl) rfl <| .loadB1 hh (i := 1) rfl rfl rfl Tryz.underlying3 rfl <| .move rfl <| .move rfl <| .nil) ?_
     clear Hz Az; intro Az Hz
     refine stepE_end 13 rfl (by kernel_rfl) rfl (by rfl) (fun K hK => ?_)
     refine e_call Hz Tryz.func147 rfl rfl rfl rfl (commitC_any s.x.te s.x.co (matchL s) (termsL s) _ _ _ (IsInts.ofNums (m192.numsO (i := 30) rfl)) (IsInts.ofNums (m192.numsO (i := 31) rfl)) (by omega) (by omega) (by omega) (by omega)) ?_
     rintro e w206 ⟨rfl, hb206⟩
     have m207 := m192.later hb206
     clear m192
     clear hb206
     refine ⟨_, rfl, ?_⟩; clear Hz Az; intro Az Hz
     refine hK _ _ ?_; clear hK K
     refine goB hP192 [14, 15] 2 16383 65535 Hz (.nilCheck rfl <| .fieldAddr (off := 22) rfl Tryz.underlying86 rfl (s := 0) (by kernel_rfl) rfl <| .nil) ?_
     clear Hz Az; intro Az Hz
     refine stepE_end 16 rfl (by kernel_rfl) rfl (by rfl) (fun K hK => ?_)
     refine e_store1 Hz m207 1 rfl rfl rfl rfl rfl sz3rco (by dsimp only [List.set] <;> rfl) ?_
     clear m207; intro w211 m211 hB211
     clear hB211
     refine hK _ _ ?_; clear hK K
     refine wpAnyE_done (by kernel_rfl) ?_ _
     try dsimp only [Exit.then]
     try refine out_here ?_
     refine (ret0 (fn := Tryz.f116) Hz rfl ?_)
     exact ⟨_, rfl, m211.only [1, 2, 3, 4, 5, 6, 7, 8]⟩
end
end Go.Proofs.YtndnnlbdnjndiaaGreat.K
