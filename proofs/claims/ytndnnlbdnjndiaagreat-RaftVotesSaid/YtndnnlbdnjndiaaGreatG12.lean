/- General laws of walks. -/
import Derived.Test.YtndnnlbdnjndiaaGreatG11
namespace Go.Proofs.YtndnnlbdnjndiaaGreat.K
open Go.ChangeShapes Go.WideShapes Go.ChangeAt Go.RowKit
set_option linter.unusedVariables false
set_option linter.unusedSimpArgs false
section
theorem ps32rim : placesS Tryz.prog 32 = some [(0, 2), (2, 4), (6, 1)] := by kernel_rfl
theorem sz25rim : (Tryz.prog.info? 25).map (·.size) = some 2 := by kernel_rfl
theorem sz29rim : (Tryz.prog.info? 29).map (·.size) = some 4 := by kernel_rfl
theorem sz32rim : (Tryz.prog.info? 32).map (·.size) = some 7 := by kernel_rfl
theorem zc29rim : ((Tryz.prog.info? 29).bind (·.zero)).map (·.cells.toList) = some [.int .i64 0, .int .i64 0, .slice none 0 0, .slice none 0 0] := by kernel_rfl
theorem zc32rim : ((Tryz.prog.info? 32).bind (·.zero)).map (·.cells.toList) = some [.int .i64 0, .int .i64 0, .int .i64 0, .int .i64 0, .slice none 0 0, .slice none 0 0, .slice none 0 0] := by kernel_rfl
theorem sz3rry : (Tryz.prog.info? 3).map (·.size) = some 1 := by kernel_rfl
theorem sz46rpr : (Tryz.prog.info? 46).map (·.size) = some 3 := by kernel_rfl
theorem zc46rpr : ((Tryz.prog.info? 46).bind (·.zero)).map (·.cells.toList) = some [.slice none 0 0, .slice none 0 0, .bool false] := by kernel_rfl
theorem ps118rcm : placesS Tryz.prog 118 = some [(0, 1), (1, 1), (2, 2), (4, 4), (8, 4)] := by kernel_rfl
theorem sz46rcm : (Tryz.prog.info? 46).map (·.size) = some 3 := by kernel_rfl
theorem zc46rcm : ((Tryz.prog.info? 46).bind (·.zero)).map (·.cells.toList) = some [.slice none 0 0, .slice none 0 0, .bool false] := by kernel_rfl
theorem zc118rcm : ((Tryz.prog.info? 118).bind (·.zero)).map (·.cells.toList) = some [.int .i64 0, .int .i64 0, .int .i64 0, .int .i64 0, .int .i64 0, .int .i64 0, .int .i64 0, .slice none 0 0, .int .i64 0, .int .i64 0, .slice none 0 0, .slice none 0 0] := by kernel_rfl
theorem ps86rnw : placesS Tryz.prog 86 = some [(0, 5), (5, 15), (20, 1), (21, 1), (22, 1), (23, 1), (24, 1), (25, 1), (26, 3)] := by kernel_rfl
theorem sz3rnw : (Tryz.prog.info? 3).map (·.size) = some 1 := by kernel_rfl
theorem sz25rnw : (Tryz.prog.info? 25).map (·.size) = some 2 := by kernel_rfl
theorem sz29rnw : (Tryz.prog.info? 29).map (·.size) = some 4 := by kernel_rfl
theorem sz79rnw : (Tryz.prog.info? 79).map (·.size) = some 1 := by kernel_rfl
theorem zc86rnw : ((Tryz.prog.info? 86).bind (·.zero)).map (·.cells.toList) = some [.int .i64 0, .int .i64 0, .int .i64 0, .int .i64 0, .pointer none, .int .i64 0, .int .i64 0, .int .i64 0, .int .i64 0, .int .i64 0, .int .i64 0, .int .i64 0, .int .i64 0, .int .i64 0, .int .i64 0, .int .i64 0, .int .i64 0, .int .i64 0, .int .i64 0, .int .i64 0, .int .i64 0, .int .i64 0, .int .i64 0, .int .i64 0, .int .i64 0, .slice none 0 0, .slice none 0 0, .slice none 0 0, .bool false] := by kernel_rfl
theorem sz26rcn : (Tryz.prog.info? 26).map (·.size) = some 1 := by kernel_rfl
theorem sz29rcn : (Tryz.prog.info? 29).map (·.size) = some 4 := by kernel_rfl
theorem sz79rcn : (Tryz.prog.info? 79).map (·.size) = some 1 := by kernel_rfl
theorem sz86rcn : (Tryz.prog.info? 86).map (·.size) = some 29 := by kernel_rfl
theorem zc29rcn : ((Tryz.prog.info? 29).bind (·.zero)).map (·.cells.toList) = some [.int .i64 0, .int .i64 0, .slice none 0 0, .slice none 0 0] := by kernel_rfl
theorem zc86rcn : ((Tryz.prog.info? 86).bind (·.zero)).map (·.cells.toList) = some [.int .i64 0, .int .i64 0, .int .i64 0, .int .i64 0, .pointer none, .int .i64 0, .int .i64 0, .int .i64 0, .int .i64 0, .int .i64 0, .int .i64 0, .int .i64 0, .int .i64 0, .int .i64 0, .int .i64 0, .int .i64 0, .int .i64 0, .int .i64 0, .int .i64 0, .int .i64 0, .int .i64 0, .int .i64 0, .int .i64 0, .int .i64 0, .int .i64 0, .slice none 0 0, .slice none 0 0, .slice none 0 0, .bool false] := by kernel_rfl

theorem fromL_all (s : RS) (hb : RLS s) : fromL s.bi s.es (s.bi + 1) 9223372036854775807 = s.es := by
 have := hb.n
 unfold fromL
 rw [show (s.bi + 1 - s.bi - 1).toNat = 0 from by omega, List.drop_zero, List.take_of_length_le (by omega)]
def baseR (bi bt : Int) (cf bd : List Int) : RR := ⟨0, 3, 0, 0, 0, 0, 0, [], bi, bt, cf, bd⟩
abbrev compS (s : RS) (k : Nat) (et : Int) (dd : List Int) : RS := { s with bi := s.x.ap, bt := et, cf := confL s.cf s.es s.x.ap, bd := dd, es := s.es.drop (k + 1) }
def newX (id gr te vo bi : Int) : RV := ⟨min (max id 0) 6, min (max gr 0) 7, te, vo, 0, 0, 0, 0, 0, 0, 0, 0, 0, 0, 0, 0, 0, 0, 0, 0, -1, bi, bi, 0⟩
def newS (id gr te vo bi bt : Int) (cf bd : List Int) (ls : List En) : RS := ⟨newX id gr te vo bi, bi, bt, cf, bd, ls.take (runN bi ls), [], [], [], false⟩
abbrev rfM2 (R : Nat) (s : RS) (p : RP) (M : Mm) : Mm :=
 (21, .box R 86 (raC s.x p.L (.slice p.py s.ys.length p.cy) (.slice p.pm (s.ms.map rmD).length p.cm) (.slice p.pq (s.rs.map rrD).length p.cq) s.re)) ::
 (22, .box p.L 123 [.int .i64 s.bi, .int .i64 s.bt, .slice p.pc s.cf.length p.cc, .slice p.pd s.bd.length p.cd, .slice p.pl (s.es.map entD).length p.cl]) ::
 (23, .seg (.slice p.pl (s.es.map entD).length p.cl) 62 4 (s.es.map entD)) :: (24, .dat (.slice p.pc s.cf.length p.cc) (.ns .i64 s.cf)) :: (25, .dat (.slice p.pd s.bd.length p.cd) (.ns .u8 s.bd)) ::
 (26, .dat (.slice p.py s.ys.length p.cy) (.ns .i64 s.ys)) :: (27, .seg (.slice p.pm (s.ms.map rmD).length p.cm) 55 19 (s.ms.map rmD)) :: (28, .seg (.slice p.pq (s.rs.map rrD).length p.cq) 118 12 (s.rs.map rrD)) :: M
set_option maxRecDepth 100000
set_option maxHeartbeats 4000000
theorem rbehind_s (R : Nat) (s : RS) (p : RP) (w0 : World) (h : RIs w0 R s p) (hb : RLS s) (i : Int) (hi : -2000000000000000 ≤ i ∧ i ≤ 2000000000000000) :
   Calls Tryz.prog 40 #[.pointer (some ⟨R, 0, none⟩), .int .i64 i] w0 fun e w' => ∃ u c, e = .returned (.slice u ((fromL s.bi s.es (i + 1) 9223372036854775807).map entD).length c) ∧ Rd (New w0) w' (.slice u ((fromL s.bi s.es (i + 1) 9223372036854775807).map entD).length c) (.l 4 ((fromL s.bi s.es (i + 1) 9223372036854775807).map entD)) ∧ Below w0.heap.size w0 w' := by
 refine enter (fn := Tryz.f40) Tryz.func40 rfl Tryz.ntmps40 rfl (fun Az Hz => ?_)
 simp only [List.zipIdx_cons, List.zipIdx_nil, List.map_cons, List.map_nil, Nat.reduceAdd, Nat.zero_add] at Hz
 have m0 := MemOk.start (fun _ => False) w0
 have hR := h.r
 have hY := h.y
 have hB := h.b
 refine regS Hz (.assign rfl <| .nil) ?_
 clear Hz Az; intro Az Hz
 refine wp_seq_k (fun K0 hK0 => ?_)
 refine wp_region_lit ?_
 refine goCh Hz (.move rfl <| .nilCheck rfl <| .fieldAddr (off := 4) rfl Tryz.underlying81 rfl (s := 0) (by kernel_rfl) rfl <| .loadX1 (hR.now m0 rfl) rfl rfl Tryz.underlying79 rfl <| .move rfl <| .add rfl rfl (r := i + 1) (IntWalk.i64_in _ (by omega)) <| .nil) ?_
 clear Hz Az; intro Az Hz
 refine wpList_plain rfl (fun K hK => ?_)
 refine e_call Hz Tryz.func71 rfl rfl rfl rfl (rfrom_s R s p _ (h.now m0) hb (i + 1) 9223372036854775807) ?_
 rintro e w14 ⟨p14, c14, rfl, hd14, hb14⟩
 have m15 := m0.callF 20 rfl hb14 hd14
 clear m0
 clear hb14 hd14
 refine ⟨_, rfl, ?_⟩; clear Hz Az; intro Az Hz
 refine hK _ _ ?_; clear hK K
 refine goCh Hz (.assign rfl .nil) ?_
 clear Hz Az; intro Az Hz
 refine wpList_nil ?_
 refine hK0 _ _ ?_; clear hK0; try clear K0
 refine wp_ret ?_
 try dsimp only [Exit.then, Exit.inBlock]
 refine (ret1 (fn := Tryz.f40) Hz rfl rfl ?_)
 exact ⟨_, _, rfl, m15.outF (i := 20) rfl, m15.below⟩
theorem rConf_s (R : Nat) (s : RS) (p : RP) (w0 : World) (h : RIs w0 R s p) (hb : RLS s) :
   Calls Tryz.prog 35 #[.pointer (some ⟨R, 0, none⟩)] w0 fun e w' => ∃ u c, e = .returned (.slice u (confL s.cf s.es (lastS s)).length c) ∧ Rd (New w0) w' (.slice u (confL s.cf s.es (lastS s)).length c) (.ns .i64 (confL s.cf s.es (lastS s))) ∧ Below w0.heap.size w0 w' := by
 refine enter (fn := Tryz.f35) Tryz.func35 rfl Tryz.ntmps35 rfl (fun Az Hz => ?_)
 simp only [List.zipIdx_cons, List.zipIdx_nil, List.map_cons, List.map_nil, Nat.reduceAdd, Nat.zero_add] at Hz
 have m0 := MemOk.start (fun _ => False) w0
 have hR := h.r
 have hY := h.y
 have hB := h.b
 refine regS Hz (.assign rfl <| .nil) ?_
 clear Hz Az; intro Az Hz
 refine wp_seq_k (fun K0 hK0 => ?_)
 have m2 : MemOk _ _ [] _ := m0.only []; clear m0
 refine region_p 15 (B := []) (m2.to trivial) m2 (by kernel_rfl) (fun w3 hP3 m3 => ?_); clear m2
 refine goR hP3 [0, 1, 2, 3, 4, 5, 6, 7, 8, 9, 10, 11] [4, 9] 12 0 4095 Hz (m3.to trivial) (.move rfl <| .nilCheck rfl <| .fieldAddr (off := 0) rfl Tryz.underlying86 rfl (s := 4) (by kernel_rfl) rfl <| .fieldAddr (off := 4) rfl Tryz.underlying81 rfl (s := 0) (by kernel_rfl) rfl <| .loadX1 (fun _ h_ => (hR.now h_ rfl)) rfl rfl Tryz.underlying79 rfl <| .move rfl <| .nilCheck rfl <| .fieldAddr (off := 0) rfl Tryz.underlying86 rfl (s := 4) (by kernel_rfl) rfl <| .fieldAddr (off := 4) rfl Tryz.underlying81 rfl (s := 0) (by kernel_rfl) rfl <| .loadX1 (fun _ h_ => (hR.now h_ rfl)) rfl rfl Tryz.underlying79 rfl <| .nilCheck rfl <| .fieldAddr (off := 0) rfl Tryz.underlying123 rfl (s := 4) (by kernel_rfl) rfl <| .nil) ?_
 clear Hz Az; intro Az Hz
 refine stepE_only 12 rfl (by kernel_rfl) rfl (fun K hK => ?_)
 refine e_call Hz Tryz.func75 rfl rfl rfl rfl (rlast_s R s p _ (h.now m3) hb) ?_
 rintro e w16 ⟨rfl, hb16⟩
 have m17 := m3.later hb16
 clear m3
 clear hb16
 refine ⟨_, rfl, ?_⟩; clear Hz Az; intro Az Hz
 refine hK _ _ (m17.to trivial) ?_; clear hK K
 refine stepE_only 13 rfl (by kernel_rfl) rfl (fun K hK => ?_)
 refine e_call Hz Tryz.func74 rfl rfl rfl rfl (rconf_s R s p _ (h.now m17) hb _) ?_
 rintro e w19 ⟨p19, c19, rfl, hd19, hb19⟩
 have m20 := m17.callF 20 rfl hb19 hd19
 clear m17
 clear hb19 hd19
 refine ⟨_, rfl, ?_⟩; clear Hz Az; intro Az Hz
 refine hK _ _ (m20.to trivial) ?_; clear hK K
 refine goA hP3 [14] 1 16383 32767 Hz (m20.to trivial) (.assign rfl <| .nil) ?_
 clear Hz Az; intro Az Hz
 refine wpAnyE_done (by kernel_rfl) ?_ _
 refine hK0 _ _ ?_; clear hK0; try clear K0
 refine wp_ret ?_
 try dsimp only [Exit.then, Exit.inBlock]
 refine (ret1 (fn := Tryz.f35) Hz rfl rfl ?_)
 exact ⟨_, _, rfl, m20.outF (i := 20) rfl, m20.below⟩
theorem rImage_s (R : Nat) (s : RS) (p : RP) (w0 : World) (h : RIs w0 R s p) (hb : RLS s) :
   Calls Tryz.prog 20 #[.pointer (some ⟨R, 0, none⟩)] w0 fun e w' => ∃ q1 c1 q2 c2 q3 c3, e = .returned (.agg #[.int .i64 s.x.te, .int .i64 s.x.vo, .int .i64 s.bi, .int .i64 s.bt, .slice q1 s.cf.length c1, .slice q2 s.bd.length c2, .slice q3 (s.es.map entD).length c3]) ∧ Rd (New w0) w' (.slice q1 s.cf.length c1) (.ns .i64 s.cf) ∧ Rd (New w0) w' (.slice q2 s.bd.length c2) (.ns .u8 s.bd) ∧ Rd (New w0) w' (.slice q3 (s.es.map entD).length c3) (.l 4 (s.es.map entD)) ∧ Below w0.heap.size w0 w' := by
 refine enter (fn := Tryz.f20) Tryz.func20 rfl Tryz.ntmps20 rfl (fun Az Hz => ?_)
 simp only [List.zipIdx_cons, List.zipIdx_nil, List.map_cons, List.map_nil, Nat.reduceAdd, Nat.zero_add] at Hz
 have m0 := MemOk.start (fun _ => False) w0
 have hR := h.r
 have hY := h.y
 have hB := h.b
 refine wp_seq_k (fun K0 hK0 => ?_)
 refine wp_region_lit ?_
 refine wpList_plain rfl (fun K hK => ?_)
 refine e_alloc Hz m0 20 zc32rim rfl ?_
 clear Hz Az m0; intro g1 Az w2 Hz m2 hB2 hg2
 clear hB2 hg2
 refine hK _ _ ?_; clear hK K
 refine wpList_nil ?_
 refine hK0 _ _ ?_; clear hK0; try clear K0
 refine wp_seq_k (fun K1 hK1 => ?_)
 refine wp_region_lit ?_
 refine goCh Hz (.move rfl <| .nilCheck rfl <| .fieldAddr (off := 0) rfl Tryz.underlying86 rfl (s := 4) (by kernel_rfl) rfl <| .fieldAddr (off := 4) rfl Tryz.underlying81 rfl (s := 0) (by kernel_rfl) rfl <| .loadX1 (hR.now m2 rfl) rfl rfl Tryz.underlying79 rfl <| .nil) ?_
 clear Hz Az; intro Az Hz
 refine wpList_plain rfl (fun K hK => ?_)
 refine e_call Hz Tryz.func39 rfl rfl rfl rfl (rbase_s R s p _ (h.now m2) hb) ?_
 rintro e w13 ⟨u13, c13, q13, b13, rfl, hc13, hd13, hb13⟩
 have m14 := m2.callFF 21 22 rfl rfl hb13 hc13 hd13
 clear m2
 clear hb13 hc13 hd13
 refine ⟨_, rfl, ?_⟩; clear Hz Az; intro Az Hz
 refine hK _ _ ?_; clear hK K
 refine wpList_plain rfl (fun K hK => ?_)
 refine e_alloc Hz m14 23 zc29rim rfl ?_
 clear Hz Az m14; intro g16 Az w17 Hz m17 hB17 hg17
 clear hB17 hg17
 refine hK _ _ ?_; clear hK K
 refine wpList_plain rfl (fun K hK => ?_)
 refine e_storeW Hz m17 23 rfl rfl rfl rfl rfl sz29rim ?_
 clear m17; intro w18 m18 hB18
 clear hB18
 refine hK _ _ ?_; clear hK K
 refine wpList_nil ?_
 refine hK1 _ _ ?_; clear hK1; try clear K1
 refine wp_seq_k (fun K2 hK2 => ?_)
 replace Hz : Has 23 [(0, _), (2, _), (3, _)] Az := Hz.only [0, 2, 3]
 have m20 : MemOk _ _ [(20, _), (21, _), (22, _), (23, _)] _ := m18.only [20, 21, 22, 23]; clear m18
 refine region_p 13 (B := [(20, _), (21, _), (22, _), (23, _)]) (m20.to ⟨il, il, il, il, trivial⟩) m20 (by kernel_rfl) (fun w21 hP21 m21 => ?_); clear m20
 refine goR hP21 [0, 1, 2, 3, 4, 5, 6, 7, 8, 9, 10] [4, 5, 10] 11 0 2047 Hz (m21.to ⟨il, il, il, il, trivial⟩) (.move rfl <| .nilCheck rfl <| .fieldAddr (off := 0) rfl Tryz.underlying86 rfl (s := 4) (by kernel_rfl) rfl <| .fieldAddr (off := 2) rfl Tryz.underlying81 rfl (s := 1) (by kernel_rfl) rfl <| .loadXR (fun _ h_ => (hR.now h_ rfl)) rfl Tryz.underlying25 rfl sz25rim rfl rfl <| .loadBR hh (i := 23) rfl rfl Tryz.underlying29 rfl sz29rim (by simp) (by dsimp only [List.drop, List.take] <;> rfl) <| .move rfl <| .nilCheck rfl <| .fieldAddr (off := 0) rfl Tryz.underlying86 rfl (s := 4) (by kernel_rfl) rfl <| .fieldAddr (off := 0) rfl Tryz.underlying29 rfl (s := 0) (by kernel_rfl) rfl <| .loadB1 hh (i := 23) rfl rfl rfl Tryz.underlying3 rfl <| .nil) ?_
 clear Hz Az; intro Az Hz
 refine stepE_only 11 rfl (by kernel_rfl) rfl (fun K hK => ?_)
 refine e_call Hz Tryz.func40 rfl rfl rfl rfl (rbehind_s R s p _ (h.now m21) hb s.bi (by have := hb.b; omega)) ?_
 rintro e w33 ⟨p33, c33, rfl, hd33, hb33⟩
 have m34 := m21.callF 24 rfl hb33 hd33
 clear m21
 clear hb33 hd33
 refine ⟨_, rfl, ?_⟩; clear Hz Az; intro Az Hz
 refine hK _ _ (m34.to ⟨il, il, il, il, trivial⟩) ?_; clear hK K
 refine goA hP21 [12] 1 4095 8191 Hz (m34.to ⟨il, il, il, il, trivial⟩) (.p (fun _ _ h_ => y_buildG h_ rfl zc32rim ps32rim rfl) <| .nil) ?_
 clear Hz Az; intro Az Hz
 refine stepE_end 13 rfl (by kernel_rfl) rfl (by rfl) (fun K hK => ?_)
 refine e_storeW Hz m34 20 rfl rfl rfl rfl rfl sz32rim ?_
 clear m34; intro w37 m37 hB37
 clear hB37
 refine hK _ _ ?_; clear hK K
 refine wpAnyE_done (by kernel_rfl) ?_ _
 refine hK2 _ _ ?_; clear hK2; try clear K2
 refine wp_ret ?_
 try dsimp only [Exit.then, Exit.inBlock]
 refine (retC (fn := Tryz.f20) Hz m37 (i := 20) rfl rfl rfl Tryz.underlying32 rfl sz32rim ?_)
 rw [fromL_all s hb] at m37 ⊢
 exact ⟨_, _, _, _, _, _, rfl, m37.outF (i := 21) rfl, m37.outF (i := 22) rfl, m37.outF (i := 24) rfl, m37.below⟩
theorem rReady_s (X : Cx) (R : Nat) (s : RS) (p : RP) (w0 : World) (hb : RLS s) (hk : ROk s) (hap : -1000000000 ≤ s.x.ap ∧ s.x.ap ≤ 1000000000) (m0 : MemOk X w0 (rfM R s p) w0) :
   Calls Tryz.prog 32 #[.pointer (some ⟨R, 0, none⟩)] w0 fun e w' => ∃ u c, e = .returned (.slice u ((fromL s.bi s.es (s.x.ap + 1) (s.x.co - s.x.ap)).map entD).length c) ∧ MemOk X w0 ((11, .dat (.slice u ((fromL s.bi s.es (s.x.ap + 1) (s.x.co - s.x.ap)).map entD).length c) (.l 4 ((fromL s.bi s.es (s.x.ap + 1) (s.x.co - s.x.ap)).map entD))) :: rfM R (withX s { s.x with ap := s.x.co }) p) w' := by
 refine enter (fn := Tryz.f32) Tryz.func32 rfl Tryz.ntmps32 rfl (fun Az Hz => ?_)
 simp only [List.zipIdx_cons, List.zipIdx_nil, List.map_cons, List.map_nil, Nat.reduceAdd, Nat.zero_add] at Hz
 have hco := hk.co
 refine regS Hz (.assign rfl <| .nil) ?_
 clear Hz Az; intro Az Hz
 refine wp_seq_k (fun K0 hK0 => ?_)
 have m2 : MemOk _ _ [(1, _), (2, _), (3, _), (4, _), (5, _), (6, _), (7, _), (8, _)] _ := m0.only [1, 2, 3, 4, 5, 6, 7, 8]; clear m0
 refine region_p 21 (B := [(1, _), (2, _), (3, _), (4, _), (5, _), (6, _), (7, _), (8, _)]) (m2.to ⟨il, il, il, il, il, il, il, il, trivial⟩) m2 (by kernel_rfl) (fun w3 hP3 m3 => ?_); clear m2
 refine goR hP3 [0, 1, 2, 3, 4, 5, 6, 7, 8, 9, 10, 11, 12, 13, 14, 15, 16, 17, 18] [4, 8, 13, 17] 19 0 524287 Hz (m3.to ⟨il, il, il, il, il, il, il, il, trivial⟩) (.move rfl <| .nilCheck rfl <| .fieldAddr (off := 0) rfl Tryz.underlying86 rfl (s := 4) (by kernel_rfl) rfl <| .fieldAddr (off := 4) rfl Tryz.underlying81 rfl (s := 0) (by kernel_rfl) rfl <| .loadB1 hh (i := 1) rfl rfl rfl Tryz.underlying79 rfl <| .move rfl <| .nilCheck rfl <| .fieldAddr (off := 23) rfl Tryz.underlying86 rfl (s := 0) (by kernel_rfl) rfl <| .loadB1 hh (i := 1) rfl rfl rfl Tryz.underlying3 rfl <| .add rfl rfl (r := s.x.ap + 1) (IntWalk.i64_in _ (by omega)) <| .move rfl <| .nilCheck rfl <| .fieldAddr (off := 22) rfl Tryz.underlying86 rfl (s := 0) (by kernel_rfl) rfl <| .loadB1 hh (i := 1) rfl rfl rfl Tryz.underlying3 rfl <| .move rfl <| .nilCheck rfl <| .fieldAddr (off := 23) rfl Tryz.underlying86 rfl (s := 0) (by kernel_rfl) rfl <| .loadB1 hh (i := 1) rfl rfl rfl Tryz.underlying3 rfl <| .sub rfl rfl (r := s.x.co - s.x.ap) (IntWalk.i64_in _ (by omega)) <| .nil) ?_
 clear Hz Az; intro Az Hz
 refine stepE_only 19 rfl (by kernel_rfl) rfl (fun K hK => ?_)
 refine e_call Hz Tryz.func71 rfl rfl rfl rfl (rfrom_s R s p _ (rfM_is s p (m3.into [(1, 1), (2, 2), (3, 3), (4, 4), (5, 5), (6, 6), (7, 7), (8, 8)] (by decide) rfl)) hb (s.x.ap + 1) (s.x.co - s.x.ap)) ?_
 rintro e w23 ⟨p23, c23, rfl, hd23, hb23⟩
 have m24 := m3.callF 20 rfl hb23 hd23
 clear m3
 clear hb23 hd23
 refine ⟨_, rfl, ?_⟩; clear Hz Az; intro Az Hz
 refine hK _ _ (m24.to ⟨il, il, il, il, il, il, il, il, trivial⟩) ?_; clear hK K
 refine goA hP3 [20] 1 1048575 2097151 Hz (m24.to ⟨il, il, il, il, il, il, il, il, trivial⟩) (.assign rfl <| .nil) ?_
 clear Hz Az; intro Az Hz
 refine wpAnyE_done (by kernel_rfl) ?_ _
 refine hK0 _ _ ?_; clear hK0; try clear K0
 replace Hz : Has 32 [(0, _), (2, _), (3, _)] Az := Hz.only [0, 2, 3]
 refine wp_seq_k (fun K1 hK1 => ?_)
 refine wp_region_lit ?_
 refine goCh Hz (.move rfl <| .move rfl <| .nilCheck rfl <| .fieldAddr (off := 22) rfl Tryz.underlying86 rfl (s := 0) (by kernel_rfl) rfl <| .loadB1 m24 (i := 1) rfl rfl rfl Tryz.underlying3 rfl <| .nilCheck rfl <| .fieldAddr (off := 23) rfl Tryz.underlying86 rfl (s := 0) (by kernel_rfl) rfl <| .nil) ?_
 clear Hz Az; intro Az Hz
 refine wpList_plain rfl (fun K hK => ?_)
 refine e_store1 Hz m24 1 rfl rfl rfl rfl rfl sz3rry (by dsimp only [List.set] <;> rfl) ?_
 clear m24; intro w42 m42 hB42
 clear hB42
 refine hK _ _ ?_; clear hK K
 refine wpList_nil ?_
 refine hK1 _ _ ?_; clear hK1; try clear K1
 replace Hz : Has 32 [(2, _), (3, _)] Az := Hz.only [2, 3]
 refine regS Hz (.move rfl <| .assign rfl <| .nil) ?_
 clear Hz Az; intro Az Hz
 refine wp_ret ?_
 try dsimp only [Exit.then, Exit.inBlock]
 refine (ret1 (fn := Tryz.f32) Hz rfl rfl ?_)
 exact ⟨_, _, rfl, m42.ren [(11, 20), (1, 1), (2, 2), (3, 3), (4, 4), (5, 5), (6, 6), (7, 7), (8, 8)] (by decide)⟩
theorem rPropose_s (X : Cx) (R : Nat) (s : RS) (p : RP) (kd : Int) (dd : List Int) (pa : Option Addr) (ca : Nat) (w0 : World) (hk : ROk s) (hro : s.x.ro = 3) (hkd : kd ≠ 2) (hdd : dd.length ≤ 100000) (hdb : ByteL dd) (hnx : ∀ n ∈ othS (addS s kd dd), s.bi < nx (addS s kd dd).x n ∧ nx (addS s kd dd).x n ≤ 1000000000000000000) (m0 : MemOk X w0 ((9, .dat (.slice pa dd.length ca) (.ns .u8 dd)) :: rfM R s p) w0) :
   Calls Tryz.prog 31 #[.pointer (some ⟨R, 0, none⟩), .int .i64 kd, .slice pa dd.length ca] w0 fun e w' => ∃ p' o', e = .returned (.tuple #[.agg #[.slice o'.pm ((tellS (addS s kd dd)).ms.map rmD).length o'.cm, .slice o'.pq ((tellS (addS s kd dd)).rs.map rrD).length o'.cq, .bool (tellS (addS s kd dd)).re], .int .i64 (lastS s + 1), .bool true]) ∧ MemOk X w0 (ouM (tellS (addS s kd dd)) o' (rfM R (clrS (tellS (addS s kd dd))) (nilP p'))) w' := by
 refine enter (fn := Tryz.f31) Tryz.func31 rfl Tryz.ntmps31 rfl (fun Az Hz => ?_)
 simp only [List.zipIdx_cons, List.zipIdx_nil, List.map_cons, List.map_nil, Nat.reduceAdd, Nat.zero_add] at Hz
 refine wp_seq_k (fun K0 hK0 => ?_)
 refine wp_region_lit ?_
 refine wpList_plain rfl (fun K hK => ?_)
 refine e_alloc Hz m0 20 zc46rpr rfl ?_
 clear Hz Az m0; intro g1 Az w2 Hz m2 hB2 hg2
 clear hB2 hg2
 refine hK _ _ ?_; clear hK K
 refine goCh Hz (.assign rfl <| .assign rfl <| .nil) ?_
 clear Hz Az; intro Az Hz
 refine wpList_nil ?_
 refine hK0 _ _ ?_; clear hK0; try clear K0
 refine wp_seq_k (fun K1 hK1 => ?_)
 refine wp_seq_k (fun K2 hK2 => ?_)
 refine wp_region_lit ?_
 refine goCh Hz (.move rfl <| .nilCheck rfl <| .fieldAddr (off := 20) rfl Tryz.underlying86 rfl (s := 0) (by kernel_rfl) rfl <| .loadB1 m2 (i := 1) rfl rfl rfl Tryz.underlying3 rfl <| .neq rfl rfl <| .move rfl <| .nil) ?_
 clear Hz Az; intro Az Hz
 refine bool_cases Hz (t := 15) rfl ?_ ?_
 · intro hb _; exact absurd hb (by simp; omega)
 clear Hz; intro _ Hz
 refine goCh Hz (.moveZ rfl <| .eqlZ rfl rfl <| .moveZ rfl <| .nil) ?_
 clear Hz Az; intro Az Hz
 refine bool_cases Hz (t := 18) rfl ?_ ?_
 · intro hb _; exact absurd hb (by simp; omega)
 clear Hz; intro _ Hz
 refine goCh Hz (.sk <| .sk <| .sk <| .sk <| .pickFZ rfl rfl <| .pickF rfl rfl <| .nil) ?_
 clear Hz Az; intro Az Hz
 refine wpList_nil ?_
 refine hK2 _ _ ?_; clear hK2; try clear K2
 refine wp_cond_false (Hz.ev (x := .tmp 24) rfl) ?_
 refine wp_skip ?_
 refine hK1 _ _ ?_; clear hK1; try clear K1
 replace Hz : Has 35 [(0, _), (1, _), (2, _), (6, _), (7, _), (8, _)] Az := Hz.only [0, 1, 2, 6, 7, 8]
 refine wp_seq_k (fun K3 hK3 => ?_)
 refine wp_region_lit ?_
 refine goCh Hz (.move rfl <| .move rfl <| .move rfl <| .nil) ?_
 clear Hz Az; intro Az Hz
 refine wpList_plain rfl (fun K hK => ?_)
 refine e_call Hz Tryz.func70 rfl rfl rfl rfl (radd_s _ R s p kd dd _ _ _ hk.l (Nat.lt_of_lt_of_le hk.n (by decide)) hdd hdb (by have := hk.rs; omega) hk.co hk.ld (m2.into [(9, 9), (1, 1), (2, 2), (3, 3), (4, 4), (5, 5), (6, 6), (7, 7), (8, 8)] (by decide) rfl)) ?_
 rintro e w35 ⟨p1, rfl, hm35⟩
 have mx35 := m2.back hm35 [(1, 1), (2, 2), (3, 3), (4, 4), (5, 5), (6, 6), (7, 7), (8, 8)] (by decide); clear hm35 m2
 have m35 : MemOk _ _ [(1, _), (2, _), (3, _), (4, _), (5, _), (6, _), (7, _), (8, _), (20, _)] _ := mx35.only [1, 2, 3, 4, 5, 6, 7, 8, 20]; clear mx35
 refine ⟨_, rfl, ?_⟩; clear Hz Az; intro Az Hz
 refine hK _ _ ?_; clear hK K
 refine goCh Hz (.assign rfl .nil) ?_
 clear Hz Az; intro Az Hz
 refine wpList_nil ?_
 refine hK3 _ _ ?_; clear hK3; try clear K3
 replace Hz : Has 35 [(0, _), (6, _), (7, _), (8, _), (9, _)] Az := Hz.only [0, 6, 7, 8, 9]
 refine wp_seq_k (fun K4 hK4 => ?_)
 refine wp_region_lit ?_
 refine goCh Hz (.move rfl .nil) ?_
 clear Hz Az; intro Az Hz
 refine wpList_plain rfl (fun K hK => ?_)
 refine e_call Hz Tryz.func46 rfl rfl rfl rfl (rtell_s _ R (addS s kd dd) p1 _ (hk.l.snoc (Nat.lt_of_lt_of_le hk.n (by decide)) hdd hdb) (by have := hk.ms; show s.ms.length ≤ _; omega) hnx (m35.into [(1, 1), (2, 2), (3, 3), (4, 4), (5, 5), (6, 6), (7, 7), (8, 8)] (by decide) rfl)) ?_
 rintro e w41 ⟨p2, rfl, hm41⟩
 have mx41 := m35.back hm41 [(1, 1), (2, 2), (3, 3), (4, 4), (5, 5), (6, 6), (7, 7), (8, 8)] (by decide); clear hm41 m35
 have m41 : MemOk _ _ [(1, _), (2, _), (3, _), (4, _), (5, _), (6, _), (7, _), (8, _), (20, _)] _ := mx41.only [1, 2, 3, 4, 5, 6, 7, 8, 20]; clear mx41
 refine ⟨_, rfl, ?_⟩; clear Hz Az; intro Az Hz
 refine hK _ _ ?_; clear hK K
 refine wpList_nil ?_
 refine hK4 _ _ ?_; clear hK4; try clear K4
 refine wp_seq_k (fun K5 hK5 => ?_)
 refine wp_region_lit ?_
 refine goCh Hz (.move rfl .nil) ?_
 clear Hz Az; intro Az Hz
 refine wpList_plain rfl (fun K hK => ?_)
 refine e_call Hz Tryz.func47 rfl rfl rfl rfl (rtaken_s _ R (tellS (addS s kd dd)) p2 _ (m41.into [(1, 1), (2, 2), (3, 3), (4, 4), (5, 5), (6, 6), (7, 7), (8, 8)] (by decide) rfl)) ?_
 rintro e w45 ⟨p9, o9, rfl, hm45⟩
 have mx45 := m41.back hm45 [(1, 1), (2, 2), (3, 3), (4, 4), (5, 5), (6, 6), (7, 7), (8, 8), (11, 11), (12, 12)] (by decide); clear hm45 m41
 have m45 : MemOk _ _ [(1, _), (2, _), (3, _), (4, _), (5, _), (6, _), (7, _), (8, _), (11, _), (12, _), (20, _)] _ := mx45.only [1, 2, 3, 4, 5, 6, 7, 8, 11, 12, 20]; clear mx45
 refine ⟨_, rfl, ?_⟩; clear Hz Az; intro Az Hz
 refine hK _ _ ?_; clear hK K
 refine goCh Hz (.move rfl .nil) ?_
 clear Hz Az; intro Az Hz
 refine wpList_plain rfl (fun K hK => ?_)
 refine e_storeW Hz m45 20 rfl rfl rfl rfl rfl sz46rpr ?_
 clear m45; intro w48 m48 hB48
 clear hB48
 refine hK _ _ ?_; clear hK K
 refine goCh Hz (.assign rfl <| .assign rfl <| .nil) ?_
 clear Hz Az; intro Az Hz
 refine wpList_nil ?_
 refine hK5 _ _ ?_; clear hK5; try clear K5
 refine wp_ret ?_
 try dsimp only [Exit.then, Exit.inBlock]
 refine (retCTT (fn := Tryz.f31) Hz m48 (i := 20) rfl rfl rfl rfl rfl Tryz.underlying46 rfl sz46rpr ?_)
 exact ⟨p9, o9, rfl, m48.only [11, 12, 1, 2, 3, 4, 5, 6, 7, 8]⟩
theorem rlogcom_s (X : Cx) (R : Nat) (s : RS) (p : RP) (k : Nat) (dd : List Int) (pa : Option Addr) (ca : Nat) (w0 : World) {ei et ek : Int} {ed : List Int} (hk : ROk s) (hdd : dd.length ≤ 100000) (hes : s.es[k]? = some (ei, et, ek, ed)) (hi : s.x.ap = s.bi + 1 + k) (m0 : MemOk X w0 ((9, .dat (.slice pa dd.length ca) (.ns .u8 dd)) :: rfM R s p) w0) :
   Calls Tryz.prog 72 #[.pointer (some ⟨p.L, 0, none⟩), .int .i64 s.x.ap, .slice pa dd.length ca] w0 fun e w' => ∃ p', e = .returned (.bool true) ∧ MemOk X w0 (rfM R (compS s k et dd) p') w' := by
 have h1 := hk.l.b; have h2 := hk.l.n; have h3 := hk.l.c
 refine (compact_is _ p.L s.bi s.bt s.cf s.bd s.es p.pc p.pd p.pl p.cc p.cd p.cl k s.x.ap dd pa ca w0 (by omega) (by omega) (by omega) h3 hk.l.bytes hes hi rfl (m0.into [(1, 2), (2, 3), (3, 4), (4, 5), (5, 9)] (by decide) rfl)).mono ?_
 rintro e w' ⟨pc', cc', pd', cd', pl', cl', rfl, hm⟩
 have mb := m0.back hm [(2, 1), (3, 2), (4, 3), (5, 4)] (by decide)
 exact ⟨{ p with pl := pl', cl := cl', pc := pc', cc := cc', pd := pd', cd := cd' }, rfl, mb.only [1, 2, 3, 4, 5, 6, 7, 8]⟩
theorem rsaveB_s (X : Cx) (R : Nat) (s : RS) (p : RP) (bi bt : Int) (cf bd : List Int) (pc pd : Option Addr) (cc cd : Nat) (w0 : World) (hQ : s.rs.length ≤ 1000000) (m0 : MemOk X w0 ((10, .dat (.slice pc cf.length cc) (.ns .i64 cf)) :: (11, .dat (.slice pd bd.length cd) (.ns .u8 bd)) :: rfM R s p) w0) :
   Calls Tryz.prog 73 #[.pointer (some ⟨R, 0, none⟩), .agg #[.int .i64 0, .int .i64 3, .int .i64 0, .int .i64 0, .int .i64 0, .int .i64 0, .int .i64 0, .slice none 0 0, .int .i64 bi, .int .i64 bt, .slice pc cf.length cc, .slice pd bd.length cd]] w0 fun e w' => ∃ p', e = .returned (.tuple #[]) ∧ MemOk X w0 (rfM R (addR s (baseR bi bt cf bd)) p') w' := by
 have m1 := m0.dat 9 rfl (Rd.nilN _ _ .u8 none)
 refine (rsave_s X R s p (baseR bi bt cf bd) none pc pd 0 cc cd w0 hQ (m1.only [9, 10, 11, 1, 2, 3, 4, 5, 6, 7, 8])).mono ?_
 rintro e w' ⟨p', rfl, hm⟩
 exact ⟨p', rfl, hm.only [1, 2, 3, 4, 5, 6, 7, 8]⟩
theorem rCompact_s (X : Cx) (R : Nat) (s : RS) (p : RP) (k : Nat) (dd : List Int) (pa : Option Addr) (ca : Nat) (w0 : World) {ei et ek : Int} {ed : List Int} (hk : ROk s) (hdd : dd.length ≤ 100000) (hes : s.es[k]? = some (ei, et, ek, ed)) (hi : s.x.ap = s.bi + 1 + k) (hcl : RLS (compS s k et dd)) (m0 : MemOk X w0 ((9, .dat (.slice pa dd.length ca) (.ns .u8 dd)) :: rfM R s p) w0) :
   Calls Tryz.prog 34 #[.pointer (some ⟨R, 0, none⟩), .slice pa dd.length ca] w0 fun e w' => ∃ p' o', e = .returned (.agg #[.slice o'.pm ((addR (compS s k et dd) (baseR (compS s k et dd).bi (compS s k et dd).bt (compS s k et dd).cf (compS s k et dd).bd)).ms.map rmD).length o'.cm, .slice o'.pq ((addR (compS s k et dd) (baseR (compS s k et dd).bi (compS s k et dd).bt (compS s k et dd).cf (compS s k et dd).bd)).rs.map rrD).length o'.cq, .bool (addR (compS s k et dd) (baseR (compS s k et dd).bi (compS s k et dd).bt (compS s k et dd).cf (compS s k et dd).bd)).re]) ∧ MemOk X w0 (ouM (addR (compS s k et dd) (baseR (compS s k et dd).bi (compS s k et dd).bt (compS s k et dd).cf (compS s k et dd).bd)) o' (rfM R (clrS (addR (compS s k et dd) (baseR (compS s k et dd).bi (compS s k et dd).bt (compS s k et dd).cf (compS s k et dd).bd))) (nilP p'))) w' := by
 refine enter (fn := Tryz.f34) Tryz.func34 rfl Tryz.ntmps34 rfl (fun Az Hz => ?_)
 simp only [List.zipIdx_cons, List.zipIdx_nil, List.map_cons, List.map_nil, Nat.reduceAdd, Nat.zero_add] at Hz
 refine wp_seq_k (fun K0 hK0 => ?_)
 refine wp_region_lit ?_
 refine wpList_plain rfl (fun K hK => ?_)
 refine e_alloc Hz m0 20 zc46rcm rfl ?_
 clear Hz Az m0; intro g1 Az w2 Hz m2 hB2 hg2
 clear hB2 hg2
 refine hK _ _ ?_; clear hK K
 refine wpList_nil ?_
 refine hK0 _ _ ?_; clear hK0; try clear K0
 refine wp_seq_k (fun K1 hK1 => ?_)
 refine wp_seq_k (fun K2 hK2 => ?_)
 have m3 : MemOk _ _ [(1, _), (2, _), (3, _), (4, _), (5, _), (6, _), (7, _), (8, _), (9, _), (20, _)] _ := m2.only [1, 2, 3, 4, 5, 6, 7, 8, 9, 20]; clear m2
 refine region_p 10 (B := [(1, _), (2, _), (3, _), (4, _), (5, _), (6, _), (7, _), (8, _), (9, _), (20, _)]) (m3.to ⟨il, il, il, il, il, il, il, il, il, il, trivial⟩) m3 (by kernel_rfl) (fun w4 hP4 m4 => ?_); clear m3
 refine goR hP4 [0, 1, 2, 3, 4, 5, 6, 7, 8, 9] [4, 8] 10 0 1023 Hz (m4.to ⟨il, il, il, il, il, il, il, il, il, il, trivial⟩) (.move rfl <| .nilCheck rfl <| .fieldAddr (off := 0) rfl Tryz.underlying86 rfl (s := 4) (by kernel_rfl) rfl <| .fieldAddr (off := 4) rfl Tryz.underlying81 rfl (s := 0) (by kernel_rfl) rfl <| .loadB1 hh (i := 1) rfl rfl rfl Tryz.underlying79 rfl <| .move rfl <| .nilCheck rfl <| .fieldAddr (off := 23) rfl Tryz.underlying86 rfl (s := 0) (by kernel_rfl) rfl <| .loadB1 hh (i := 1) rfl rfl rfl Tryz.underlying3 rfl <| .move rfl <| .nil) ?_
 clear Hz Az; intro Az Hz
 refine stepE_end 10 rfl (by kernel_rfl) rfl (by rfl) (fun K hK => ?_)
 refine e_call Hz Tryz.func72 rfl rfl rfl rfl (rlogcom_s _ R s p k dd _ _ _ hk hdd hes hi (m4.into [(9, 9), (1, 1), (2, 2), (3, 3), (4, 4), (5, 5), (6, 6), (7, 7), (8, 8)] (by decide) rfl)) ?_
 rintro e w15 ⟨p1, rfl, hm15⟩
 have mx15 := m4.back hm15 [(1, 1), (2, 2), (3, 3), (4, 4), (5, 5), (6, 6), (7, 7), (8, 8)] (by decide); clear hm15 m4
 have m15 : MemOk _ _ [(1, _), (2, _), (3, _), (4, _), (5, _), (6, _), (7, _), (8, _), (20, _)] _ := mx15.only [1, 2, 3, 4, 5, 6, 7, 8, 20]; clear mx15
 refine ⟨_, rfl, ?_⟩; clear Hz Az; intro Az Hz
 refine hK _ _ ?_; clear hK K
 refine wpAnyE_done (by kernel_rfl) ?_ _
 refine hK2 _ _ ?_; clear hK2; try clear K2
 refine wp_cond_true (Hz.ev (x := .tmp 15) rfl) ?_
 replace Hz : Has 27 [(0, _), (4, _)] Az := Hz.only [0, 4]
 refine wp_region_lit ?_
 refine goCh Hz (.move rfl <| .move rfl <| .nilCheck rfl <| .fieldAddr (off := 0) rfl Tryz.underlying86 rfl (s := 4) (by kernel_rfl) rfl <| .fieldAddr (off := 4) rfl Tryz.underlying81 rfl (s := 0) (by kernel_rfl) rfl <| .loadB1 m15 (i := 1) rfl rfl rfl Tryz.underlying79 rfl <| .nil) ?_
 clear Hz Az; intro Az Hz
 refine wpList_plain rfl (fun K hK => ?_)
 refine e_call Hz Tryz.func39 rfl rfl rfl rfl (rbase_s R (compS s k et dd) p1 _ (rfM_is (compS s k et dd) p1 (m15.into [(1, 1), (2, 2), (3, 3), (4, 4), (5, 5), (6, 6), (7, 7), (8, 8)] (by decide) rfl)) hcl) ?_
 rintro e w24 ⟨u24, c24, q24, b24, rfl, hc24, hd24, hb24⟩
 have m25 := m15.callFF 21 22 rfl rfl hb24 hc24 hd24
 clear m15
 clear hb24 hc24 hd24
 refine ⟨_, rfl, ?_⟩; clear Hz Az; intro Az Hz
 refine hK _ _ ?_; clear hK K
 refine goCh Hz (.buildG rfl zc118rcm ps118rcm rfl .nil) ?_
 clear Hz Az; intro Az Hz
 refine wpList_plain rfl (fun K hK => ?_)
 refine e_call Hz Tryz.func73 rfl rfl rfl rfl (rsaveB_s _ R (compS s k et dd) p1 (compS s k et dd).bi (compS s k et dd).bt (compS s k et dd).cf (compS s k et dd).bd _ _ _ _ _ (by have := hk.rs; show s.rs.length ≤ _; omega) (m25.into [(10, 21), (11, 22), (1, 1), (2, 2), (3, 3), (4, 4), (5, 5), (6, 6), (7, 7), (8, 8)] (by decide) rfl)) ?_
 rintro e w28 ⟨p2, rfl, hm28⟩
 have mx28 := m25.back hm28 [(1, 1), (2, 2), (3, 3), (4, 4), (5, 5), (6, 6), (7, 7), (8, 8)] (by decide); clear hm28 m25
 have m28 : MemOk _ _ [(1, _), (2, _), (3, _), (4, _), (5, _), (6, _), (7, _), (8, _), (20, _)] _ := mx28.only [1, 2, 3, 4, 5, 6, 7, 8, 20]; clear mx28
 refine ⟨_, rfl, ?_⟩; clear Hz Az; intro Az Hz
 refine hK _ _ ?_; clear hK K
 refine wpList_nil ?_
 refine hK1 _ _ ?_; clear hK1; try clear K1
 replace Hz : Has 27 [(0, _), (4, _)] Az := Hz.only [0, 4]
 refine wp_seq_k (fun K3 hK3 => ?_)
 refine wp_region_lit ?_
 refine goCh Hz (.move rfl .nil) ?_
 clear Hz Az; intro Az Hz
 refine wpList_plain rfl (fun K hK => ?_)
 refine e_call Hz Tryz.func47 rfl rfl rfl rfl (rtaken_s _ R (addR (compS s k et dd) (baseR (compS s k et dd).bi (compS s k et dd).bt (compS s k et dd).cf (compS s k et dd).bd)) p2 _ (m28.into [(1, 1), (2, 2), (3, 3), (4, 4), (5, 5), (6, 6), (7, 7), (8, 8)] (by decide) rfl)) ?_
 rintro e w33 ⟨p9, o9, rfl, hm33⟩
 have mx33 := m28.back hm33 [(1, 1), (2, 2), (3, 3), (4, 4), (5, 5), (6, 6), (7, 7), (8, 8), (11, 11), (12, 12)] (by decide); clear hm33 m28
 have m33 : MemOk _ _ [(1, _), (2, _), (3, _), (4, _), (5, _), (6, _), (7, _), (8, _), (11, _), (12, _), (20, _)] _ := mx33.only [1, 2, 3, 4, 5, 6, 7, 8, 11, 12, 20]; clear mx33
 refine ⟨_, rfl, ?_⟩; clear Hz Az; intro Az Hz
 refine hK _ _ ?_; clear hK K
 refine wpList_plain rfl (fun K hK => ?_)
 refine e_storeW Hz m33 20 rfl rfl rfl rfl rfl sz46rcm ?_
 clear m33; intro w35 m35 hB35
 clear hB35
 refine hK _ _ ?_; clear hK K
 refine wpList_nil ?_
 refine hK3 _ _ ?_; clear hK3; try clear K3
 refine wp_ret ?_
 try dsimp only [Exit.then, Exit.inBlock]
 refine (retC (fn := Tryz.f34) Hz m35 (i := 20) rfl rfl rfl Tryz.underlying46 rfl sz46rcm ?_)
 exact ⟨p9, o9, rfl, m35.only [11, 12, 1, 2, 3, 4, 5, 6, 7, 8]⟩
theorem rNew_s (X : Cx) (id gr te vo bi bt : Int) (cf bd : List Int) (ls : List En) (pc pd pa : Option Addr) (cc cd ca nn : Nat) (w0 : World) (hbi : -1000000000000000 ≤ bi ∧ bi ≤ 1000000000000000) (hcf : cf.length ≤ 900) (hbd : bd.length ≤ 100000) (hn : ls.length ≤ 100000) (hok : EntsOk ls) (m0 : MemOk X w0 [(5, .dat (.slice pc cf.length cc) (.ns .i64 cf)), (6, .dat (.slice pd bd.length cd) (.ns .u8 bd)), (7, .dat (.slice pa nn ca) (.l 4 (ls.map entD)))] w0) :
   Calls Tryz.prog 11 #[.int .i64 id, .int .i64 gr, .agg #[.int .i64 te, .int .i64 vo, .int .i64 bi, .int .i64 bt, .slice pc cf.length cc, .slice pd bd.length cd, .slice pa nn ca]] w0 fun e w' => ∃ (R : Nat) (p' : RP), e = .returned (.pointer (some ⟨R, 0, none⟩)) ∧ MemOk X w0 (rfM R (newS id gr te vo bi bt cf bd ls) (nilP p')) w' := by
 refine enter (fn := Tryz.f11) Tryz.func11 rfl Tryz.ntmps11 rfl (fun Az Hz => ?_)
 simp only [List.zipIdx_cons, List.zipIdx_nil, List.map_cons, List.map_nil, Nat.reduceAdd, Nat.zero_add] at Hz
 refine wp_seq_k (fun K0 hK0 => ?_)
 refine wp_region_lit ?_
 refine wpList_plain rfl (fun K hK => ?_)
 refine e_box Hz m0 20 (cs := [_, _, _, _, _, _, _]) rfl rfl rfl ?_
 clear Hz Az m0; intro g1 Az w2 Hz m2 hB2 hg2
 clear hB2 hg2
 refine hK _ _ ?_; clear hK K
 refine goCh Hz (.assign rfl .nil) ?_
 clear Hz Az; intro Az Hz
 refine wpList_nil ?_
 refine hK0 _ _ ?_; clear hK0; try clear K0
 refine wp_seq_k (fun K1 hK1 => ?_)
 refine wp_region_lit ?_
 refine goCh Hz (.buildG rfl zc86rnw ps86rnw rfl .nil) ?_
 clear Hz Az; intro Az Hz
 refine wpList_plain rfl (fun K hK => ?_)
 refine e_box Hz m2 21 (cs := [_, _, _, _, _, _, _, _, _, _, _, _, _, _, _, _, _, _, _, _, _, _, _, _, _, _, _, _, _]) rfl rfl rfl ?_
 clear Hz Az m2; intro g6 Az w7 Hz m7 hB7 hg7
 clear hB7 hg7
 refine hK _ _ ?_; clear hK K
 refine goCh Hz (.assign rfl .nil) ?_
 clear Hz Az; intro Az Hz
 refine wpList_nil ?_
 refine hK1 _ _ ?_; clear hK1; try clear K1
 refine wp_seq_k (fun K2 hK2 => ?_)
 refine wp_region_lit ?_
 refine goCh Hz (.move rfl <| .move rfl <| .c rfl (fun _ h_ => y_max h_ rfl rfl rfl) <| .c rfl (fun _ h_ => y_min h_ rfl rfl rfl) <| .nilCheck rfl <| .fieldAddr (off := 0) rfl Tryz.underlying86 rfl (s := 4) (by kernel_rfl) rfl <| .fieldAddr (off := 0) rfl Tryz.underlying81 rfl (s := 0) (by kernel_rfl) rfl <| .nil) ?_
 clear Hz Az; intro Az Hz
 refine wpList_plain rfl (fun K hK => ?_)
 refine e_store1 Hz m7 21 rfl rfl rfl rfl rfl sz3rnw (by dsimp only [List.set] <;> rfl) ?_
 clear m7; intro w23 m23 hB23
 clear hB23
 refine hK _ _ ?_; clear hK K
 refine wpList_nil ?_
 refine hK2 _ _ ?_; clear hK2; try clear K2
 replace Hz : Has 52 [(1, _), (5, _), (6, _), (7, _)] Az := Hz.only [1, 5, 6, 7]
 refine wp_seq_k (fun K3 hK3 => ?_)
 refine wp_region_lit ?_
 refine goCh Hz (.move rfl <| .move rfl <| .c rfl (fun _ h_ => y_max h_ rfl rfl rfl) <| .c rfl (fun _ h_ => y_min h_ rfl rfl rfl) <| .nilCheck rfl <| .fieldAddr (off := 0) rfl Tryz.underlying86 rfl (s := 4) (by kernel_rfl) rfl <| .fieldAddr (off := 1) rfl Tryz.underlying81 rfl (s := 0) (by kernel_rfl) rfl <| .nil) ?_
 clear Hz Az; intro Az Hz
 refine wpList_plain rfl (fun K hK => ?_)
 refine e_store1 Hz m23 21 rfl rfl rfl rfl rfl sz3rnw (by dsimp only [List.set] <;> rfl) ?_
 clear m23; intro w39 m39 hB39
 clear hB39
 refine hK _ _ ?_; clear hK K
 refine wpList_nil ?_
 refine hK3 _ _ ?_; clear hK3; try clear K3
 replace Hz : Has 52 [(5, _), (6, _), (7, _)] Az := Hz.only [5, 6, 7]
 refine wp_seq_k (fun K4 hK4 => ?_)
 refine wp_region_lit ?_
 refine goCh Hz (.move rfl <| .fieldAddr (off := 0) rfl Tryz.underlying32 rfl (s := 1) (by kernel_rfl) rfl <| .loadBR m39 (i := 20) rfl rfl Tryz.underlying25 rfl sz25rnw (by simp) (by dsimp only [List.drop, List.take] <;> rfl) <| .nilCheck rfl <| .fieldAddr (off := 0) rfl Tryz.underlying86 rfl (s := 4) (by kernel_rfl) rfl <| .fieldAddr (off := 2) rfl Tryz.underlying81 rfl (s := 1) (by kernel_rfl) rfl <| .nil) ?_
 clear Hz Az; intro Az Hz
 refine wpList_plain rfl (fun K hK => ?_)
 refine e_storeR Hz m39 21 rfl rfl rfl rfl rfl sz25rnw (by dsimp only [List.take, List.drop, List.append_eq, List.append] <;> rfl) ?_
 clear m39; intro w53 m53 hB53
 clear hB53
 refine hK _ _ ?_; clear hK K
 refine wpList_nil ?_
 refine hK4 _ _ ?_; clear hK4; try clear K4
 replace Hz : Has 52 [(5, _), (6, _), (7, _)] Az := Hz.only [5, 6, 7]
 refine wp_seq_k (fun K5 hK5 => ?_)
 refine wp_region_lit ?_
 refine goCh Hz (.move rfl <| .fieldAddr (off := 2) rfl Tryz.underlying32 rfl (s := 3) (by kernel_rfl) rfl <| .loadBR m53 (i := 20) rfl rfl Tryz.underlying29 rfl sz29rnw (by simp) (by dsimp only [List.drop, List.take] <;> rfl) <| .fieldAddr (off := 6) rfl Tryz.underlying32 rfl (s := 0) (by kernel_rfl) rfl <| .loadB1 m53 (i := 20) rfl rfl rfl Tryz.underlying30 rfl <| .nil) ?_
 clear Hz Az; intro Az Hz
 refine wpList_plain rfl (fun K hK => ?_)
 refine e_call Hz Tryz.func36 rfl rfl rfl rfl (new_is _ bi bt cf bd ls _ _ _ _ _ _ _ _ (es' := ls.take (runN bi ls)) (by omega) (by omega) (by omega) (by omega) hok rfl (m53.into [(5, 5), (6, 6), (7, 7)] (by decide) rfl)) ?_
 rintro e w65 ⟨L65, pc65, cc65, pd65, cd65, pl65, cl65, rfl, hm65⟩
 have mx65 := m53.back hm65 [(2, 1), (3, 2), (4, 3), (5, 4)] (by decide); clear hm65 m53
 have m65 : MemOk _ _ [(2, _), (3, _), (4, _), (5, _), (20, _), (21, _)] _ := mx65.only [2, 3, 4, 5, 20, 21]; clear mx65
 refine ⟨_, rfl, ?_⟩; clear Hz Az; intro Az Hz
 refine hK _ _ ?_; clear hK K
 refine goCh Hz (.nilCheck rfl <| .fieldAddr (off := 0) rfl Tryz.underlying86 rfl (s := 4) (by kernel_rfl) rfl <| .fieldAddr (off := 4) rfl Tryz.underlying81 rfl (s := 0) (by kernel_rfl) rfl <| .nil) ?_
 clear Hz Az; intro Az Hz
 refine wpList_plain rfl (fun K hK => ?_)
 refine e_store1 Hz m65 21 rfl rfl rfl rfl rfl sz79rnw (by dsimp only [List.set] <;> rfl) ?_
 clear m65; intro w70 m70 hB70
 clear hB70
 refine hK _ _ ?_; clear hK K
 refine wpList_nil ?_
 refine hK5 _ _ ?_; clear hK5; try clear K5
 refine wp_seq_k (fun K6 hK6 => ?_)
 replace Hz : Has 52 [(5, _), (6, _), (7, _)] Az := Hz.only [5, 6, 7]
 have m72 : MemOk _ _ [(2, _), (3, _), (4, _), (5, _), (20, _), (21, _)] _ := m70.only [2, 3, 4, 5, 20, 21]; clear m70
 refine region_p 14 (B := [(20, _)]) (m72.to ⟨il, trivial⟩) m72 (by kernel_rfl) (fun w73 hP73 m73 => ?_); clear m72
 refine goR hP73 [0, 1, 2, 3, 4, 5, 6, 7, 8, 9] [4, 7] 10 0 1023 Hz (m73.to ⟨il, trivial⟩) (.move rfl <| .move rfl <| .fieldAddr (off := 2) rfl Tryz.underlying32 rfl (s := 3) (by kernel_rfl) rfl <| .fieldAddr (off := 2) rfl Tryz.underlying29 rfl (s := 0) (by kernel_rfl) rfl <| .loadB1 hh (i := 20) rfl rfl rfl Tryz.underlying3 rfl <| .fieldAddr (off := 2) rfl Tryz.underlying32 rfl (s := 3) (by kernel_rfl) rfl <| .fieldAddr (off := 2) rfl Tryz.underlying29 rfl (s := 0) (by kernel_rfl) rfl <| .loadB1 hh (i := 20) rfl rfl rfl Tryz.underlying3 rfl <| .nilCheck rfl <| .fieldAddr (off := 22) rfl Tryz.underlying86 rfl (s := 0) (by kernel_rfl) rfl <| .nil) ?_
 clear Hz Az; intro Az Hz
 refine stepE_only 10 rfl (by kernel_rfl) rfl (fun K hK => ?_)
 refine e_store1 Hz m73 21 rfl rfl rfl rfl rfl sz3rnw (by dsimp only [List.set] <;> rfl) ?_
 clear m73; intro w84 m84 hB84
 clear hB84
 refine hK _ _ (m84.to ⟨il, trivial⟩) ?_; clear hK K
 refine goA hP73 [11, 12] 2 2047 8191 Hz (m84.to ⟨il, trivial⟩) (.nilCheck rfl <| .fieldAddr (off := 23) rfl Tryz.underlying86 rfl (s := 0) (by kernel_rfl) rfl <| .nil) ?_
 clear Hz Az; intro Az Hz
 refine stepE_only 13 rfl (by kernel_rfl) rfl (fun K hK => ?_)
 refine e_store1 Hz m84 21 rfl rfl rfl rfl rfl sz3rnw (by dsimp only [List.set] <;> rfl) ?_
 clear m84; intro w87 m87 hB87
 clear hB87
 refine hK _ _ (m87.to ⟨il, trivial⟩) ?_; clear hK K
 refine wpAnyE_done (by kernel_rfl) ?_ _
 refine hK6 _ _ ?_; clear hK6; try clear K6
 replace Hz : Has 52 [(6, _), (7, _)] Az := Hz.only [6, 7]
 refine regS Hz (.move rfl <| .assign rfl <| .nil) ?_
 clear Hz Az; intro Az Hz
 refine wp_ret ?_
 try dsimp only [Exit.then, Exit.inBlock]
 refine (ret1 (fn := Tryz.f11) Hz rfl rfl ?_)
 have mz := ((m87.dat 6 rfl (Rd.nilN _ _ .i64 none)).nilS 7 55 19).nilS 8 118 12
 exact ⟨_, ⟨_, _, _, _, none, none, none, _, _, _, 0, 0, 0⟩, rfl, mz.ren [(1, 21), (2, 2), (3, 3), (4, 4), (5, 5), (6, 6), (7, 7), (8, 8)] (by decide)⟩
theorem rClone_s (X : Cx) (R : Nat) (s : RS) (p : RP) (w0 : World) (hb : RLS s) (hys : s.ys.length ≤ 900) (hrun : s.es.take (runN s.bi s.es) = s.es) (m0 : MemOk X w0 (rfM R (clrS s) (nilP p)) w0) :
   Calls Tryz.prog 14 #[.pointer (some ⟨R, 0, none⟩)] w0 fun e w' => ∃ (C : Nat) (p' : RP), e = .returned (.pointer (some ⟨C, 0, none⟩)) ∧ MemOk X w0 (rfM2 C (clrS s) (nilP p') (rfM R (clrS s) (nilP p))) w' := by
 refine enter (fn := Tryz.f14) Tryz.func14 rfl Tryz.ntmps14 rfl (fun Az Hz => ?_)
 simp only [List.zipIdx_cons, List.zipIdx_nil, List.map_cons, List.map_nil, Nat.reduceAdd, Nat.zero_add] at Hz
 refine regS Hz (.assign rfl <| .nil) ?_
 clear Hz Az; intro Az Hz
 refine wp_seq_k (fun K0 hK0 => ?_)
 refine wp_region_lit ?_
 refine goCh Hz (.move rfl <| .nilCheck rfl <| .loadBR m0 (i := 1) rfl rfl Tryz.underlying86 rfl sz86rcn (by simp) (by dsimp only [List.drop, List.take] <;> rfl) <| .nil) ?_
 clear Hz Az; intro Az Hz
 refine wpList_plain rfl (fun K hK => ?_)
 refine e_alloc Hz m0 50 zc86rcn rfl ?_
 clear Hz Az m0; intro g8 Az w9 Hz m9 hB9 hg9
 clear hB9 hg9
 refine hK _ _ ?_; clear hK K
 refine wpList_plain rfl (fun K hK => ?_)
 refine e_storeW Hz m9 50 rfl rfl rfl rfl rfl sz86rcn ?_
 clear m9; intro w10 m10 hB10
 clear hB10
 refine hK _ _ ?_; clear hK K
 refine wpList_nil ?_
 refine hK0 _ _ ?_; clear hK0; try clear K0
 refine wp_seq_k (fun K1 hK1 => ?_)
 refine wp_region_lit ?_
 refine goCh Hz (.move rfl <| .nilCheck rfl <| .fieldAddr (off := 0) rfl Tryz.underlying86 rfl (s := 4) (by kernel_rfl) rfl <| .fieldAddr (off := 4) rfl Tryz.underlying81 rfl (s := 0) (by kernel_rfl) rfl <| .loadB1 m10 (i := 1) rfl rfl rfl Tryz.underlying79 rfl <| .nil) ?_
 clear Hz Az; intro Az Hz
 refine wpList_plain rfl (fun K hK => ?_)
 refine e_call Hz Tryz.func39 rfl rfl rfl rfl (rbase_s R (clrS s) (nilP p) _ (rfM_is (clrS s) (nilP p) (m10.into [(1, 1), (2, 2), (3, 3), (4, 4), (5, 5), (6, 6), (7, 7), (8, 8)] (by decide) rfl)) hb) ?_
 rintro e w21 ⟨u21, c21, q21, b21, rfl, hc21, hd21, hb21⟩
 have m22 := m10.callFF 51 52 rfl rfl hb21 hc21 hd21
 clear m10
 clear hb21 hc21 hd21
 refine ⟨_, rfl, ?_⟩; clear Hz Az; intro Az Hz
 refine hK _ _ ?_; clear hK K
 refine wpList_plain rfl (fun K hK => ?_)
 refine e_alloc Hz m22 53 zc29rcn rfl ?_
 clear Hz Az m22; intro g24 Az w25 Hz m25 hB25 hg25
 clear hB25 hg25
 refine hK _ _ ?_; clear hK K
 refine wpList_plain rfl (fun K hK => ?_)
 refine e_storeW Hz m25 53 rfl rfl rfl rfl rfl sz29rcn ?_
 clear m25; intro w26 m26 hB26
 clear hB26
 refine hK _ _ ?_; clear hK K
 refine wpList_nil ?_
 refine hK1 _ _ ?_; clear hK1; try clear K1
 refine wp_seq_k (fun K2 hK2 => ?_)
 replace Hz : Has 30 [(0, _), (2, _), (3, _), (4, _)] Az := Hz.only [0, 2, 3, 4]
 have m28 : MemOk _ _ [(1, _), (2, _), (3, _), (4, _), (5, _), (6, _), (7, _), (8, _), (50, _), (51, _), (52, _), (53, _)] _ := m26.only [1, 2, 3, 4, 5, 6, 7, 8, 50, 51, 52, 53]; clear m26
 refine region_p 7 (B := [(1, _), (2, _), (3, _), (4, _), (5, _), (6, _), (7, _), (8, _), (50, _), (51, _), (52, _), (53, _)]) (m28.to ⟨il, il, il, il, il, il, il, il, il, il, il, il, trivial⟩) m28 (by kernel_rfl) (fun w29 hP29 m29 => ?_); clear m28
 refine goR hP29 [0, 1, 2, 3, 4, 5] [0, 5] 6 0 63 Hz (m29.to ⟨il, il, il, il, il, il, il, il, il, il, il, il, trivial⟩) (.loadBR hh (i := 53) rfl rfl Tryz.underlying29 rfl sz29rcn (by simp) (by dsimp only [List.drop, List.take] <;> rfl) <| .move rfl <| .nilCheck rfl <| .fieldAddr (off := 0) rfl Tryz.underlying86 rfl (s := 4) (by kernel_rfl) rfl <| .fieldAddr (off := 0) rfl Tryz.underlying29 rfl (s := 0) (by kernel_rfl) rfl <| .loadB1 hh (i := 53) rfl rfl rfl Tryz.underlying3 rfl <| .nil) ?_
 clear Hz Az; intro Az Hz
 refine stepE_only 6 rfl (by kernel_rfl) rfl (fun K hK => ?_)
 refine e_call Hz Tryz.func40 rfl rfl rfl rfl (rbehind_s R (clrS s) (nilP p) _ (rfM_is (clrS s) (nilP p) (m29.into [(1, 1), (2, 2), (3, 3), (4, 4), (5, 5), (6, 6), (7, 7), (8, 8)] (by decide) rfl)) hb s.bi (by have := hb.b; omega)) ?_
 rintro e w36 ⟨p36, c36, rfl, hd36, hb36⟩
 have m37 := m29.callF 54 rfl hb36 hd36
 clear m29
 clear hb36 hd36
 refine ⟨_, rfl, ?_⟩; clear Hz Az; intro Az Hz
 refine hK _ _ (m37.to ⟨il, il, il, il, il, il, il, il, il, il, il, il, trivial⟩) ?_; clear hK K
 rw [fromL_all s hb] at m37 Hz
 refine stepE_end 7 rfl (by kernel_rfl) rfl (by rfl) (fun K hK => ?_)
 refine e_call Hz Tryz.func36 rfl rfl rfl rfl (new_is _ s.bi s.bt s.cf s.bd s.es _ _ _ _ _ _ _ _ (es' := s.es) (by have := hb.b; omega) (by have := hb.c; omega) (by have := hb.d; omega) (by have := hb.n; omega) hb.ents hrun (m37.into [(5, 51), (6, 52), (7, 54)] (by decide) rfl)) ?_
 rintro e w39 ⟨L39, pc39, cc39, pd39, cd39, pl39, cl39, rfl, hm39⟩
 have mx39 := m37.back hm39 [(22, 1), (23, 2), (24, 3), (25, 4)] (by decide); clear hm39 m37
 have m39 : MemOk _ _ [(22, _), (23, _), (24, _), (25, _), (1, _), (2, _), (3, _), (4, _), (5, _), (6, _), (7, _), (8, _), (50, _), (53, _)] _ := mx39.only [22, 23, 24, 25, 1, 2, 3, 4, 5, 6, 7, 8, 50, 53]; clear mx39
 refine ⟨_, rfl, ?_⟩; clear Hz Az; intro Az Hz
 refine hK _ _ ?_; clear hK K
 refine goB hP29 [8, 9] 2 255 1023 Hz (.fieldAddr (off := 0) rfl Tryz.underlying86 rfl (s := 4) (by kernel_rfl) rfl <| .fieldAddr (off := 4) rfl Tryz.underlying81 rfl (s := 0) (by kernel_rfl) rfl <| .nil) ?_
 clear Hz Az; intro Az Hz
 refine stepE_end 10 rfl (by kernel_rfl) rfl (by rfl) (fun K hK => ?_)
 refine e_store1 Hz m39 50 rfl rfl rfl rfl rfl sz79rcn (by dsimp only [List.set] <;> rfl) ?_
 clear m39; intro w43 m43 hB43
 clear hB43
 refine hK _ _ ?_; clear hK K
 refine wpAnyE_done (by kernel_rfl) ?_ _
 refine hK2 _ _ ?_; clear hK2; try clear K2
 replace Hz : Has 30 [(0, _), (2, _), (3, _)] Az := Hz.only [0, 2, 3]
 refine wp_seq_k (fun K3 hK3 => ?_)
 refine wp_region_lit ?_
 refine goCh Hz (.move rfl <| .nilCheck rfl <| .fieldAddr (off := 25) rfl Tryz.underlying86 rfl (s := 0) (by kernel_rfl) rfl <| .loadB1 m43 (i := 1) rfl rfl rfl Tryz.underlying26 rfl <| .nil) ?_
 clear Hz Az; intro Az Hz
 refine wpList_plain rfl (fun K hK => ?_)
 refine e_call Hz Tryz.func41 rfl rfl rfl rfl (plainI_any s.ys _ _ _ ((m43.rd (i := 6) rfl).any) (by omega)) ?_
 rintro e w53 ⟨p53, c53, rfl, hd53, hb53⟩
 have m54 := m43.callF 55 rfl hb53 hd53
 clear m43
 clear hb53 hd53
 refine ⟨_, rfl, ?_⟩; clear Hz Az; intro Az Hz
 refine hK _ _ ?_; clear hK K
 refine goCh Hz (.fieldAddr (off := 25) rfl Tryz.underlying86 rfl (s := 0) (by kernel_rfl) rfl .nil) ?_
 clear Hz Az; intro Az Hz
 refine wpList_plain rfl (fun K hK => ?_)
 refine e_store1 Hz m54 50 rfl rfl rfl rfl rfl sz26rcn (by dsimp only [List.set] <;> rfl) ?_
 clear m54; intro w57 m57 hB57
 clear hB57
 refine hK _ _ ?_; clear hK K
 refine wpList_nil ?_
 refine hK3 _ _ ?_; clear hK3; try clear K3
 replace Hz : Has 30 [(2, _), (3, _)] Az := Hz.only [2, 3]
 refine regS Hz (.assign rfl <| .nil) ?_
 clear Hz Az; intro Az Hz
 refine wp_ret ?_
 try dsimp only [Exit.then, Exit.inBlock]
 refine (ret1 (fn := Tryz.f14) Hz rfl rfl ?_)
 have mz := (m57.nilS 27 55 19).nilS 28 118 12
 exact ⟨_, ⟨_, _, _, _, _, none, none, _, _, _, _, 0, 0⟩, rfl, mz.ren [(21, 50), (22, 22), (23, 23), (24, 24), (25, 25), (26, 55), (27, 27), (28, 28), (1, 1), (2, 2), (3, 3), (4, 4), (5, 5), (6, 6), (7, 7), (8, 8)] (by decide)⟩
end
section
section
variable {P : Program} {n : Nat} {T : List (Nat × Value)} {a : Act} {w : World} {d : Option Tmp} {tt : TypeId} {pos : String} {af : Array Edge} {gd : Option (Nat × Bool)}
theorem y_makeFuncB (h : Has n T a) {f : FuncId} {firsts caps : Array Operand} {us vs : List Value} (hf : evA T firsts.toList = some us) (hargs : evA T caps.toList = some vs) : Yl P a w ⟨d, .makeFunc (.func f) firsts caps, tt, pos, af, gd⟩ (.func (.func f) us.toArray vs.toArray) := by
 have hv : caps.map a.eval = vs.toArray := by
   apply Array.ext'; rw [Array.toList_map, h.evA hargs]
 have hu : firsts.map a.eval = us.toArray := by
   apply Array.ext'; rw [Array.toList_map, h.evA hf]
 show (execOp _ _).run P w = _
 simp [execOp, Instr.makeFunc, hv, hu]
theorem run_eqF {t : TypeId} {ps rs : Array TypeId} {v : Bool} (hu : P.underlying t = some (.func ps rs v)) (f : Fn) (x y : Array Value) (w : World) : (Op.equal t (.func f x y) .nilFunc).run P w = .ok false w := by
 show (Op.equalIn (9999 + 1) t (.func f x y) .nilFunc).run P w = _
 generalize 9999 = m
 simp [Op.equalIn, run_underlying hu]
theorem y_neqF (h : Has n T a) {x y : Operand} {t t2 : TypeId} {ps rs : Array TypeId} {v : Bool} {f : Fn} {us vs : Array Value} (hx : evT T x = some (.func f us vs)) (hy : evT T y = some .nilFunc) (hu : P.underlying t = some (.func ps rs v)) : Yl P a w ⟨d, .binOp .neq t x y t2, tt, pos, af, gd⟩ (.bool true) := by
 show (execOp _ _).run P w = _
 simp [execOp, eqGuard, binOp, h.ev hx, h.ev hy, run_eqF hu]
theorem y_fieldS (h : Has n T a) {t : TypeId} {x : Operand} {i : Nat} {cs : Array Value} {fs : Array Field} {f : Field} {td : TypeDesc} {s : Nat} {c2 : List Value} (hx : evT T x = some (.agg cs)) (hu : P.underlying t = some (.struct fs)) (hf : fs[i]? = some f) (hd : P.underlying f.type = some td) (hr : td.isRow = true) (hs : (P.info? f.type).map (·.size) = some s) (hv : (cs.toList.drop f.offset).take s = c2) : Yl P a w ⟨d, .field t x i, tt, pos, af, gd⟩ (.agg c2.toArray) := by
 show (execOp _ _).run P w = _
 have e : cs.extract f.offset (f.offset + s) = c2.toArray := by
   apply Array.ext'
   rw [← hv]; simp
 cases hq : P.info? f.type with
 | none => simp [hq] at hs
 | some j =>
   have hj : j.size = s := by simpa [hq] using hs
   simp [execOp, h.ev hx, Instr.field, run_underlying hu, hf, asAgg, part, run_isAgg hd, hr, sizeOf, typeInfo, hq, hj, e]
end
section
variable {P : Program} {n : Nat} {T : List (Nat × Value)} {a : Act} {w : World} {Q : Exit → Act → World → Prop} {K : Act → World → Prop} {tt : TypeId} {pos : String} {af : Array Edge} {gd : Option (Nat × Bool)}
theorem e_callG (ha : Has n T a) {d : Tmp} {f : FuncId} {x : Operand} {args : Array Operand} {ats : Array TypeId} {fn : Func} {us vs cs : List Value} (hxf : evT T x = some (.func (.func f) us.toArray cs.toArray)) (hf : P.funcs[f]? = some fn) (hn : (fn.name == "runtime.NumGoroutine") = false) (hb : fn.body.isNone = false) (hargs : evA T args.toList = some vs) (ht : Nat.blt d n = true) {R : Ending → World → Prop} (hc : Calls P f (us ++ vs ++ cs).toArray w R) (h : ∀ e w', R e w' → ∃ v, e = .returned v ∧ ∀ a', Has n ((d, v) :: T) a' → K a' w') : Oper.wp P ⟨some d, .call { callee := .value x, args := args, argTypes := ats }, tt, pos, af, gd⟩ a w K Q := by
 have hv : args.map a.eval = vs.toArray := by
   apply Array.ext'; rw [Array.toList_map, ha.evA hargs]
 have hr : (execOp a.eval ⟨some d, .call { callee := .value x, args := args, argTypes := ats }, tt, pos, af, gd⟩).run P w = .ok (.enter f (us ++ vs ++ cs).toArray) w := by
   have hn' : ¬ fn.name = "runtime.NumGoroutine" := by simpa using hn
   have hb' : ¬ fn.body = none := by cases h9 : fn.body with | none => rw [h9] at hb; cases hb | some c => simp
   simp [execOp, resolve, ha.ev hxf, Deferred.ofValue, invoke, callFunc, hf, hn', hb', hv]
 show Oper.upon P _ a K Q _
 rw [hr]
 show Calls P f (us ++ vs ++ cs).toArray w _
 refine hc.mono (fun e w' hR => ?_)
 obtain ⟨v, rfl, hh⟩ := h e w' hR
 exact hh _ (ha.put ht v)
end
end
section
theorem sz26rov : (Tryz.prog.info? 26).map (·.size) = some 1 := by kernel_rfl

abbrev mS (k gm f t te ix lt co : Int) (ok : Bool) : RM := ⟨k, gm, f, t, te, ix, lt, co, ok, [], 0, 0, [], [], [], 0, 0, 0, 0⟩
def withY (ys : List Int) (f : Int) : List Int := canon (canon ys ++ [f])
theorem withY_len (ys : List Int) (f : Int) : (withY ys f).length ≤ 7 := canon_len _
theorem ROk.yes {s : RS} (h : ROk s) (f : Int) : ROk { s with ys := withY s.ys f } := ⟨h.l, h.n, h.co, h.ld, h.ms, h.rs, h.te, h.id, h.si, h.be, Nat.le_trans (withY_len _ _) (by decide)⟩
def preOkS (s : RS) (f te : Int) : RS :=
 if s.x.ro = 1 ∧ te = s.x.te + 1 then (if favS { s with ys := withY s.ys f } then standS { s with ys := withY s.ys f } else { s with ys := withY s.ys f }) else s
def voteOkS (s : RS) (f : Int) (ok : Bool) : RS :=
 if ok = true ∧ s.x.ro = 2 then (if favS { s with ys := withY s.ys f } then winS { s with ys := withY s.ys f } else { s with ys := withY s.ys f }) else s
theorem voteOk_no (s : RS) (f : Int) (ok : Bool) (h : ok = false ∨ ¬ s.x.ro = 2) : voteOkS s f ok = s := by unfold voteOkS; exact if_neg fun h9 => h.elim (fun h => by rw [h] at h9; exact absurd h9.1 (by decide)) (fun h => h h9.2)
theorem voteOk_yes (s : RS) (f : Int) (ok : Bool) (h : ok = true) (h2 : s.x.ro = 2) (h3 : favS { s with ys := withY s.ys f } = true) : voteOkS s f ok = winS { s with ys := withY s.ys f } := by unfold voteOkS; rw [if_pos ⟨h, h2⟩, if_pos h3]
theorem voteOk_wait (s : RS) (f : Int) (ok : Bool) (h : ok = true) (h2 : s.x.ro = 2) (h3 : favS { s with ys := withY s.ys f } = false) : voteOkS s f ok = { s with ys := withY s.ys f } := by unfold voteOkS; rw [if_pos ⟨h, h2⟩, if_neg (by rw [h3]; decide)]
abbrev replyS (s : RS) (f kd : Int) (ok : Bool) (ix : Int) : RS := addM s [toM s f (replyR s.x kd ok ix)]
abbrev instS (s : RS) (f bi bt : Int) (cf bd : List Int) : RS := { s with x := { s.x with ro := 0, le := f, si := 0, ap := bi, co := bi }, bi := bi, bt := bt, cf := cf, bd := bd, es := [], rs := s.rs ++ [{ baseR bi bt cf bd with g := s.x.gr }], re := true }
set_option maxRecDepth 100000
set_option maxHeartbeats 4000000
theorem rreply_s (X : Cx) (R : Nat) (s : RS) (p : RP) (r : RM) (kd : Int) (ok : Bool) (ix : Int) (pe pc pd pf : Option Addr) (ne nc nd nf ce cc cd cf : Nat) (w0 : World) (hQ : s.ms.length ≤ 1000000) (m0 : MemOk X w0 (rfM R s p) w0) :
   Calls Tryz.prog 139 #[.pointer (some ⟨R, 0, none⟩), .agg #[.int .i64 r.k, .int .i64 r.g, .int .i64 r.f, .int .i64 r.t, .int .i64 r.te, .int .i64 r.ix, .int .i64 r.lt, .int .i64 r.co, .bool r.ok, .slice pe ne ce, .int .i64 r.bi, .int .i64 r.bt, .slice pc nc cc, .slice pd nd cd, .slice pf nf cf, .int .i64 r.vo, .int .i64 r.ch, .int .i64 r.ma, .int .i64 r.fl], .int .i64 kd, .bool ok, .int .i64 ix] w0 fun e w' => ∃ p', e = .returned (.tuple #[]) ∧ MemOk X w0 (rfM R (replyS s r.f kd ok ix) p') w' := by
 refine (rreply_x _ R p.L s.x _ _ s.re s.ms r kd ok ix pe pc pd pf p.pm ne nc nd nf ce cc cd cf p.cm w0 hQ (m0.into [(1, 1), (7, 7)] (by decide) rfl)).mono ?_
 rintro e w' ⟨q, c, rfl, hm⟩
 have mb := m0.back hm [(1, 1), (7, 7)] (by decide)
 exact ⟨{ p with pm := q, cm := c }, rfl, mb.only [1, 2, 3, 4, 5, 6, 7, 8]⟩
theorem ronVoteOk_s (X : Cx) (R : Nat) (s : RS) (p : RP) (k gm f t te ix lt co : Int) (ok : Bool) (w0 : World) (hk : ROk s) (m0 : MemOk X w0 (rfM R s p) w0) :
   Calls Tryz.prog 100 #[.pointer (some ⟨R, 0, none⟩), .agg #[.int .i64 k, .int .i64 gm, .int .i64 f, .int .i64 t, .int .i64 te, .int .i64 ix, .int .i64 lt, .int .i64 co, .bool ok, .slice none 0 0, .int .i64 0, .int .i64 0, .slice none 0 0, .slice none 0 0, .slice none 0 0, .int .i64 0, .int .i64 0, .int .i64 0, .int .i64 0]] w0 fun e w' => ∃ p', e = .returned (.tuple #[]) ∧ MemOk X w0 (rfM R (voteOkS s f ok) p') w' := by
 refine enter (fn := Tryz.f100) Tryz.func100 rfl Tryz.ntmps100 rfl (fun Az Hz => ?_)
 simp only [List.zipIdx_cons, List.zipIdx_nil, List.map_cons, List.map_nil, Nat.reduceAdd, Nat.zero_add] at Hz
 have hys : s.ys.length ≤ 900 := Nat.le_trans hk.ys (by decide)
 refine wp_seq_k (fun K0 hK0 => ?_)
 refine wp_region_lit ?_
 refine wpList_plain rfl (fun K hK => ?_)
 refine e_box Hz m0 50 (cs := [_, _, _, _, _, _, _, _, _, _, _, _, _, _, _, _, _, _, _]) rfl rfl rfl ?_
 clear Hz Az m0; intro g1 Az w2 Hz m2 hB2 hg2
 clear hB2 hg2
 refine hK _ _ ?_; clear hK K
 refine wpList_nil ?_
 refine hK0 _ _ ?_; clear hK0; try clear K0
 refine wp_seq_k (fun K1 hK1 => ?_)
 refine wp_seq_k (fun K2 hK2 => ?_)
 refine wp_region_lit ?_
 refine goCh Hz (.fieldAddr (off := 8) rfl Tryz.underlying55 rfl (s := 0) (by kernel_rfl) rfl <| .loadB1 m2 (i := 50) rfl rfl rfl Tryz.underlying4 rfl <| .not rfl <| .move rfl <| .nil) ?_
 clear Hz Az; intro Az Hz
 refine bool_cases Hz (t := 7) rfl ?_ ?_
 ·
  clear Hz; intro hb11 Hz
  try simp only [Q1x, Q2x, Q3x, Q4x, Q5x, Q6x, Q7x, Q8x, Q9x, Q0x, Qax, Qbx] at hb11
  refine goCh Hz (.sk <| .sk <| .sk <| .sk <| .sk <| .pickT rfl rfl <| .nil) ?_
  clear Hz Az; intro Az Hz
  refine wpList_nil ?_
  refine hK2 _ _ ?_; clear hK2; try clear K2
  refine wp_cond_true (Hz.ev (x := .tmp 13) rfl) ?_
  refine wp_ret ?_
  try dsimp only [Exit.then, Exit.inBlock]
  refine (ret0r (fn := Tryz.f100) Hz rfl ?_)
  rw [voteOk_no s f ok (.inl hb11)]
  exact ⟨p, rfl, m2.only [1, 2, 3, 4, 5, 6, 7, 8]⟩
 ·
  clear Hz; intro hb11 Hz
  try simp only [Q1x, Q2x, Q3x, Q4x, Q5x, Q6x, Q7x, Q8x, Q9x, Q0x, Qax, Qbx] at hb11
  refine goCh Hz (.moveZ rfl <| .nilCheckZ rfl <| .fieldAddrZ (off := 20) rfl Tryz.underlying86 rfl (s := 0) (by kernel_rfl) rfl <| .loadB1Z m2 (i := 1) rfl rfl rfl Tryz.underlying3 rfl <| .neqZ rfl rfl <| .pickF rfl rfl <| .nil) ?_
  clear Hz Az; intro Az Hz
  refine wpList_nil ?_
  refine hK2 _ _ ?_; clear hK2; try clear K2
  refine bool_cases Hz (t := 13) rfl ?_ ?_
  ·
   clear Hz; intro hb24 Hz
   try simp only [Q1x, Q2x, Q3x, Q4x, Q5x, Q6x, Q7x, Q8x, Q9x, Q0x, Qax, Qbx] at hb24
   refine wp_cond_true (Hz.ev (x := .tmp 13) rfl) ?_
   refine wp_ret ?_
   try dsimp only [Exit.then, Exit.inBlock]
   refine (ret0r (fn := Tryz.f100) Hz rfl ?_)
   rw [voteOk_no s f ok (.inr hb24)]
   exact ⟨p, rfl, m2.only [1, 2, 3, 4, 5, 6, 7, 8]⟩
  ·
   clear Hz; intro hb24 Hz
   try simp only [Q1x, Q2x, Q3x, Q4x, Q5x, Q6x, Q7x, Q8x, Q9x, Q0x, Qax, Qbx] at hb24
   refine wp_cond_false (Hz.ev (x := .tmp 13) rfl) ?_
   refine wp_skip ?_
   refine hK1 _ _ ?_; clear hK1; try clear K1
   refine wp_seq_k (fun K3 hK3 => ?_)
   replace Hz : Has 28 [(0, _), (3, _), (7, _), (13, _)] Az := Hz.only [0, 3, 7, 13]
   have m26 : MemOk _ _ [(1, _), (2, _), (3, _), (4, _), (5, _), (6, _), (7, _), (8, _), (50, _)] _ := m2.only [1, 2, 3, 4, 5, 6, 7, 8, 50]; clear m2
   refine region_p 7 (B := [(1, _), (2, _), (3, _), (4, _), (5, _), (6, _), (7, _), (8, _), (50, _)]) (m26.to ⟨il, il, il, il, il, il, il, il, il, trivial⟩) m26 (by kernel_rfl) (fun w27 hP27 m27 => ?_); clear m26
   refine goR hP27 [0, 1, 2, 3, 4, 5, 6] [4, 6] 7 0 127 Hz (m27.to ⟨il, il, il, il, il, il, il, il, il, trivial⟩) (.move rfl <| .move rfl <| .nilCheck rfl <| .fieldAddr (off := 25) rfl Tryz.underlying86 rfl (s := 0) (by kernel_rfl) rfl <| .loadB1 hh (i := 1) rfl rfl rfl Tryz.underlying26 rfl <| .fieldAddr (off := 2) rfl Tryz.underlying55 rfl (s := 0) (by kernel_rfl) rfl <| .loadB1 hh (i := 50) rfl rfl rfl Tryz.underlying3 rfl <| .nil) ?_
   clear Hz Az; intro Az Hz
   refine stepE_end 7 rfl (by kernel_rfl) rfl (by rfl) (fun K hK => ?_)
   refine e_call Hz Tryz.func141 rfl rfl rfl rfl (withc_any _ s.ys f _ (m27.nums (i := 6) rfl) hys) ?_
   rintro e w35 ⟨u35, rfl, ho35, hb35⟩
   obtain ⟨py9, cy9, hu35⟩ := ownsRow_shape ho35
   subst hu35
   have m36 := m27.newN 51 hb35 ho35
   clear m27
   clear hb35 ho35
   refine ⟨_, rfl, ?_⟩; clear Hz Az; intro Az Hz
   refine hK _ _ ?_; clear hK K
   refine goB hP27 [8, 9] 2 255 1023 Hz (.nilCheck rfl <| .fieldAddr (off := 25) rfl Tryz.underlying86 rfl (s := 0) (by kernel_rfl) rfl <| .nil) ?_
   clear Hz Az; intro Az Hz
   refine stepE_end 10 rfl (by kernel_rfl) rfl (by rfl) (fun K hK => ?_)
   refine e_store1 Hz m36 1 rfl rfl rfl rfl rfl sz26rov (by dsimp only [List.set] <;> rfl) ?_
   clear m36; intro w40 m40 hB40
   clear hB40
   refine hK _ _ ?_; clear hK K
   refine wpAnyE_done (by kernel_rfl) ?_ _
   refine hK3 _ _ ?_; clear hK3; try clear K3
   replace Hz : Has 28 [(0, _), (7, _), (13, _)] Az := Hz.only [0, 7, 13]
   refine wp_seq_k (fun K4 hK4 => ?_)
   refine wp_region_lit ?_
   refine goCh Hz (.move rfl .nil) ?_
   clear Hz Az; intro Az Hz
   have m44 := m40.freezeN 51 rfl; clear m40
   have m45 := m44.ren [(1, 1), (2, 2), (3, 3), (4, 4), (5, 5), (7, 7), (8, 8), (50, 50), (6, 51)] (by decide); clear m44
   refine wpList_plain rfl (fun K hK => ?_)
   refine e_call Hz Tryz.func90 rfl rfl rfl rfl (rfav_s R { s with ys := withY s.ys f } { p with py := py9, cy := cy9 } _ (rfM_is { s with ys := withY s.ys f } { p with py := py9, cy := cy9 } (m45.into [(1, 1), (2, 2), (3, 3), (4, 4), (5, 5), (6, 6), (7, 7), (8, 8)] (by decide) rfl)) hk.l (Nat.le_trans (canon_len _) (by decide))) ?_
   rintro e w46 ⟨rfl, hb46⟩
   have m47 := m45.later hb46
   clear m45
   clear hb46
   refine ⟨_, rfl, ?_⟩; clear Hz Az; intro Az Hz
   refine hK _ _ ?_; clear hK K
   refine wpList_nil ?_
   refine hK4 _ _ ?_; clear hK4; try clear K4
   refine bool_cases Hz (t := 25) rfl ?_ ?_
   ·
    clear Hz; intro hb49 Hz
    try simp only [Q1x, Q2x, Q3x, Q4x, Q5x, Q6x, Q7x, Q8x, Q9x, Q0x, Qax, Qbx] at hb49
    refine wp_cond_true (Hz.ev (x := .tmp 25) rfl) ?_
    refine wp_region_lit ?_
    refine goCh Hz (.move rfl .nil) ?_
    clear Hz Az; intro Az Hz
    refine wpList_plain rfl (fun K hK => ?_)
    refine e_call Hz Tryz.func136 rfl rfl rfl rfl (rwin_s _ R { s with ys := withY s.ys f } { p with py := py9, cy := cy9 } _ hk.l (Nat.lt_of_lt_of_le hk.n (by decide)) (by have := hk.rs; show s.rs.length ≤ _; omega) hk.co hk.ld (by have := hk.ms; show s.ms.length ≤ _; omega) (m47.into [(1, 1), (2, 2), (3, 3), (4, 4), (5, 5), (6, 6), (7, 7), (8, 8)] (by decide) rfl)) ?_
    rintro e w51 ⟨p2, rfl, hm51⟩
    have mx51 := m47.back hm51 [(1, 1), (2, 2), (3, 3), (4, 4), (5, 5), (6, 6), (7, 7), (8, 8)] (by decide); clear hm51 m47
    have m51 : MemOk _ _ [(1, _), (2, _), (3, _), (4, _), (5, _), (6, _), (7, _), (8, _), (50, _)] _ := mx51.only [1, 2, 3, 4, 5, 6, 7, 8, 50]; clear mx51
    refine ⟨_, rfl, ?_⟩; clear Hz Az; intro Az Hz
    refine hK _ _ ?_; clear hK K
    refine wpList_nil ?_
    try dsimp only [Exit.then]
    try refine out_here ?_
    refine (ret0 (fn := Tryz.f100) Hz rfl ?_)
    rw [voteOk_yes s f ok hb11 hb24 hb49]
    exact ⟨p2, rfl, m51.only [1, 2, 3, 4, 5, 6, 7, 8]⟩
   ·
    clear Hz; intro hb49 Hz
    try simp only [Q1x, Q2x, Q3x, Q4x, Q5x, Q6x, Q7x, Q8x, Q9x, Q0x, Qax, Qbx] at hb49
    refine wp_cond_false (Hz.ev (x := .tmp 25) rfl) ?_
    refine wp_skip ?_
    try dsimp only [Exit.then]
    try refine out_here ?_
    refine (ret0 (fn := Tryz.f100) Hz rfl ?_)
    rw [voteOk_wait s f ok hb11 hb24 hb49]
    exact ⟨{ p with py := py9, cy := cy9 }, rfl, m47.only [1, 2, 3, 4, 5, 6, 7, 8]⟩
theorem rnewer_s (R : Nat) (s : RS) (p : RP) (w0 : World) (h : RIs w0 R s p) (hb : RLS s) (k gm f t te ix lt co : Int) (ok : Bool) :
   Calls Tryz.prog 138 #[.pointer (some ⟨R, 0, none⟩), .agg #[.int .i64 k, .int .i64 gm, .int .i64 f, .int .i64 t, .int .i64 te, .int .i64 ix, .int .i64 lt, .int .i64 co, .bool ok, .slice none 0 0, .int .i64 0, .int .i64 0, .slice none 0 0, .slice none 0 0, .slice none 0 0, .int .i64 0, .int .i64 0, .int .i64 0, .int .i64 0]] w0 fun e w' => e = .returned (.bool (newer lt ix (termS s (lastS s)) (lastS s))) ∧ Below w0.heap.size w0 w' := by
 refine enter (fn := Tryz.f138) Tryz.func138 rfl Tryz.ntmps138 rfl (fun Az Hz => ?_)
 simp only [List.zipIdx_cons, List.zipIdx_nil, List.map_cons, List.map_nil, Nat.reduceAdd, Nat.zero_add] at Hz
 have m0 := MemOk.start (fun _ => False) w0
 have hR := h.r
 have hY := h.y
 have hB := h.b
 refine wp_seq_k (fun K0 hK0 => ?_)
 refine wp_region_lit ?_
 refine wpList_plain rfl (fun K hK => ?_)
 refine e_box Hz m0 50 (cs := [_, _, _, _, _, _, _, _, _, _, _, _, _, _, _, _, _, _, _]) rfl rfl rfl ?_
 clear Hz Az m0; intro g1 Az w2 Hz m2 hB2 hg2
 clear hB2 hg2
 refine hK _ _ ?_; clear hK K
 refine goCh Hz (.assign rfl .nil) ?_
 clear Hz Az; intro Az Hz
 refine wpList_nil ?_
 refine hK0 _ _ ?_; clear hK0; try clear K0
 refine wp_seq_k (fun K1 hK1 => ?_)
 refine wp_region_lit ?_
 refine goCh Hz (.move rfl <| .nilCheck rfl <| .fieldAddr (off := 0) rfl Tryz.underlying86 rfl (s := 4) (by kernel_rfl) rfl <| .fieldAddr (off := 4) rfl Tryz.underlying81 rfl (s := 0) (by kernel_rfl) rfl <| .loadX1 (hR.now m2 rfl) rfl rfl Tryz.underlying79 rfl <| .nilCheck rfl <| .fieldAddr (off := 0) rfl Tryz.underlying123 rfl (s := 4) (by kernel_rfl) rfl <| .nil) ?_
 clear Hz Az; intro Az Hz
 refine wpList_plain rfl (fun K hK => ?_)
 refine e_call Hz Tryz.func75 rfl rfl rfl rfl (rlast_s R s p _ (h.now m2) hb) ?_
 rintro e w18 ⟨rfl, hb18⟩
 have m19 := m2.later hb18
 clear m2
 clear hb18
 refine ⟨_, rfl, ?_⟩; clear Hz Az; intro Az Hz
 refine hK _ _ ?_; clear hK K
 refine goCh Hz (.assign rfl .nil) ?_
 clear Hz Az; intro Az Hz
 refine wpList_nil ?_
 refine hK1 _ _ ?_; clear hK1; try clear K1
 refine wp_seq_k (fun K2 hK2 => ?_)
 replace Hz : Has 27 [(0, _), (3, _), (4, _), (5, _)] Az := Hz.only [0, 3, 4, 5]
 have m23 : MemOk _ _ [(50, _)] _ := m19.only [50]; clear m19
 refine region_p 14 (B := [(50, _)]) (m23.to ⟨il, trivial⟩) m23 (by kernel_rfl) (fun w24 hP24 m24 => ?_); clear m23
 refine goR hP24 [0, 1, 2, 3, 4, 5, 6, 7, 8, 9, 11] [1, 3, 8] 11 0 3071 Hz (m24.to ⟨il, trivial⟩) (.fieldAddr (off := 6) rfl Tryz.underlying55 rfl (s := 0) (by kernel_rfl) rfl <| .loadB1 hh (i := 50) rfl rfl rfl Tryz.underlying3 rfl <| .fieldAddr (off := 5) rfl Tryz.underlying55 rfl (s := 0) (by kernel_rfl) rfl <| .loadB1 hh (i := 50) rfl rfl rfl Tryz.underlying3 rfl <| .move rfl <| .nilCheck rfl <| .fieldAddr (off := 0) rfl Tryz.underlying86 rfl (s := 4) (by kernel_rfl) rfl <| .fieldAddr (off := 4) rfl Tryz.underlying81 rfl (s := 0) (by kernel_rfl) rfl <| .loadX1 (fun _ h_ => (hR.now h_ rfl)) rfl rfl Tryz.underlying79 rfl <| .move rfl <| .move rfl <| .nil) ?_
 clear Hz Az; intro Az Hz
 refine stepE_only 10 rfl (by kernel_rfl) rfl (fun K hK => ?_)
 refine e_call Hz Tryz.func113 rfl rfl rfl rfl (rterm_s R s p _ (h.now m24) hb (lastS s)) ?_
 rintro e w36 ⟨rfl, hb36⟩
 have m37 := m24.later hb36
 clear m24
 clear hb36
 refine ⟨_, rfl, ?_⟩; clear Hz Az; intro Az Hz
 refine hK _ _ (m37.to ⟨il, trivial⟩) ?_; clear hK K
 refine stepE_only 12 rfl (by kernel_rfl) rfl (fun K hK => ?_)
 refine e_call Hz Tryz.func153 rfl rfl rfl rfl (newer_b _ _ _ _ _) ?_
 rintro e w39 ⟨rfl, hb39⟩
 have m40 := m37.later hb39
 clear m37
 clear hb39
 refine ⟨_, rfl, ?_⟩; clear Hz Az; intro Az Hz
 refine hK _ _ (m40.to ⟨il, trivial⟩) ?_; clear hK K
 refine goA hP24 [13] 1 8191 16383 Hz (m40.to ⟨il, trivial⟩) (.assign rfl <| .nil) ?_
 clear Hz Az; intro Az Hz
 refine wpAnyE_done (by kernel_rfl) ?_ _
 refine hK2 _ _ ?_; clear hK2; try clear K2
 refine wp_ret ?_
 try dsimp only [Exit.then, Exit.inBlock]
 refine (ret1 (fn := Tryz.f138) Hz rfl rfl ?_)
 exact ⟨rfl, m40.below⟩
end
end Go.Proofs.YtndnnlbdnjndiaaGreat.K
