/- General laws of walks. -/
import Derived.Test.YtndnnlbdnjndiaaGreatG13
import Derived.Test.YtndnnlbdnjndiaaGreatG15
import Derived.Test.YtndnnlbdnjndiaaGreatG9
import Derived.Test.YtndnnlbdnjndiaaGreatG14
namespace Go.Proofs.YtndnnlbdnjndiaaGreat.K
open Go.ChangeShapes Go.WideShapes Go.ChangeAt Go.RowKit
set_option linter.unusedVariables false
set_option linter.unusedSimpArgs false
section
theorem inf55wse : (Tryz.prog.info? 55).map (fun i => (i.zero, i.size, i.bytes)) = some (some (.agg #[.int .i64 0, .int .i64 0, .int .i64 0, .int .i64 0, .int .i64 0, .int .i64 0, .int .i64 0, .int .i64 0, .bool false, .slice none 0 0, .int .i64 0, .int .i64 0, .slice none 0 0, .slice none 0 0, .slice none 0 0, .int .i64 0, .int .i64 0, .int .i64 0, .int .i64 0]), 19, 216) := by kernel_rfl
theorem sz3wse : (Tryz.prog.info? 3).map (·.size) = some 1 := by kernel_rfl
theorem sz43wse : (Tryz.prog.info? 43).map (·.size) = some 1 := by kernel_rfl
theorem sz55wse : (Tryz.prog.info? 55).map (·.size) = some 19 := by kernel_rfl
theorem inf118wsa : (Tryz.prog.info? 118).map (fun i => (i.zero, i.size, i.bytes)) = some (some (.agg #[.int .i64 0, .int .i64 0, .int .i64 0, .int .i64 0, .int .i64 0, .int .i64 0, .int .i64 0, .slice none 0 0, .int .i64 0, .int .i64 0, .slice none 0 0, .slice none 0 0]), 12, 144) := by kernel_rfl
theorem sz3wsa : (Tryz.prog.info? 3).map (·.size) = some 1 := by kernel_rfl
theorem sz44wsa : (Tryz.prog.info? 44).map (·.size) = some 1 := by kernel_rfl
theorem sz118wsa : (Tryz.prog.info? 118).map (·.size) = some 12 := by kernel_rfl
theorem fl25wha : flatS Tryz.prog 25 [.int .i64 0, .int .i64 0] = true := by kernel_rfl
theorem ps118wha : placesS Tryz.prog 118 = some [(0, 1), (1, 1), (2, 2), (4, 4), (8, 4)] := by kernel_rfl
theorem sz25wha : (Tryz.prog.info? 25).map (·.size) = some 2 := by kernel_rfl
theorem zc25wha : ((Tryz.prog.info? 25).bind (·.zero)).map (·.cells.toList) = some [.int .i64 0, .int .i64 0] := by kernel_rfl
theorem zc118wha : ((Tryz.prog.info? 118).bind (·.zero)).map (·.cells.toList) = some [.int .i64 0, .int .i64 0, .int .i64 0, .int .i64 0, .int .i64 0, .int .i64 0, .int .i64 0, .slice none 0 0, .int .i64 0, .int .i64 0, .slice none 0 0, .slice none 0 0] := by kernel_rfl
theorem sz3wdo : (Tryz.prog.info? 3).map (·.size) = some 1 := by kernel_rfl
theorem fl48wsd : flatS Tryz.prog 48 [.slice none 0 0, .slice none 0 0, .bool false] = true := by kernel_rfl
theorem sz48wsd : (Tryz.prog.info? 48).map (·.size) = some 3 := by kernel_rfl
theorem zc48wsd : ((Tryz.prog.info? 48).bind (·.zero)).map (·.cells.toList) = some [.slice none 0 0, .slice none 0 0, .bool false] := by kernel_rfl
abbrev raW (x : RV) (L : Nat) (ys ms rs : Value) (re : Bool) : List Value :=
 [.int .i64 x.id, .int .i64 x.gr, .int .i64 x.te, .int .i64 x.vo, .pointer (some ⟨L, 0, none⟩), .int .i64 x.co, .int .i64 x.ap, .int .i64 x.ro, .int .i64 x.le, ys,
  .int .i64 x.n0, .int .i64 x.n1, .int .i64 x.n2, .int .i64 x.n3, .int .i64 x.n4, .int .i64 x.n5, .int .i64 x.n6,
  .int .i64 x.m0, .int .i64 x.m1, .int .i64 x.m2, .int .i64 x.m3, .int .i64 x.m4, .int .i64 x.m5, .int .i64 x.m6, .int .i64 x.si, .int .i64 x.be, ms, rs, .bool re]
abbrev rwM (R : Nat) (s : RS) (p : RP) : Mm :=
 [(1, .box R 91 (raW s.x p.L (.slice p.py s.ys.length p.cy) (.slice p.pm (s.ms.map rmD).length p.cm) (.slice p.pq (s.rs.map rrD).length p.cq) s.re)),
  (2, .box p.L 98 [.int .i64 s.bi, .int .i64 s.bt, .slice p.pc s.cf.length p.cc, .slice p.pd s.bd.length p.cd, .slice p.pl (s.es.map entD).length p.cl]),
  (3, .seg (.slice p.pl (s.es.map entD).length p.cl) 62 4 (s.es.map entD)),
  (4, .dat (.slice p.pc s.cf.length p.cc) (.ns .i64 s.cf)),
  (5, .dat (.slice p.pd s.bd.length p.cd) (.ns .u8 s.bd)),
  (6, .dat (.slice p.py s.ys.length p.cy) (.ns .i64 s.ys)),
  (7, .seg (.slice p.pm (s.ms.map rmD).length p.cm) 55 19 (s.ms.map rmD)),
  (8, .seg (.slice p.pq (s.rs.map rrD).length p.cq) 118 12 (s.rs.map rrD))]

set_option maxRecDepth 100000
set_option maxHeartbeats 4000000
theorem wsend_s (X : Cx) (R : Nat) (s : RS) (p : RP) (n : Int) (r : RM) (pe pc pd pf : Option Addr) (ce cc cd cf : Nat) (w0 : World) (hQ : s.ms.length ≤ 1000000) (m0 : MemOk X w0 ((9, .dat (.slice pe (r.es.map entD).length ce) (.l 4 (r.es.map entD))) :: (10, .dat (.slice pc r.cf.length cc) (.ns .i64 r.cf)) :: (11, .dat (.slice pd r.bd.length cd) (.ns .u8 r.bd)) :: (12, .dat (.slice pf r.da.length cf) (.ns .u8 r.da)) :: rwM R s p) w0) :
   Calls Tryz.prog 62 #[.pointer (some ⟨R, 0, none⟩), .agg #[.int .i64 r.k, .int .i64 r.g, .int .i64 r.f, .int .i64 r.t, .int .i64 r.te, .int .i64 r.ix, .int .i64 r.lt, .int .i64 r.co, .bool r.ok, .slice pe (r.es.map entD).length ce, .int .i64 r.bi, .int .i64 r.bt, .slice pc r.cf.length cc, .slice pd r.bd.length cd, .slice pf r.da.length cf, .int .i64 r.vo, .int .i64 r.ch, .int .i64 r.ma, .int .i64 r.fl], .int .i64 n] w0 fun e w' => ∃ p', e = .returned (.tuple #[]) ∧ MemOk X w0 (rwM R (addM s [toM s n r]) p') w' := by
 refine enter (fn := Tryz.f62) Tryz.func62 rfl Tryz.ntmps62 rfl (fun Az Hz => ?_)
 simp only [List.zipIdx_cons, List.zipIdx_nil, List.map_cons, List.map_nil, Nat.reduceAdd, Nat.zero_add] at Hz
 refine wp_seq_k (fun K0 hK0 => ?_)
 refine wp_region_lit ?_
 refine wpList_plain rfl (fun K hK => ?_)
 refine e_box Hz m0 50 (cs := [_, _, _, _, _, _, _, _, _, _, _, _, _, _, _, _, _, _, _]) rfl rfl rfl ?_
 clear Hz Az m0; intro g1 Az w2 Hz m2 hB2 hg2
 clear hB2 hg2
 refine hK _ _ ?_; clear hK K
 refine wpList_nil ?_
 refine hK0 _ _ ?_; clear hK0; try clear K0
 refine wp_seq_k (fun K1 hK1 => ?_)
 have hC1 : ∀ (a : Act) (w : World), (∃ (Bm : Nat), Has 30 [(0, .pointer (some ⟨R, 0, none⟩)), (4, .pointer (some ⟨Bm, 0, none⟩))] a ∧ MemOk X w0 ((9, .dat (.slice pe (r.es.map entD).length ce) (.l 4 (r.es.map entD))) :: (10, .dat (.slice pc r.cf.length cc) (.ns .i64 r.cf)) :: (11, .dat (.slice pd r.bd.length cd) (.ns .u8 r.bd)) :: (12, .dat (.slice pf r.da.length cf) (.ns .u8 r.da)) :: (20, .box Bm 55 [.int .i64 r.k, .int .i64 s.x.gr, .int .i64 s.x.id, .int .i64 n, .int .i64 r.te, .int .i64 r.ix, .int .i64 r.lt, .int .i64 r.co, .bool r.ok, .slice pe (r.es.map entD).length ce, .int .i64 r.bi, .int .i64 r.bt, .slice pc r.cf.length cc, .slice pd r.bd.length cd, .slice pf r.da.length cf, .int .i64 r.vo, .int .i64 r.ch, .int .i64 r.ma, .int .i64 r.fl]) :: rwM R s p) w) → K1 a w := by
   clear Hz m2
   rintro Az w3 ⟨Bm, Hz, m3⟩
   refine hK1 _ _ ?_; clear hK1; try clear K1
   have m4 : MemOk _ _ [(1, _), (2, _), (3, _), (4, _), (5, _), (6, _), (7, _), (8, _), (9, _), (10, _), (11, _), (12, _), (20, _)] _ := m3.only [1, 2, 3, 4, 5, 6, 7, 8, 9, 10, 11, 12, 20]; clear m3
   refine region_p 8 (B := [(1, _), (20, _)]) (m4.to ⟨il, il, trivial⟩) m4 (by kernel_rfl) (fun w5 hP5 m5 => ?_); clear m4
   refine goR hP5 [0, 1, 2, 3, 4, 5, 6] [5, 6] 7 0 127 Hz (m5.to ⟨il, il, trivial⟩) (.move rfl <| .move rfl <| .nilCheck rfl <| .fieldAddr (off := 26) rfl Tryz.underlying91 rfl (s := 2) (by kernel_rfl) rfl <| .fieldAddr (off := 26) rfl Tryz.underlying48 rfl (s := 0) (by kernel_rfl) rfl <| .loadB1 hh (i := 1) rfl rfl rfl Tryz.underlying43 rfl <| .loadBR hh (i := 20) rfl rfl Tryz.underlying55 rfl sz55wse (by simp) (by dsimp only [List.drop, List.take] <;> rfl) <| .nil) ?_
   clear Hz Az; intro Az Hz
   refine stepE_only 7 rfl (by kernel_rfl) rfl (fun K hK => ?_)
   refine e_litR Hz m5 100 (mm := 19) rfl (.cons rfl rfl (.cons (.v _) (.cons (.v _) (.cons (.v _) (.cons (.v _) (.cons (.v _) (.cons (.v _) (.cons (.v _) (.cons (.v _) (.cons (.v _) (.cons (m5.rd (i := 9) rfl) (.cons (.v _) (.cons (.v _) (.cons (m5.rd (i := 10) rfl) (.cons (m5.rd (i := 11) rfl) (.cons (m5.rd (i := 12) rfl) (.cons (.v _) (.cons (.v _) (.cons (.v _) (.cons (.v _) .nil))))))))))))))))))) <| .nil) Tryz.underlying43 inf55wse rfl rfl rfl rfl rfl ?_
   clear Hz Az m5; intro g13 Az w14 Hz m14
   refine hK _ _ (m14.to ⟨il, il, trivial⟩) ?_; clear hK K
   have m16 := m14.freezeR 100 rfl; clear m14
   refine stepE_end 8 rfl (by kernel_rfl) rfl (by rfl) (fun K hK => ?_)
   refine e_appSA Hz m16 7 rfl rfl rfl (m16.rd (i := 100) rfl).cells Tryz.underlying43 inf55wse rfl rfl (by decide) (by simp; omega) rfl ?_
   clear Hz Az m16; intro p15 c15 Az w17 Hz m17
   refine hK _ _ ?_; clear hK K
   refine goB hP5 [9, 10, 11] 3 511 4095 Hz (.nilCheck rfl <| .fieldAddr (off := 26) rfl Tryz.underlying91 rfl (s := 2) (by kernel_rfl) rfl <| .fieldAddr (off := 26) rfl Tryz.underlying48 rfl (s := 0) (by kernel_rfl) rfl <| .nil) ?_
   clear Hz Az; intro Az Hz
   refine stepE_end 12 rfl (by kernel_rfl) rfl (by rfl) (fun K hK => ?_)
   refine e_store1 Hz m17 1 rfl rfl rfl rfl rfl sz43wse (by dsimp only [List.set] <;> rfl) ?_
   clear m17; intro w21 m21 hB21
   clear hB21
   refine hK _ _ ?_; clear hK K
   refine wpAnyE_done (by kernel_rfl) ?_ _
   try dsimp only [Exit.then]
   try refine out_here ?_
   refine (ret0 (fn := Tryz.f62) Hz rfl ?_)
   have hE : s.ms.map rmD ++ [rmD { r with g := s.x.gr, f := s.x.id, t := n }] = (s.ms ++ [{ r with g := s.x.gr, f := s.x.id, t := n }]).map rmD := by rw [List.map_append]; rfl
   simp only [rmD] at hE
   first | rw [hE] at m21 | skip
   exact ⟨{ p with pm := p15, cm := c15 }, rfl, m21.only [1, 2, 3, 4, 5, 6, 7, 8]⟩
 have m22 : MemOk _ _ [(1, _), (2, _), (3, _), (4, _), (5, _), (6, _), (7, _), (8, _), (9, _), (10, _), (11, _), (12, _), (50, _)] _ := m2.only [1, 2, 3, 4, 5, 6, 7, 8, 9, 10, 11, 12, 50]; clear m2
 refine region_p 14 (B := [(1, _)]) (m22.to ⟨il, trivial⟩) m22 (by kernel_rfl) (fun w23 hP23 m23 => ?_); clear m22
 refine goR hP23 [0, 1, 2, 3, 4, 5, 6, 7, 8, 9] [3, 7] 10 0 1023 Hz (m23.to ⟨il, trivial⟩) (.move rfl <| .nilCheck rfl <| .fieldAddr (off := 1) rfl Tryz.underlying91 rfl (s := 0) (by kernel_rfl) rfl <| .loadB1 hh (i := 1) rfl rfl rfl Tryz.underlying3 rfl <| .move rfl <| .nilCheck rfl <| .fieldAddr (off := 0) rfl Tryz.underlying91 rfl (s := 0) (by kernel_rfl) rfl <| .loadB1 hh (i := 1) rfl rfl rfl Tryz.underlying3 rfl <| .move rfl <| .fieldAddr (off := 1) rfl Tryz.underlying55 rfl (s := 0) (by kernel_rfl) rfl <| .nil) ?_
 clear Hz Az; intro Az Hz
 refine stepE_only 10 rfl (by kernel_rfl) rfl (fun K hK => ?_)
 refine e_store1 Hz m23 50 rfl rfl rfl rfl rfl sz3wse (by dsimp only [List.set] <;> rfl) ?_
 clear m23; intro w34 m34 hB34
 clear hB34
 refine hK _ _ (m34.to ⟨il, trivial⟩) ?_; clear hK K
 refine goA hP23 [11] 1 2047 4095 Hz (m34.to ⟨il, trivial⟩) (.fieldAddr (off := 2) rfl Tryz.underlying55 rfl (s := 0) (by kernel_rfl) rfl <| .nil) ?_
 clear Hz Az; intro Az Hz
 refine stepE_only 12 rfl (by kernel_rfl) rfl (fun K hK => ?_)
 refine e_store1 Hz m34 50 rfl rfl rfl rfl rfl sz3wse (by dsimp only [List.set] <;> rfl) ?_
 clear m34; intro w36 m36 hB36
 clear hB36
 refine hK _ _ (m36.to ⟨il, trivial⟩) ?_; clear hK K
 refine goA hP23 [13] 1 8191 16383 Hz (m36.to ⟨il, trivial⟩) (.fieldAddr (off := 3) rfl Tryz.underlying55 rfl (s := 0) (by kernel_rfl) rfl <| .nil) ?_
 clear Hz Az; intro Az Hz
 refine stepE_end 14 rfl (by kernel_rfl) rfl (by rfl) (fun K hK => ?_)
 refine e_store1 Hz m36 50 rfl rfl rfl rfl rfl sz3wse (by dsimp only [List.set] <;> rfl) ?_
 clear m36; intro w38 m38 hB38
 clear hB38
 refine hK _ _ ?_; clear hK K
 refine wpAnyE_done (by kernel_rfl) ?_ _
 show K1 _ _
 exact hC1 _ _ ⟨_, Hz.only [0, 4], m38.ren [(9, 9), (10, 10), (11, 11), (12, 12), (20, 50), (1, 1), (2, 2), (3, 3), (4, 4), (5, 5), (6, 6), (7, 7), (8, 8)] (by decide)⟩
theorem wsendE_s (X : Cx) (R : Nat) (s : RS) (p : RP) (n k te ix lt co : Int) (ok : Bool) (es : List En) (pe : Option Addr) (ce : Nat) (w0 : World) (hQ : s.ms.length ≤ 1000000) (m0 : MemOk X w0 ((9, .dat (.slice pe (es.map entD).length ce) (.l 4 (es.map entD))) :: rwM R s p) w0) :
   Calls Tryz.prog 62 #[.pointer (some ⟨R, 0, none⟩), .agg #[.int .i64 k, .int .i64 0, .int .i64 0, .int .i64 0, .int .i64 te, .int .i64 ix, .int .i64 lt, .int .i64 co, .bool ok, .slice pe (es.map entD).length ce, .int .i64 0, .int .i64 0, .slice none 0 0, .slice none 0 0, .slice none 0 0, .int .i64 0, .int .i64 0, .int .i64 0, .int .i64 0], .int .i64 n] w0 fun e w' => ∃ p', e = .returned (.tuple #[]) ∧ MemOk X w0 (rwM R (addM s [toM s n ⟨k, 0, 0, 0, te, ix, lt, co, ok, es, 0, 0, [], [], [], 0, 0, 0, 0⟩]) p') w' := by
 have m1 := m0.dat 10 rfl (Rd.nilN _ _ .i64 none)
 have m2 := m1.dat 11 rfl (Rd.nilN _ _ .u8 none)
 have m3 := m2.dat 12 rfl (Rd.nilN _ _ .u8 none)
 exact wsend_s X R s p n ⟨k, 0, 0, 0, te, ix, lt, co, ok, es, 0, 0, [], [], [], 0, 0, 0, 0⟩ pe none none none ce 0 0 0 w0 hQ (m3.only [9, 10, 11, 12, 1, 2, 3, 4, 5, 6, 7, 8])
theorem wsend0_s (X : Cx) (R : Nat) (s : RS) (p : RP) (n k te ix lt : Int) (ok : Bool) (w0 : World) (hQ : s.ms.length ≤ 1000000) (m0 : MemOk X w0 (rwM R s p) w0) :
   Calls Tryz.prog 62 #[.pointer (some ⟨R, 0, none⟩), .agg #[.int .i64 k, .int .i64 0, .int .i64 0, .int .i64 0, .int .i64 te, .int .i64 ix, .int .i64 lt, .int .i64 0, .bool ok, .slice none 0 0, .int .i64 0, .int .i64 0, .slice none 0 0, .slice none 0 0, .slice none 0 0, .int .i64 0, .int .i64 0, .int .i64 0, .int .i64 0], .int .i64 n] w0 fun e w' => ∃ p', e = .returned (.tuple #[]) ∧ MemOk X w0 (rwM R (addM s [toM s n ⟨k, 0, 0, 0, te, ix, lt, 0, ok, [], 0, 0, [], [], [], 0, 0, 0, 0⟩]) p') w' := by
 have m1 := m0.dat 9 rfl (Rd.nil4 _ _)
 exact wsendE_s X R s p n k te ix lt 0 ok [] none 0 w0 hQ m1
theorem wsave_s (X : Cx) (R : Nat) (s : RS) (p : RP) (r : RR) (pe pc pd : Option Addr) (ce cc cd : Nat) (w0 : World) (hQ : s.rs.length ≤ 1000000) (m0 : MemOk X w0 ((9, .dat (.slice pe r.ed.length ce) (.ns .u8 r.ed)) :: (10, .dat (.slice pc r.cf.length cc) (.ns .i64 r.cf)) :: (11, .dat (.slice pd r.bd.length cd) (.ns .u8 r.bd)) :: rwM R s p) w0) :
   Calls Tryz.prog 110 #[.pointer (some ⟨R, 0, none⟩), .agg #[.int .i64 r.g, .int .i64 r.k, .int .i64 r.te, .int .i64 r.vo, .int .i64 r.ei, .int .i64 r.et, .int .i64 r.ek, .slice pe r.ed.length ce, .int .i64 r.bi, .int .i64 r.bt, .slice pc r.cf.length cc, .slice pd r.bd.length cd]] w0 fun e w' => ∃ p', e = .returned (.tuple #[]) ∧ MemOk X w0 (rwM R (addR s r) p') w' := by
 refine enter (fn := Tryz.f110) Tryz.func110 rfl Tryz.ntmps110 rfl (fun Az Hz => ?_)
 simp only [List.zipIdx_cons, List.zipIdx_nil, List.map_cons, List.map_nil, Nat.reduceAdd, Nat.zero_add] at Hz
 refine wp_seq_k (fun K0 hK0 => ?_)
 refine wp_region_lit ?_
 refine wpList_plain rfl (fun K hK => ?_)
 refine e_box Hz m0 50 (cs := [_, _, _, _, _, _, _, _, _, _, _, _]) rfl rfl rfl ?_
 clear Hz Az m0; intro g1 Az w2 Hz m2 hB2 hg2
 clear hB2 hg2
 refine hK _ _ ?_; clear hK K
 refine wpList_nil ?_
 refine hK0 _ _ ?_; clear hK0; try clear K0
 refine wp_seq_k (fun K1 hK1 => ?_)
 refine wp_region_lit ?_
 refine goCh Hz (.move rfl <| .nilCheck rfl <| .fieldAddr (off := 1) rfl Tryz.underlying91 rfl (s := 0) (by kernel_rfl) rfl <| .loadB1 m2 (i := 1) rfl rfl rfl Tryz.underlying3 rfl <| .fieldAddr (off := 0) rfl Tryz.underlying118 rfl (s := 0) (by kernel_rfl) rfl <| .nil) ?_
 clear Hz Az; intro Az Hz
 refine wpList_plain rfl (fun K hK => ?_)
 refine e_store1 Hz m2 50 rfl rfl rfl rfl rfl sz3wsa (by dsimp only [List.set] <;> rfl) ?_
 clear m2; intro w13 m13 hB13
 clear hB13
 refine hK _ _ ?_; clear hK K
 refine wpList_nil ?_
 refine hK1 _ _ ?_; clear hK1; try clear K1
 replace Hz : Has 21 [(0, _), (3, _)] Az := Hz.only [0, 3]
 have m15 : MemOk _ _ [(1, _), (2, _), (3, _), (4, _), (5, _), (6, _), (7, _), (8, _), (9, _), (10, _), (11, _), (50, _)] _ := m13.only [1, 2, 3, 4, 5, 6, 7, 8, 9, 10, 11, 50]; clear m13
 refine region_p 8 (B := [(1, _), (50, _)]) (m15.to ⟨il, il, trivial⟩) m15 (by kernel_rfl) (fun w16 hP16 m16 => ?_); clear m15
 refine goR hP16 [0, 1, 2, 3, 4, 5, 6] [5, 6] 7 0 127 Hz (m16.to ⟨il, il, trivial⟩) (.move rfl <| .move rfl <| .nilCheck rfl <| .fieldAddr (off := 26) rfl Tryz.underlying91 rfl (s := 2) (by kernel_rfl) rfl <| .fieldAddr (off := 27) rfl Tryz.underlying48 rfl (s := 0) (by kernel_rfl) rfl <| .loadB1 hh (i := 1) rfl rfl rfl Tryz.underlying44 rfl <| .loadBR hh (i := 50) rfl rfl Tryz.underlying118 rfl sz118wsa (by simp) (by dsimp only [List.drop, List.take] <;> rfl) <| .nil) ?_
 clear Hz Az; intro Az Hz
 refine stepE_only 7 rfl (by kernel_rfl) rfl (fun K hK => ?_)
 refine e_litR Hz m16 51 (mm := 12) rfl (.cons rfl rfl (.cons (.v _) (.cons (.v _) (.cons (.v _) (.cons (.v _) (.cons (.v _) (.cons (.v _) (.cons (.v _) (.cons (m16.rd (i := 9) rfl) (.cons (.v _) (.cons (.v _) (.cons (m16.rd (i := 10) rfl) (.cons (m16.rd (i := 11) rfl) .nil)))))))))))) <| .nil) Tryz.underlying44 inf118wsa rfl rfl rfl rfl rfl ?_
 clear Hz Az m16; intro g24 Az w25 Hz m25
 refine hK _ _ (m25.to ⟨il, il, trivial⟩) ?_; clear hK K
 have m27 := m25.freezeR 51 rfl; clear m25
 refine stepE_end 8 rfl (by kernel_rfl) rfl (by rfl) (fun K hK => ?_)
 refine e_appSA Hz m27 8 rfl rfl rfl (m27.rd (i := 51) rfl).cells Tryz.underlying44 inf118wsa rfl rfl (by decide) (by simp; omega) rfl ?_
 clear Hz Az m27; intro p26 c26 Az w28 Hz m28
 refine hK _ _ ?_; clear hK K
 refine goB hP16 [9, 10, 11] 3 511 4095 Hz (.nilCheck rfl <| .fieldAddr (off := 26) rfl Tryz.underlying91 rfl (s := 2) (by kernel_rfl) rfl <| .fieldAddr (off := 27) rfl Tryz.underlying48 rfl (s := 0) (by kernel_rfl) rfl <| .nil) ?_
 clear Hz Az; intro Az Hz
 refine stepE_end 12 rfl (by kernel_rfl) rfl (by rfl) (fun K hK => ?_)
 refine e_store1 Hz m28 1 rfl rfl rfl rfl rfl sz44wsa (by dsimp only [List.set] <;> rfl) ?_
 clear m28; intro w32 m32 hB32
 clear hB32
 refine hK _ _ ?_; clear hK K
 refine wpAnyE_done (by kernel_rfl) ?_ _
 try dsimp only [Exit.then]
 try refine out_here ?_
 refine (ret0 (fn := Tryz.f110) Hz rfl ?_)
 have hE : s.rs.map rrD ++ [rrD { r with g := s.x.gr }] = (s.rs ++ [{ r with g := s.x.gr }]).map rrD := by rw [List.map_append]; rfl
 simp only [rrD] at hE
 first | rw [hE] at m32 | skip
 exact ⟨{ p with pq := p26, cq := c26 }, rfl, m32.only [1, 2, 3, 4, 5, 6, 7, 8]⟩
theorem wsaveE_s (X : Cx) (R : Nat) (s : RS) (p : RP) (ei et ek : Int) (ed : List Int) (pe : Option Addr) (ce : Nat) (w0 : World) (hQ : s.rs.length ≤ 1000000) (m0 : MemOk X w0 ((9, .dat (.slice pe ed.length ce) (.ns .u8 ed)) :: rwM R s p) w0) :
   Calls Tryz.prog 110 #[.pointer (some ⟨R, 0, none⟩), .agg #[.int .i64 0, .int .i64 2, .int .i64 0, .int .i64 0, .int .i64 ei, .int .i64 et, .int .i64 ek, .slice pe ed.length ce, .int .i64 0, .int .i64 0, .slice none 0 0, .slice none 0 0]] w0 fun e w' => ∃ p', e = .returned (.tuple #[]) ∧ MemOk X w0 (rwM R (addR s (entR (ei, et, ek, ed))) p') w' := by
 have m1 := m0.dat 10 rfl (Rd.nilN _ _ .i64 none)
 have m2 := m1.dat 11 rfl (Rd.nilN _ _ .u8 none)
 exact wsave_s X R s p (entR (ei, et, ek, ed)) pe none none ce 0 0 w0 hQ (m2.only [9, 10, 11, 1, 2, 3, 4, 5, 6, 7, 8])
theorem wsaveH_s (X : Cx) (R : Nat) (s : RS) (p : RP) (tm vt : Int) (w0 : World) (hQ : s.rs.length ≤ 1000000) (m0 : MemOk X w0 (rwM R s p) w0) :
   Calls Tryz.prog 110 #[.pointer (some ⟨R, 0, none⟩), .agg #[.int .i64 0, .int .i64 1, .int .i64 tm, .int .i64 vt, .int .i64 0, .int .i64 0, .int .i64 0, .slice none 0 0, .int .i64 0, .int .i64 0, .slice none 0 0, .slice none 0 0]] w0 fun e w' => ∃ p', e = .returned (.tuple #[]) ∧ MemOk X w0 (rwM R (addR s ⟨0, 1, tm, vt, 0, 0, 0, [], 0, 0, [], []⟩) p') w' := by
 have m1 := m0.dat 9 rfl (Rd.nilN _ _ .u8 none)
 have m2 := m1.dat 10 rfl (Rd.nilN _ _ .i64 none)
 have m3 := m2.dat 11 rfl (Rd.nilN _ _ .u8 none)
 exact wsave_s X R s p ⟨0, 1, tm, vt, 0, 0, 0, [], 0, 0, [], []⟩ none none none 0 0 0 w0 hQ (m3.only [9, 10, 11, 1, 2, 3, 4, 5, 6, 7, 8])
theorem whard_s (X : Cx) (R : Nat) (s : RS) (p : RP) (tm vt : Int) (w0 : World) (hQ : s.rs.length ≤ 1000000) (m0 : MemOk X w0 (rwM R s p) w0) :
   Calls Tryz.prog 106 #[.pointer (some ⟨R, 0, none⟩), .int .i64 tm, .int .i64 vt] w0 fun e w' => ∃ p', e = .returned (.tuple #[]) ∧ MemOk X w0 (rwM R (hardS (withX s { s.x with te := tm, vo := vt })) p') w' := by
 refine enter (fn := Tryz.f106) Tryz.func106 rfl Tryz.ntmps106 rfl (fun Az Hz => ?_)
 simp only [List.zipIdx_cons, List.zipIdx_nil, List.map_cons, List.map_nil, Nat.reduceAdd, Nat.zero_add] at Hz
 refine wp_seq_k (fun K0 hK0 => ?_)
 refine wp_region_lit ?_
 refine goCh Hz (.move rfl <| .move rfl <| .move rfl <| .build rfl zc25wha fl25wha rfl (by dsimp only [setL, List.set] <;> rfl) <| .nilCheck rfl <| .fieldAddr (off := 2) rfl Tryz.underlying91 rfl (s := 1) (by kernel_rfl) rfl <| .nil) ?_
 clear Hz Az; intro Az Hz
 refine wpList_plain rfl (fun K hK => ?_)
 refine e_storeR Hz m0 1 rfl rfl rfl rfl rfl sz25wha (by dsimp only [List.take, List.drop, List.append_eq, List.append] <;> rfl) ?_
 clear m0; intro w13 m13 hB13
 clear hB13
 refine hK _ _ ?_; clear hK K
 refine wpList_nil ?_
 refine hK0 _ _ ?_; clear hK0; try clear K0
 replace Hz : Has 19 [(0, _)] Az := Hz.only [0]
 refine wp_region_lit ?_
 refine goCh Hz (.move rfl <| .move rfl <| .nilCheck rfl <| .fieldAddr (off := 2) rfl Tryz.underlying91 rfl (s := 1) (by kernel_rfl) rfl <| .loadBR m13 (i := 1) rfl rfl Tryz.underlying25 rfl sz25wha (by simp) (by dsimp only [List.drop, List.take] <;> rfl) <| .buildG rfl zc118wha ps118wha rfl <| .nil) ?_
 clear Hz Az; intro Az Hz
 refine wpList_plain rfl (fun K hK => ?_)
 refine e_call Hz Tryz.func110 rfl rfl rfl rfl (wsaveH_s _ R (withX s { s.x with te := tm, vo := vt }) p tm vt _ hQ (m13.into [(1, 1), (2, 2), (3, 3), (4, 4), (5, 5), (6, 6), (7, 7), (8, 8)] (by decide) rfl)) ?_
 rintro e w21 ⟨p1, rfl, hm21⟩
 have mx21 := m13.back hm21 [(1, 1), (2, 2), (3, 3), (4, 4), (5, 5), (6, 6), (7, 7), (8, 8)] (by decide); clear hm21 m13
 have m21 : MemOk _ _ [(1, _), (2, _), (3, _), (4, _), (5, _), (6, _), (7, _), (8, _)] _ := mx21.only [1, 2, 3, 4, 5, 6, 7, 8]; clear mx21
 refine ⟨_, rfl, ?_⟩; clear Hz Az; intro Az Hz
 refine hK _ _ ?_; clear hK K
 refine wpList_nil ?_
 try dsimp only [Exit.then]
 try refine out_here ?_
 refine (ret0 (fn := Tryz.f106) Hz rfl ?_)
 exact ⟨p1, rfl, m21.only [1, 2, 3, 4, 5, 6, 7, 8]⟩
theorem wdown_s (X : Cx) (R : Nat) (s : RS) (p : RP) (tm : Int) (w0 : World) (hQ : s.rs.length ≤ 1000000) (m0 : MemOk X w0 (rwM R s p) w0) :
   Calls Tryz.prog 65 #[.pointer (some ⟨R, 0, none⟩), .int .i64 tm] w0 fun e w' => ∃ p', e = .returned (.tuple #[]) ∧ MemOk X w0 (rwM R (hardS (withX s { s.x with ro := 0, le := -1, te := tm, vo := -1 })) p') w' := by
 refine enter (fn := Tryz.f65) Tryz.func65 rfl Tryz.ntmps65 rfl (fun Az Hz => ?_)
 simp only [List.zipIdx_cons, List.zipIdx_nil, List.map_cons, List.map_nil, Nat.reduceAdd, Nat.zero_add] at Hz
 refine wp_seq_k (fun K0 hK0 => ?_)
 refine wp_region_lit ?_
 refine goCh Hz (.move rfl <| .move rfl <| .nilCheck rfl <| .fieldAddr (off := 7) rfl Tryz.underlying91 rfl (s := 0) (by kernel_rfl) rfl <| .nil) ?_
 clear Hz Az; intro Az Hz
 refine wpList_plain rfl (fun K hK => ?_)
 refine e_store1 Hz m0 1 rfl rfl rfl rfl rfl sz3wdo (by dsimp only [List.set] <;> rfl) ?_
 clear m0; intro w9 m9 hB9
 clear hB9
 refine hK _ _ ?_; clear hK K
 refine goCh Hz (.nilCheck rfl <| .fieldAddr (off := 8) rfl Tryz.underlying91 rfl (s := 0) (by kernel_rfl) rfl <| .nil) ?_
 clear Hz Az; intro Az Hz
 refine wpList_plain rfl (fun K hK => ?_)
 refine e_store1 Hz m9 1 rfl rfl rfl rfl rfl sz3wdo (by dsimp only [List.set] <;> rfl) ?_
 clear m9; intro w12 m12 hB12
 clear hB12
 refine hK _ _ ?_; clear hK K
 refine wpList_nil ?_
 refine hK0 _ _ ?_; clear hK0; try clear K0
 replace Hz : Has 13 [(0, _), (1, _)] Az := Hz.only [0, 1]
 refine wp_region_lit ?_
 refine goCh Hz (.move rfl <| .move rfl <| .nil) ?_
 clear Hz Az; intro Az Hz
 refine wpList_plain rfl (fun K hK => ?_)
 refine e_call Hz Tryz.func106 rfl rfl rfl rfl (whard_s _ R (withX s { s.x with ro := 0, le := -1 }) p tm (-1) _ hQ (m12.into [(1, 1), (2, 2), (3, 3), (4, 4), (5, 5), (6, 6), (7, 7), (8, 8)] (by decide) rfl)) ?_
 rintro e w16 ⟨p1, rfl, hm16⟩
 have mx16 := m12.back hm16 [(1, 1), (2, 2), (3, 3), (4, 4), (5, 5), (6, 6), (7, 7), (8, 8)] (by decide); clear hm16 m12
 have m16 : MemOk _ _ [(1, _), (2, _), (3, _), (4, _), (5, _), (6, _), (7, _), (8, _)] _ := mx16.only [1, 2, 3, 4, 5, 6, 7, 8]; clear mx16
 refine ⟨_, rfl, ?_⟩; clear Hz Az; intro Az Hz
 refine hK _ _ ?_; clear hK K
 refine wpList_nil ?_
 try dsimp only [Exit.then]
 try refine out_here ?_
 refine (ret0 (fn := Tryz.f65) Hz rfl ?_)
 exact ⟨p1, rfl, m16.only [1, 2, 3, 4, 5, 6, 7, 8]⟩
theorem wsaid_s (X : Cx) (R : Nat) (s : RS) (p : RP) (w0 : World) (m0 : MemOk X w0 (rwM R s p) w0) :
   Calls Tryz.prog 53 #[.pointer (some ⟨R, 0, none⟩)] w0 fun e w' => ∃ p' o', e = .returned (.agg #[.slice o'.pm (s.ms.map rmD).length o'.cm, .slice o'.pq (s.rs.map rrD).length o'.cq, .bool s.re]) ∧ MemOk X w0 (ouM s o' (rwM R (clrS s) (nilP p'))) w' := by
 refine enter (fn := Tryz.f53) Tryz.func53 rfl Tryz.ntmps53 rfl (fun Az Hz => ?_)
 simp only [List.zipIdx_cons, List.zipIdx_nil, List.map_cons, List.map_nil, Nat.reduceAdd, Nat.zero_add] at Hz
 refine wp_seq_k (fun K0 hK0 => ?_)
 refine wp_region_lit ?_
 refine wpList_plain rfl (fun K hK => ?_)
 refine e_alloc Hz m0 50 zc48wsd rfl ?_
 clear Hz Az m0; intro g1 Az w2 Hz m2 hB2 hg2
 clear hB2 hg2
 refine hK _ _ ?_; clear hK K
 refine wpList_nil ?_
 refine hK0 _ _ ?_; clear hK0; try clear K0
 refine wp_seq_k (fun K1 hK1 => ?_)
 refine wp_region_lit ?_
 refine goCh Hz (.move rfl <| .nilCheck rfl <| .fieldAddr (off := 26) rfl Tryz.underlying91 rfl (s := 2) (by kernel_rfl) rfl <| .loadBR m2 (i := 1) rfl rfl Tryz.underlying48 rfl sz48wsd (by simp) (by dsimp only [List.drop, List.take] <;> rfl) <| .nil) ?_
 clear Hz Az; intro Az Hz
 refine wpList_plain rfl (fun K hK => ?_)
 refine e_alloc Hz m2 51 zc48wsd rfl ?_
 clear Hz Az m2; intro g11 Az w12 Hz m12 hB12 hg12
 clear hB12 hg12
 refine hK _ _ ?_; clear hK K
 refine wpList_plain rfl (fun K hK => ?_)
 refine e_storeW Hz m12 51 rfl rfl rfl rfl rfl sz48wsd ?_
 clear m12; intro w13 m13 hB13
 clear hB13
 refine hK _ _ ?_; clear hK K
 refine wpList_nil ?_
 refine hK1 _ _ ?_; clear hK1; try clear K1
 refine wp_seq_k (fun K2 hK2 => ?_)
 refine wp_region_lit ?_
 refine goCh Hz (.move rfl <| .build rfl zc48wsd fl48wsd rfl (by dsimp only [setL, List.set] <;> rfl) <| .nilCheck rfl <| .fieldAddr (off := 26) rfl Tryz.underlying91 rfl (s := 2) (by kernel_rfl) rfl <| .nil) ?_
 clear Hz Az; intro Az Hz
 refine wpList_plain rfl (fun K hK => ?_)
 refine e_storeR Hz m13 1 rfl rfl rfl rfl rfl sz48wsd (by dsimp only [List.take, List.drop, List.append_eq, List.append] <;> rfl) ?_
 clear m13; intro w22 m22 hB22
 clear hB22
 refine hK _ _ ?_; clear hK K
 refine wpList_nil ?_
 refine hK2 _ _ ?_; clear hK2; try clear K2
 replace Hz : Has 13 [(2, _), (3, _)] Az := Hz.only [2, 3]
 refine wp_seq_k (fun K3 hK3 => ?_)
 refine wp_region_lit ?_
 refine goCh Hz (.loadBR m22 (i := 51) rfl rfl Tryz.underlying48 rfl sz48wsd (by simp) (by dsimp only [List.drop, List.take] <;> rfl) .nil) ?_
 clear Hz Az; intro Az Hz
 refine wpList_plain rfl (fun K hK => ?_)
 refine e_storeW Hz m22 50 rfl rfl rfl rfl rfl sz48wsd ?_
 clear m22; intro w26 m26 hB26
 clear hB26
 refine hK _ _ ?_; clear hK K
 refine wpList_nil ?_
 refine hK3 _ _ ?_; clear hK3; try clear K3
 refine wp_ret ?_
 try dsimp only [Exit.then, Exit.inBlock]
 refine (retC (fn := Tryz.f53) Hz m26 (i := 50) rfl rfl rfl Tryz.underlying48 rfl sz48wsd ?_)
 have mz := m26.ren [(11, 7), (12, 8), (1, 1), (2, 2), (3, 3), (4, 4), (5, 5), (6, 6)] (by decide)
 have md := (mz.nilS 7 55 19).nilS 8 118 12
 exact ⟨p, ⟨p.pm, p.pq, p.cm, p.cq⟩, rfl, md.only [11, 12, 1, 2, 3, 4, 5, 6, 7, 8]⟩
end
end Go.Proofs.YtndnnlbdnjndiaaGreat.K
section
namespace Go.Proofs.YtndnnlbdnjndiaaGreat.K
open Go.ChangeShapes Go.WideShapes Go.ChangeAt Go.RowKit Go.Sort
set_option linter.unusedVariables false
set_option linter.unusedSimpArgs false

set_option maxRecDepth 100000 in
set_option maxHeartbeats 2000000 in
theorem rmost_is (v v1 : Value) (l yes : List Int) (w : World) (hv : IsNums .i64 w v l) (hy : IsNums .i64 w v1 yes) (hl : l.length ≤ 900) (hyl : yes.length ≤ 900) (b : Bool) (hb : decide ((canon l).length < 2 * votes (canon l) yes) = b) :
   Calls Tryz.prog 105 #[v, v1] w fun e w' => e = .returned (.bool b) ∧ Below w.heap.size w w' := by
 obtain ⟨p, c, rfl, -⟩ := id hv
 obtain ⟨p1, c1, rfl, -⟩ := id hy
 have H := Lib.hid hv
 have HY0 := Lib.hid hy
 clear hv hy
 have hn := canon_len l
 obtain ⟨O, hOO⟩ : ∃ O, canon l = O := ⟨_, rfl⟩
 rw [hOO] at hn hb
 have HOO := Lib.hid hOO
 have HDf := Lib.hid hb
 clear hOO hb
 obtain ⟨m, hm⟩ : ∃ m, O.length = m := ⟨_, rfl⟩
 have HM := Lib.hid hm
 go_enter Tryz.func105, Tryz.ntmps105
 go_wp2_with fail
 refine (rof_is _ l _ H.out (by omega) O m HOO.out hm).mono ?_
 rintro e w1 ⟨pu, cu, rfl, hO, hb⟩
 have hz := hb.size
 have HY := Lib.hid (HY0.out.below hb (Nat.le_refl _))
 have HO := Lib.hid hO
 rw [hm] at hn
 clear hO hm
 go_wp2
 go_loopw [6, 7] (fun s i wr => ∃ k : Nat, k ≤ m ∧ i = .int .i64 k ∧ s = .int .i64 (votes (O.take k) yes : Nat) ∧ Below w1.heap.size w1 wr) (fun _ i _ => m - (intOf i).toNat)
 case atStart => exact ⟨0, Nat.zero_le _, rfl, rfl, Below.refl _ _⟩
 case round =>
   obtain ⟨k, hk, rfl, rfl, hbel⟩ := hrel
   have hvl : votes (O.take k) yes ≤ k := Nat.le_trans (List.length_filter_le _ _) (List.length_take_le _ _)
   by_cases hlt : k < m
   · obtain ⟨a', c', hv', hA⟩ := HO.out
     simp only [Value.slice.injEq] at hv'
     obtain ⟨rfl, -, rfl⟩ := hv'
     obtain h0 | ⟨bb, off, rfl, hblk, hcell⟩ := hA
     · have := HM.out; omega
     have hc : wr.cell? ⟨bb, off + k, none⟩ = some (.int .i64 (O.getD k 0)) := by rw [hbel.cell hblk]; exact hcell k (by rw [HM.out]; exact hlt)
     have hsn := votes_snoc O yes k (by rw [HM.out]; exact hlt)
     obtain ⟨x, hx⟩ : ∃ x, O.getD k 0 = x := ⟨_, rfl⟩
     rw [hx] at hc hsn
     have HSn := Lib.hid hsn
     obtain ⟨V, hV⟩ : ∃ V, votes (O.take k) yes = V := ⟨_, rfl⟩
     rw [hV] at hvl
     have HV := Lib.hid hV
     have HYr := Lib.hid (HY.out.below hbel (Nat.le_refl _))
     rw [hV]
     clear hcell hx hsn hV
     go_wp2_with fail
     refine (rhas_any _ yes x wr HYr.out (by omega)).mono ?_
     rintro e w2 ⟨rfl, rfl⟩
     obtain ⟨q, hq⟩ : ∃ q, yes.contains x = q := ⟨_, rfl⟩
     have HQ := Lib.hid hq
     rw [hq]
     clear hq
     cases q
     · go_wp2
       go_roundw
       case rel => exact ⟨k + 1, by omega, by go_num, by rw [HSn.out, HV.out, if_neg (by rw [HQ.out]; decide)]; simp, hbel⟩
       case measure => simp [intOf]; omega
     · go_wp2
       go_roundw
       case rel => exact ⟨k + 1, by omega, by go_num, by rw [HSn.out, HV.out, if_pos HQ.out]; simp, hbel⟩
       case measure => simp [intOf]; omega
   · obtain rfl : k = m := by omega
     have hall : O.take k = O := by rw [← HM.out, List.take_length]
     rw [hall] at hvl ⊢
     have hD := HDf.out
     rw [HM.out] at hD
     have HD := Lib.hid hD
     clear hD
     go_wp2
     go_ret
     refine ⟨ret_bool ?_, hb.trans (hbel.mono hz)⟩
     rw [← HD.out]
     simp only [decide_eq_decide]
     omega
set_option maxHeartbeats 1000000 in
theorem ref_timeout_any (n t : Int) (w : World) (n0 : -9223372036854775808 ≤ n) (n1 : n ≤ 9223372036854775807) (t0 : -9223372036854775808 ≤ t) (t1 : t ≤ 9223372036854775807) :
   Calls Tryz.prog 55 #[.int .i64 n, .int .i64 t] w fun e w' => e = .returned (.int .i64 (tmo n t)) ∧ w = w' := by
 go_enter Tryz.func55, Tryz.ntmps55
 go_wp2
 all_goals (go_ret; exact ⟨ret_int (by unfold tmo; omega), rfl⟩)

set_option maxHeartbeats 1000000 in
theorem ref_newer_any (a b c d : Int) (w : World) :
   Calls Tryz.prog 104 #[.int .i64 a, .int .i64 b, .int .i64 c, .int .i64 d] w fun e w' => e = .returned (.bool (newer a b c d)) ∧ w = w' := by
 by_cases h1 : c < a
 · go_enter Tryz.func104, Tryz.ntmps104
   go_wp2
   go_ret
   exact ⟨ret_bool (by simp [newer, h1]), rfl⟩
 · by_cases h2 : a = c
   · subst h2
     go_enter Tryz.func104, Tryz.ntmps104
     go_wp2
     go_ret
     exact ⟨ret_bool (by simp [newer]), rfl⟩
   · go_enter Tryz.func104, Tryz.ntmps104
     go_wp2
     go_ret
     exact ⟨ret_bool (by simp [newer, h1, h2]), rfl⟩

def scanR (t c : Int) (m ts : List Int) : Nat → Int
 | 0 => c
 | k + 1 => if ts.getD k 0 = t ∧ m.length < 2 * cnt (c + 1 + k) m then c + 1 + k else scanR t c m ts k

theorem scanR_eq (t c : Int) (m ts : List Int) : scanR t c m ts ts.length = commitF t c m ts := by
 unfold commitF
 by_cases hm : m = []
 · subst hm
   rw [if_pos rfl]
   generalize ts.length = n
   induction n with
   | zero => rfl
   | succ n ih => rw [scanR, if_neg (by simp [cnt]), ih]
 · rw [if_neg hm]
   generalize ts.length = n
   induction n with
   | zero => rfl
   | succ n ih =>
     rw [scanR, scanF, ih]
     have h := most_iff m hm (c + 1 + n)
     by_cases h1 : ts.getD n 0 = t <;> by_cases h2 : c + 1 + n ≤ mostOf m
     · rw [if_pos ⟨h1, h.1 h2⟩, if_pos ⟨h2, h1⟩]
     · rw [if_neg (fun x => h2 (h.2 x.2)), if_neg (fun x => h2 x.1)]
     · rw [if_neg (fun x => h1 x.1), if_neg (fun x => h1 x.2)]
     · rw [if_neg (fun x => h1 x.1), if_neg (fun x => h1 x.2)]

set_option maxRecDepth 100000 in
set_option maxHeartbeats 2000000 in
theorem ref_commit_any (t c : Int) (m ts : List Int) (v2 v3 : Value) (w : World) (hm : IsNums .i64 w v2 m) (ht : IsNums .i64 w v3 ts) (hc0 : -2199023255552 ≤ c) (hc1 : c ≤ 2199023255552) (ml : m.length ≤ 1000) (tl : ts.length ≤ 1000) :
   Calls Tryz.prog 126 #[.int .i64 t, .int .i64 c, v2, v3] w fun e w' => e = .returned (.int .i64 (commitF t c m ts)) ∧ w = w' := by
 rw [← scanR_eq]
 obtain ⟨pm, cm, rfl, hm⟩ := hm
 obtain ⟨pt, ct, rfl, ht⟩ := ht
 have HM := Lib.hid hm
 have HT := Lib.hid ht
 clear hm ht
 go_enter Tryz.func126, Tryz.ntmps126
 go_wp2
 go_loop [9] (fun i => ∃ k : Nat, k ≤ ts.length ∧ i = .int .i64 ((k : Int) - 1) ∧ scanR t c m ts k = scanR t c m ts ts.length) (fun i => (intOf i + 1).toNat)
 case atStart => exact ⟨ts.length, Nat.le_refl _, rfl, rfl⟩
 case round =>
   obtain ⟨j, hj, rfl, hs⟩ := hrel
   rcases j with _ | j
   · rw [show (((0 : Nat) : Int) - 1) = -1 by rfl]
     have HS := Lib.hid hs
     clear hs
     go_wp2
     go_ret
     exact ⟨ret_int (by rw [← HS.out]; rfl), rfl⟩
   · rw [show (((j + 1 : Nat) : Int) - 1) = (j : Int) by omega]
     have HS := Lib.hid hs
     clear hs
     go_wp2
     go_loop [10, 11] (fun n i => ∃ k : Nat, k ≤ m.length ∧ i = .int .i64 k ∧ n = .int .i64 (cnt (c + 1 + j) (m.take k))) (fun _ i => m.length - (intOf i).toNat)
     case atStart => exact ⟨0, by omega, rfl, rfl⟩
     case round =>
       obtain ⟨k, hk, rfl, rfl⟩ := hrel
       have hcl := cnt_le (c + 1 + j) (m.take k)
       have hcl2 : (m.take k).length ≤ k := List.length_take_le _ _
       by_cases hlt2 : k < m.length
       · rcases HM.out with h0 | ⟨b, off, rfl, hblk, hcell⟩
         · omega
         have hc := hcell k (by omega)
         have hsn : cnt (c + 1 + j) (m.take (k + 1)) = cnt (c + 1 + j) (m.take k) + if c + 1 + j ≤ m.getD k 0 then 1 else 0 := by
           rw [List.take_succ_eq_append_getElem (by omega), cnt_snoc]; simp [List.getD, show k < m.length by omega]
         obtain ⟨x, hx⟩ : ∃ x, m.getD k 0 = x := ⟨_, rfl⟩
         rw [hx] at hc hsn
         have HN := Lib.hid hsn
         clear hcell hx hsn
         by_cases hge : c + 1 + j ≤ x
         · go_wp2
           go_round
           case rel => exact ⟨k + 1, by omega, by go_num, by rw [HN.out, if_pos hge]; go_num⟩
           case measure => simp [intOf]; omega
         · go_wp2
           go_round
           case rel => exact ⟨k + 1, by omega, by go_num, by rw [HN.out, if_neg hge]; rfl⟩
           case measure => simp [intOf]; omega
       · obtain rfl : k = m.length := by omega
         rw [List.take_length] at hcl ⊢
         have hst : scanR t c m ts (j + 1) = if ts.getD j 0 = t ∧ m.length < 2 * cnt (c + 1 + j) m then c + 1 + j else scanR t c m ts j := by rw [scanR]
         rw [HS.out] at hst
         generalize cnt (c + 1 + j) m = N at hcl hst ⊢
         rcases HT.out with h0 | ⟨b, off, rfl, hblk, hcell⟩
         · omega
         have hc := hcell j (by omega)
         obtain ⟨x, hx⟩ : ∃ x, ts.getD j 0 = x := ⟨_, rfl⟩
         rw [hx] at hc hst
         have HX := Lib.hid hst
         clear hcell hx hst
         by_cases hE0 : x = t
         · have hE : (x == t) = true := by rw [beq_iff_eq]; exact hE0
           have HE := Lib.hid hE0
           clear hE0
           by_cases hN : m.length < 2 * N
           · go_wp2
             go_ret
             exact ⟨ret_int (by rw [HX.out, if_pos ⟨HE.out, hN⟩]), rfl⟩
           · go_wp2
             go_round
             case rel => exact ⟨j, by omega, rfl, by rw [HX.out, if_neg (fun h => hN h.2)]⟩
             case measure => simp [intOf]
         · have hE : (x == t) = false := by rw [beq_eq_false_iff_ne]; exact hE0
           have HE := Lib.hid hE0
           clear hE0
           go_wp2
           go_round
           case rel => exact ⟨j, by omega, rfl, by rw [HX.out, if_neg (fun h => HE.out h.1)]⟩
           case measure => simp [intOf]

theorem wmostc_any (v v1 : Value) (l yes : List Int) (w : World) (hv : IsNums .i64 w v l) (hy : IsNums .i64 w v1 yes) (hl : l.length ≤ 900) (hyl : yes.length ≤ 900) :
   Calls Tryz.prog 105 #[v, v1] w fun e w' => e = .returned (.bool (mostC l yes)) ∧ Below w.heap.size w w' :=
 rmost_is v v1 l yes w hv hy hl hyl _ rfl
theorem wcommitC_any (t c : Int) (m ts : List Int) (v2 v3 : Value) (w : World) (hm : IsNums .i64 w v2 m) (ht : IsNums .i64 w v3 ts) (hc0 : -2199023255552 ≤ c) (hc1 : c ≤ 2199023255552) (ml : m.length ≤ 1000) (tl : ts.length ≤ 1000) :
   Calls Tryz.prog 126 #[.int .i64 t, .int .i64 c, v2, v3] w fun e w' => e = .returned (.int .i64 (commitC t c m ts)) ∧ w = w' := by
 rw [← commitF_eq]; exact ref_commit_any t c m ts v2 v3 w hm ht hc0 hc1 ml tl

end Go.Proofs.YtndnnlbdnjndiaaGreat.K
end
namespace Go.Proofs.YtndnnlbdnjndiaaGreat.K
open Go.ChangeShapes Go.WideShapes Go.ChangeAt Go.RowKit
set_option linter.unusedVariables false
set_option linter.unusedSimpArgs false
section
structure WIs (w : World) (R : Nat) (s : RS) (p : RP) : Prop where
 r : Blk w R 91 (raW s.x p.L (.slice p.py s.ys.length p.cy) (.slice p.pm (s.ms.map rmD).length p.cm) (.slice p.pq (s.rs.map rrD).length p.cq) s.re)
 b : Blk w p.L 98 [.int .i64 s.bi, .int .i64 s.bt, .slice p.pc s.cf.length p.cc, .slice p.pd s.bd.length p.cd, .slice p.pl (s.es.map entD).length p.cl]
 l : Rd (fun _ => True) w (.slice p.pl (s.es.map entD).length p.cl) (.l 4 (s.es.map entD))
 c : Rd (fun _ => True) w (.slice p.pc s.cf.length p.cc) (.ns .i64 s.cf)
 d : Rd (fun _ => True) w (.slice p.pd s.bd.length p.cd) (.ns .u8 s.bd)
 y : Rd (fun _ => True) w (.slice p.py s.ys.length p.cy) (.ns .i64 s.ys)
theorem rwM_is {X : Cx} {w0 w : World} {R : Nat} (s : RS) (p : RP) (m : MemOk X w0 (rwM R s p) w) : WIs w R s p :=
 ⟨(m.ok 1 _ rfl : Res.ok _ _ _ _ (.box _ _ _)).1, (m.ok 2 _ rfl : Res.ok _ _ _ _ (.box _ _ _)).1,
  (m.ok 3 _ rfl : Res.ok _ _ _ _ (.seg _ _ _ _)).1.rd (S' := fun _ => True) (fun _ _ _ => trivial) (fun _ _ => trivial),
  (m.rd (i := 4) rfl).any, (m.rd (i := 5) rfl).any, (m.rd (i := 6) rfl).any⟩
theorem WIs.now {w0 w : World} {S : Nat → Prop} {M : Mm} {R : Nat} {s : RS} {p : RP} (h : WIs w0 R s p) (m : MemOk (cx S w0) w0 M w) : WIs w R s p :=
 ⟨h.r.now m rfl, h.b.now m rfl, (h.l.now' m rfl).any, (h.c.now' m rfl).any, (h.d.now' m rfl).any, (h.y.now' m rfl).any⟩
structure WLB (bi : Int) (cf : List Int) (es : List En) : Prop where
 r : EntsR es
 q : Seq bi es
 c : canon cf = cf
abbrev WLS (s : RS) : Prop := WLB s.bi s.cf s.es
theorem canon_canon (l : List Int) : canon (canon l) = canon l := by
 refine strict_ext _ _ (canon_strict _) (canon_strict _) (fun x => ?_)
 rw [canon_mem, canon_mem]
 exact ⟨fun h => h.1, fun h => ⟨h, h.2⟩⟩
theorem othW_eq (s : RS) : canon ((confL s.cf s.es (lastS s)).filter fun x => decide (x ≠ s.x.id)) = othS s := by
 rw [canon_out]; unfold othS memS; rw [canon_canon]
theorem favW_eq (s : RS) : mostC (confL s.cf s.es (lastS s)) s.ys = favS s := by
 unfold favS memS mostC; rw [canon_canon]
theorem wwout_s (s : RS) (p0 : Option Addr) (c0 : Nat) (w0 : World) (h0 : Rd (fun _ => True) w0 (.slice p0 (confL s.cf s.es (lastS s)).length c0) (.ns .i64 (confL s.cf s.es (lastS s)))) (hb : RLS s) :
   Calls Tryz.prog 137 #[.slice p0 (confL s.cf s.es (lastS s)).length c0, .int .i64 s.x.id] w0 fun e w' => ∃ q c, e = .returned (.slice q (othS s).length c) ∧ Rd (New w0) w' (.slice q (othS s).length c) (.ns .i64 (othS s)) ∧ Below w0.heap.size w0 w' := by
 rw [← othW_eq]; exact rwithout_any (confL s.cf s.es (lastS s)) s.x.id _ _ _ h0 (confL_len _ _ _ hb.c)
theorem wmost_s (s : RS) (v v1 : Value) (w : World) (hv : IsNums .i64 w v (confL s.cf s.es (lastS s))) (hy : IsNums .i64 w v1 s.ys) (hb : RLS s) (hys : s.ys.length ≤ 900) :
   Calls Tryz.prog 105 #[v, v1] w fun e w' => e = .returned (.bool (favS s)) ∧ Below w.heap.size w w' := by
 rw [← favW_eq]; exact wmostc_any v v1 _ s.ys w hv hy (confL_len _ _ _ hb.c) hys
theorem wlast_s (R : Nat) (s : RS) (p : RP) (w0 : World) (h : WIs w0 R s p) (hb : RLS s) : Calls Tryz.prog 57 #[.pointer (some ⟨p.L, 0, none⟩)] w0 fun e w' => e = .returned (.int .i64 (lastS s)) ∧ Below w0.heap.size w0 w' := by
 have h1 := hb.b; have h2 := hb.n
 exact rlast_any p.L s.bi s.bt s.cf s.bd s.es _ _ _ _ _ _ w0 h.b h.l (by omega) (by omega)
theorem wterm_s (R : Nat) (s : RS) (p : RP) (w0 : World) (h : WIs w0 R s p) (hb : RLS s) (i : Int) : Calls Tryz.prog 58 #[.pointer (some ⟨p.L, 0, none⟩), .int .i64 i] w0 fun e w' => e = .returned (.int .i64 (termS s i)) ∧ Below w0.heap.size w0 w' := by
 have h1 := hb.b; have h2 := hb.n
 exact rterm_any p.L s.bi s.bt s.cf s.bd s.es _ _ _ _ _ _ w0 i h.b h.l (by omega) (by omega)
theorem wconf_s (R : Nat) (s : RS) (p : RP) (w0 : World) (h : WIs w0 R s p) (hb : RLS s) (hw : WLS s) (i : Int) : Calls Tryz.prog 82 #[.pointer (some ⟨p.L, 0, none⟩), .int .i64 i] w0 fun e w' => ∃ q c, e = .returned (.slice q (confL s.cf s.es i).length c) ∧ Rd (New w0) w' (.slice q (confL s.cf s.es i).length c) (.ns .i64 (confL s.cf s.es i)) ∧ Below w0.heap.size w0 w' := by
 have h1 := hb.b; have h2 := hb.n
 exact rconf_any p.L s.bi s.bt s.cf s.bd s.es _ _ _ _ _ _ w0 i h.b h.l (by omega) h.c hb.c hb.bytes hw.r
theorem wfrom_s (X : Cx) (R : Nat) (s : RS) (p : RP) (i q : Int) (w0 : World) (hb : RLS s) (hw : WLS s) (m0 : MemOk X w0 (rwM R s p) w0) :
   Calls Tryz.prog 124 #[.pointer (some ⟨p.L, 0, none⟩), .int .i64 i, .int .i64 q] w0 fun e w' => ∃ pl cl pr cr, e = .returned (.slice pr ((fromL s.bi s.es i q).map entD).length cr) ∧ MemOk X w0 ((9, .dat (.slice pr ((fromL s.bi s.es i q).map entD).length cr) (.l 4 ((fromL s.bi s.es i q).map entD))) :: rwM R s { p with pl := pl, cl := cl }) w' := by
 have h2 := hb.n
 have e : fromL s.bi s.es i q = rfr s.es i q s.es.length := by
   have := rfr_seq hw.q (i := i) (q := q) s.es.length (Nat.le_refl _)
   rw [List.take_length] at this; exact this.symm
 rw [e]
 refine (rfrom_fr _ p.L s.bi s.bt s.cf s.bd s.es p.pc p.pd p.pl p.cc p.cd p.cl i q w0 (by omega) (m0.into [(1, 2), (2, 3), (3, 4), (4, 5)] (by decide) rfl)).mono ?_
 rintro e w' ⟨pl, cl, pr, cr, rfl, hm⟩
 have mb := m0.back hm [(2, 1), (3, 2), (4, 3), (5, 4), (9, 5)] (by decide)
 exact ⟨pl, cl, pr, cr, rfl, mb.only [9, 1, 2, 3, 4, 5, 6, 7, 8]⟩
set_option maxRecDepth 100000
set_option maxHeartbeats 4000000
theorem wrconf_s (R : Nat) (s : RS) (p : RP) (w0 : World) (h : WIs w0 R s p) (hb : RLS s) (hw : WLS s) :
   Calls Tryz.prog 43 #[.pointer (some ⟨R, 0, none⟩)] w0 fun e w' => ∃ q c, e = .returned (.slice q (confL s.cf s.es (lastS s)).length c) ∧ Rd (New w0) w' (.slice q (confL s.cf s.es (lastS s)).length c) (.ns .i64 (confL s.cf s.es (lastS s))) ∧ Below w0.heap.size w0 w' := by
 refine enter (fn := Tryz.f43) Tryz.func43 rfl Tryz.ntmps43 rfl (fun Az Hz => ?_)
 simp only [List.zipIdx_cons, List.zipIdx_nil, List.map_cons, List.map_nil, Nat.reduceAdd, Nat.zero_add] at Hz
 have m0 := MemOk.start (fun _ => False) w0
 have hR := h.r
 have hY := h.y
 have hB := h.b
 refine regS Hz (.assign rfl <| .nil) ?_
 clear Hz Az; intro Az Hz
 refine wp_seq_k (fun K0 hK0 => ?_)
 have m2 : MemOk _ _ [] _ := m0.only []; clear m0
 refine region_p 11 (B := []) (m2.to trivial) m2 (by kernel_rfl) (fun w3 hP3 m3 => ?_); clear m2
 refine goR hP3 [0, 1, 2, 3, 4, 5, 6, 7] [3, 7] 8 0 255 Hz (m3.to trivial) (.move rfl <| .nilCheck rfl <| .fieldAddr (off := 4) rfl Tryz.underlying91 rfl (s := 0) (by kernel_rfl) rfl <| .loadX1 (fun _ h_ => (hR.now h_ rfl)) rfl rfl Tryz.underlying88 rfl <| .move rfl <| .nilCheck rfl <| .fieldAddr (off := 4) rfl Tryz.underlying91 rfl (s := 0) (by kernel_rfl) rfl <| .loadX1 (fun _ h_ => (hR.now h_ rfl)) rfl rfl Tryz.underlying88 rfl <| .nil) ?_
 clear Hz Az; intro Az Hz
 refine stepE_only 8 rfl (by kernel_rfl) rfl (fun K hK => ?_)
 refine e_call Hz Tryz.func57 rfl rfl rfl rfl (wlast_s R s p _ (h.now m3) hb) ?_
 rintro e w12 ⟨rfl, hb12⟩
 have m13 := m3.later hb12
 clear m3
 clear hb12
 refine ⟨_, rfl, ?_⟩; clear Hz Az; intro Az Hz
 refine hK _ _ (m13.to trivial) ?_; clear hK K
 refine stepE_only 9 rfl (by kernel_rfl) rfl (fun K hK => ?_)
 refine e_call Hz Tryz.func82 rfl rfl rfl rfl (wconf_s R s p _ (h.now m13) hb hw _) ?_
 rintro e w15 ⟨p15, c15, rfl, hd15, hb15⟩
 have m16 := m13.callF 20 rfl hb15 hd15
 clear m13
 clear hb15 hd15
 refine ⟨_, rfl, ?_⟩; clear Hz Az; intro Az Hz
 refine hK _ _ (m16.to trivial) ?_; clear hK K
 refine goA hP3 [10] 1 1023 2047 Hz (m16.to trivial) (.assign rfl <| .nil) ?_
 clear Hz Az; intro Az Hz
 refine wpAnyE_done (by kernel_rfl) ?_ _
 refine hK0 _ _ ?_; clear hK0; try clear K0
 refine wp_ret ?_
 try dsimp only [Exit.then, Exit.inBlock]
 refine (ret1 (fn := Tryz.f43) Hz rfl rfl ?_)
 exact ⟨_, _, rfl, m16.outF (i := 20) rfl, m16.below⟩
theorem wothers_s (R : Nat) (s : RS) (p : RP) (w0 : World) (h : WIs w0 R s p) (hb : RLS s) (hw : WLS s) :
   Calls Tryz.prog 93 #[.pointer (some ⟨R, 0, none⟩)] w0 fun e w' => ∃ q c, e = .returned (.slice q (othS s).length c) ∧ Rd (New w0) w' (.slice q (othS s).length c) (.ns .i64 (othS s)) ∧ Below w0.heap.size w0 w' := by
 refine enter (fn := Tryz.f93) Tryz.func93 rfl Tryz.ntmps93 rfl (fun Az Hz => ?_)
 simp only [List.zipIdx_cons, List.zipIdx_nil, List.map_cons, List.map_nil, Nat.reduceAdd, Nat.zero_add] at Hz
 have m0 := MemOk.start (fun _ => False) w0
 have hR := h.r
 have hY := h.y
 have hB := h.b
 refine regS Hz (.assign rfl <| .nil) ?_
 clear Hz Az; intro Az Hz
 refine wp_seq_k (fun K0 hK0 => ?_)
 have m2 : MemOk _ _ [] _ := m0.only []; clear m0
 refine region_p 8 (B := []) (m2.to trivial) m2 (by kernel_rfl) (fun w3 hP3 m3 => ?_); clear m2
 refine goR hP3 [0, 2, 3, 4, 5] [5] 5 0 61 Hz (m3.to trivial) (.move rfl <| .move rfl <| .nilCheck rfl <| .fieldAddr (off := 0) rfl Tryz.underlying91 rfl (s := 0) (by kernel_rfl) rfl <| .loadX1 (fun _ h_ => (hR.now h_ rfl)) rfl rfl Tryz.underlying3 rfl <| .nil) ?_
 clear Hz Az; intro Az Hz
 refine stepE_only 1 rfl (by kernel_rfl) rfl (fun K hK => ?_)
 refine e_call Hz Tryz.func43 rfl rfl rfl rfl (wrconf_s R s p _ (h.now m3) hb hw) ?_
 rintro e w9 ⟨p9, c9, rfl, hd9, hb9⟩
 have m10 := m3.callF 20 rfl hb9 hd9
 clear m3
 clear hb9 hd9
 refine ⟨_, rfl, ?_⟩; clear Hz Az; intro Az Hz
 refine hK _ _ (m10.to trivial) ?_; clear hK K
 refine stepE_only 6 rfl (by kernel_rfl) rfl (fun K hK => ?_)
 refine e_call Hz Tryz.func137 rfl rfl rfl rfl (wwout_s s _ _ _ (m10.rd (i := 20) rfl).any hb) ?_
 rintro e w12 ⟨p12, c12, rfl, hd12, hb12⟩
 have m13 := m10.callF 21 rfl hb12 hd12
 clear m10
 clear hb12 hd12
 refine ⟨_, rfl, ?_⟩; clear Hz Az; intro Az Hz
 refine hK _ _ (m13.to trivial) ?_; clear hK K
 refine goA hP3 [7] 1 127 255 Hz (m13.to trivial) (.assign rfl <| .nil) ?_
 clear Hz Az; intro Az Hz
 refine wpAnyE_done (by kernel_rfl) ?_ _
 refine hK0 _ _ ?_; clear hK0; try clear K0
 refine wp_ret ?_
 try dsimp only [Exit.then, Exit.inBlock]
 refine (ret1 (fn := Tryz.f93) Hz rfl rfl ?_)
 exact ⟨_, _, rfl, m13.outF (i := 21) rfl, m13.below⟩
theorem wfav_s (R : Nat) (s : RS) (p : RP) (w0 : World) (h : WIs w0 R s p) (hb : RLS s) (hw : WLS s) (hys : s.ys.length ≤ 900) :
   Calls Tryz.prog 63 #[.pointer (some ⟨R, 0, none⟩)] w0 fun e w' => e = .returned (.bool (favS s)) ∧ Below w0.heap.size w0 w' := by
 refine enter (fn := Tryz.f63) Tryz.func63 rfl Tryz.ntmps63 rfl (fun Az Hz => ?_)
 simp only [List.zipIdx_cons, List.zipIdx_nil, List.map_cons, List.map_nil, Nat.reduceAdd, Nat.zero_add] at Hz
 have m0 := MemOk.start (fun _ => False) w0
 have hR := h.r
 have hY := h.y
 have hB := h.b
 refine regS Hz (.assign rfl <| .nil) ?_
 clear Hz Az; intro Az Hz
 refine wp_seq_k (fun K0 hK0 => ?_)
 have m2 : MemOk _ _ [] _ := m0.only []; clear m0
 refine region_p 8 (B := []) (m2.to trivial) m2 (by kernel_rfl) (fun w3 hP3 m3 => ?_); clear m2
 refine goR hP3 [0, 2, 3, 4, 5] [5] 5 0 61 Hz (m3.to trivial) (.move rfl <| .move rfl <| .nilCheck rfl <| .fieldAddr (off := 9) rfl Tryz.underlying91 rfl (s := 0) (by kernel_rfl) rfl <| .loadX1 (fun _ h_ => (hR.now h_ rfl)) rfl rfl Tryz.underlying26 rfl <| .nil) ?_
 clear Hz Az; intro Az Hz
 refine stepE_only 1 rfl (by kernel_rfl) rfl (fun K hK => ?_)
 refine e_call Hz Tryz.func43 rfl rfl rfl rfl (wrconf_s R s p _ (h.now m3) hb hw) ?_
 rintro e w9 ⟨p9, c9, rfl, hd9, hb9⟩
 have m10 := m3.callF 20 rfl hb9 hd9
 clear m3
 clear hb9 hd9
 refine ⟨_, rfl, ?_⟩; clear Hz Az; intro Az Hz
 refine hK _ _ (m10.to trivial) ?_; clear hK K
 refine stepE_only 6 rfl (by kernel_rfl) rfl (fun K hK => ?_)
 refine e_call Hz Tryz.func105 rfl rfl rfl rfl (wmost_s s _ _ _ (m10.nums (i := 20) rfl) (hY.now' m10 rfl).ns_out.nums hb hys) ?_
 rintro e w12 ⟨rfl, hb12⟩
 have m13 := m10.later hb12
 clear m10
 clear hb12
 refine ⟨_, rfl, ?_⟩; clear Hz Az; intro Az Hz
 refine hK _ _ (m13.to trivial) ?_; clear hK K
 refine goA hP3 [7] 1 127 255 Hz (m13.to trivial) (.assign rfl <| .nil) ?_
 clear Hz Az; intro Az Hz
 refine wpAnyE_done (by kernel_rfl) ?_ _
 refine hK0 _ _ ?_; clear hK0; try clear K0
 refine wp_ret ?_
 try dsimp only [Exit.then, Exit.inBlock]
 refine (ret1 (fn := Tryz.f63) Hz rfl rfl ?_)
 exact ⟨rfl, m13.below⟩
end
end Go.Proofs.YtndnnlbdnjndiaaGreat.K
