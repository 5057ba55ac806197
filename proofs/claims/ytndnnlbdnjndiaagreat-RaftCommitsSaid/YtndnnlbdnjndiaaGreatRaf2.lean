/- raft: save, send. -/
import Derived.Test.YtndnnlbdnjndiaaGreatRaf1
namespace Go.Proofs.YtndnnlbdnjndiaaGreat.K
open Go.ChangeShapes Go.WideShapes Go.ChangeAt Go.RowKit
set_option linter.unusedVariables false
set_option linter.unusedSimpArgs false

theorem inf118rsa : (Tryz.prog.info? 118).map (fun i => (i.zero, i.size, i.bytes)) = some (some (.agg #[.int .i64 0, .int .i64 0, .int .i64 0, .int .i64 0, .int .i64 0, .int .i64 0, .int .i64 0, .slice none 0 0, .int .i64 0, .int .i64 0, .slice none 0 0, .slice none 0 0]), 12, 144) := by kernel_rfl
theorem sz3rsa : (Tryz.prog.info? 3).map (·.size) = some 1 := by kernel_rfl
theorem sz44rsa : (Tryz.prog.info? 44).map (·.size) = some 1 := by kernel_rfl
theorem sz118rsa : (Tryz.prog.info? 118).map (·.size) = some 12 := by kernel_rfl
theorem inf55rse : (Tryz.prog.info? 55).map (fun i => (i.zero, i.size, i.bytes)) = some (some (.agg #[.int .i64 0, .int .i64 0, .int .i64 0, .int .i64 0, .int .i64 0, .int .i64 0, .int .i64 0, .int .i64 0, .bool false, .slice none 0 0, .int .i64 0, .int .i64 0, .slice none 0 0, .slice none 0 0, .slice none 0 0, .int .i64 0, .int .i64 0, .int .i64 0, .int .i64 0]), 19, 216) := by kernel_rfl
theorem sz3rse : (Tryz.prog.info? 3).map (·.size) = some 1 := by kernel_rfl
theorem sz43rse : (Tryz.prog.info? 43).map (·.size) = some 1 := by kernel_rfl
theorem sz55rse : (Tryz.prog.info? 55).map (·.size) = some 19 := by kernel_rfl

set_option maxRecDepth 100000
set_option maxHeartbeats 4000000
theorem rsave_x (X : Cx) (R L : Nat) (x : RV) (ys ms : Value) (re : Bool) (Q : List RR) (r : RR) (pe pc pd pq : Option Addr) (ce cc cd cq : Nat) (w0 : World) (hQ : Q.length ≤ 1000000) (m0 : MemOk X w0 [(1, .box R 86 (raC x L ys ms (.slice pq (Q.map rrD).length cq) re)), (8, .seg (.slice pq (Q.map rrD).length cq) 118 12 (Q.map rrD)), (9, .dat (.slice pe r.ed.length ce) (.ns .u8 r.ed)), (10, .dat (.slice pc r.cf.length cc) (.ns .i64 r.cf)), (11, .dat (.slice pd r.bd.length cd) (.ns .u8 r.bd))] w0) :
   Calls Tryz.prog 73 #[.pointer (some ⟨R, 0, none⟩), .agg #[.int .i64 r.g, .int .i64 r.k, .int .i64 r.te, .int .i64 r.vo, .int .i64 r.ei, .int .i64 r.et, .int .i64 r.ek, .slice pe r.ed.length ce, .int .i64 r.bi, .int .i64 r.bt, .slice pc r.cf.length cc, .slice pd r.bd.length cd]] w0 fun e w' => ∃ (p' : Option Addr) (c' : Nat), e = .returned (.tuple #[]) ∧ MemOk X w0 [(1, .box R 86 (raC x L ys ms (.slice p' ((Q ++ [{ r with g := x.gr }]).map rrD).length c') re)), (8, .seg (.slice p' ((Q ++ [{ r with g := x.gr }]).map rrD).length c') 118 12 ((Q ++ [{ r with g := x.gr }]).map rrD)), (9, .dat (.slice pe r.ed.length ce) (.ns .u8 r.ed)), (10, .dat (.slice pc r.cf.length cc) (.ns .i64 r.cf)), (11, .dat (.slice pd r.bd.length cd) (.ns .u8 r.bd))] w' := by
 refine enter (fn := Tryz.f73) Tryz.func73 rfl Tryz.ntmps73 rfl (fun Az Hz => ?_)
 simp only [List.zipIdx_cons, List.zipIdx_nil, List.map_cons, List.map_nil, Nat.reduceAdd, Nat.zero_add] at Hz
 refine wp_seq_k (fun K0 hK0 => ?_)
 refine wp_region_lit ?_
 refine wpList_plain rfl (fun K hK => ?_)
 refine e_box Hz m0 30 (cs := [_, _, _, _, _, _, _, _, _, _, _, _]) rfl rfl rfl ?_
 clear Hz Az m0; intro g1 Az w2 Hz m2 hB2 hg2
 clear hB2 hg2
 refine hK _ _ ?_; clear hK K
 refine wpList_nil ?_
 refine hK0 _ _ ?_; clear hK0; try clear K0
 refine wp_seq_k (fun K1 hK1 => ?_)
 refine wp_region_lit ?_
 refine goCh Hz (.move rfl <| .nilCheck rfl <| .fieldAddr (off := 0) rfl Tryz.underlying86 rfl (s := 4) (by kernel_rfl) rfl <| .fieldAddr (off := 1) rfl Tryz.underlying81 rfl (s := 0) (by kernel_rfl) rfl <| .loadB1 m2 (i := 1) rfl rfl rfl Tryz.underlying3 rfl <| .fieldAddr (off := 0) rfl Tryz.underlying118 rfl (s := 0) (by kernel_rfl) rfl <| .nil) ?_
 clear Hz Az; intro Az Hz
 refine wpList_plain rfl (fun K hK => ?_)
 refine e_store1 Hz m2 30 rfl rfl rfl rfl rfl sz3rsa (by dsimp only [List.set] <;> rfl) ?_
 clear m2; intro w15 m15 hB15
 clear hB15
 refine hK _ _ ?_; clear hK K
 refine wpList_nil ?_
 refine hK1 _ _ ?_; clear hK1; try clear K1
 replace Hz : Has 22 [(0, _), (3, _)] Az := Hz.only [0, 3]
 have m17 : MemOk _ _ [(1, _), (8, _), (9, _), (10, _), (11, _), (30, _)] _ := m15.only [1, 8, 9, 10, 11, 30]; clear m15
 refine region_p 8 (B := [(1, _), (30, _)]) (m17.to ⟨il, il, trivial⟩) m17 (by kernel_rfl) (fun w18 hP18 m18 => ?_); clear m17
 refine goR hP18 [0, 1, 2, 3, 4, 5, 6] [5, 6] 7 0 127 Hz (m18.to ⟨il, il, trivial⟩) (.move rfl <| .move rfl <| .nilCheck rfl <| .fieldAddr (off := 26) rfl Tryz.underlying86 rfl (s := 2) (by kernel_rfl) rfl <| .fieldAddr (off := 27) rfl Tryz.underlying46 rfl (s := 0) (by kernel_rfl) rfl <| .loadB1 hh (i := 1) rfl rfl rfl Tryz.underlying44 rfl <| .loadBR hh (i := 30) rfl rfl Tryz.underlying118 rfl sz118rsa (by simp) (by dsimp only [List.drop, List.take] <;> rfl) <| .nil) ?_
 clear Hz Az; intro Az Hz
 refine stepE_only 7 rfl (by kernel_rfl) rfl (fun K hK => ?_)
 refine e_litR Hz m18 31 (mm := 12) rfl (.cons rfl rfl (.cons (.v _) (.cons (.v _) (.cons (.v _) (.cons (.v _) (.cons (.v _) (.cons (.v _) (.cons (.v _) (.cons (m18.rd (i := 9) rfl) (.cons (.v _) (.cons (.v _) (.cons (m18.rd (i := 10) rfl) (.cons (m18.rd (i := 11) rfl) .nil)))))))))))) <| .nil) Tryz.underlying44 inf118rsa rfl rfl rfl rfl rfl ?_
 clear Hz Az m18; intro g26 Az w27 Hz m27
 refine hK _ _ (m27.to ⟨il, il, trivial⟩) ?_; clear hK K
 have m29 := m27.freezeR 31 rfl; clear m27
 refine stepE_end 8 rfl (by kernel_rfl) rfl (by rfl) (fun K hK => ?_)
 refine e_appSA Hz m29 8 rfl rfl rfl (m29.rd (i := 31) rfl).cells Tryz.underlying44 inf118rsa rfl rfl (by decide) (by simp; omega) rfl ?_
 clear Hz Az m29; intro p28 c28 Az w30 Hz m30
 refine hK _ _ ?_; clear hK K
 refine goB hP18 [9, 10, 11] 3 511 4095 Hz (.nilCheck rfl <| .fieldAddr (off := 26) rfl Tryz.underlying86 rfl (s := 2) (by kernel_rfl) rfl <| .fieldAddr (off := 27) rfl Tryz.underlying46 rfl (s := 0) (by kernel_rfl) rfl <| .nil) ?_
 clear Hz Az; intro Az Hz
 refine stepE_end 12 rfl (by kernel_rfl) rfl (by rfl) (fun K hK => ?_)
 refine e_store1 Hz m30 1 rfl rfl rfl rfl rfl sz44rsa (by dsimp only [List.set] <;> rfl) ?_
 clear m30; intro w34 m34 hB34
 clear hB34
 refine hK _ _ ?_; clear hK K
 refine wpAnyE_done (by kernel_rfl) ?_ _
 try dsimp only [Exit.then]
 try refine out_here ?_
 refine (ret0 (fn := Tryz.f73) Hz rfl ?_)
 have hE : Q.map rrD ++ [rrD { r with g := x.gr }] = (Q ++ [{ r with g := x.gr }]).map rrD := by rw [List.map_append]; rfl
 have hE2 := hE
 simp only [rrD] at hE
 first | rw [hE] at m34 | skip
 exact ⟨_, _, rfl, m34.ren [(1, 1), (8, 8), (9, 9), (10, 10), (11, 11)] (by decide)⟩
theorem rsend_x (X : Cx) (R L : Nat) (x : RV) (ys rs : Value) (re : Bool) (Q : List RM) (n : Int) (r : RM) (pe pc pd pf pq : Option Addr) (ce cc cd cf cq : Nat) (w0 : World) (hQ : Q.length ≤ 1000000) (m0 : MemOk X w0 [(1, .box R 86 (raC x L ys (.slice pq (Q.map rmD).length cq) rs re)), (7, .seg (.slice pq (Q.map rmD).length cq) 55 19 (Q.map rmD)), (9, .dat (.slice pe (r.es.map entD).length ce) (.l 4 (r.es.map entD))), (10, .dat (.slice pc r.cf.length cc) (.ns .i64 r.cf)), (11, .dat (.slice pd r.bd.length cd) (.ns .u8 r.bd)), (12, .dat (.slice pf r.da.length cf) (.ns .u8 r.da))] w0) :
   Calls Tryz.prog 129 #[.pointer (some ⟨R, 0, none⟩), .int .i64 n, .agg #[.int .i64 r.k, .int .i64 r.g, .int .i64 r.f, .int .i64 r.t, .int .i64 r.te, .int .i64 r.ix, .int .i64 r.lt, .int .i64 r.co, .bool r.ok, .slice pe (r.es.map entD).length ce, .int .i64 r.bi, .int .i64 r.bt, .slice pc r.cf.length cc, .slice pd r.bd.length cd, .slice pf r.da.length cf, .int .i64 r.vo, .int .i64 r.ch, .int .i64 r.ma, .int .i64 r.fl]] w0 fun e w' => ∃ (p' : Option Addr) (c' : Nat), e = .returned (.tuple #[]) ∧ MemOk X w0 [(1, .box R 86 (raC x L ys (.slice p' ((Q ++ [{ r with g := x.gr, f := x.id, t := n }]).map rmD).length c') rs re)), (7, .seg (.slice p' ((Q ++ [{ r with g := x.gr, f := x.id, t := n }]).map rmD).length c') 55 19 ((Q ++ [{ r with g := x.gr, f := x.id, t := n }]).map rmD)), (9, .dat (.slice pe (r.es.map entD).length ce) (.l 4 (r.es.map entD))), (10, .dat (.slice pc r.cf.length cc) (.ns .i64 r.cf)), (11, .dat (.slice pd r.bd.length cd) (.ns .u8 r.bd)), (12, .dat (.slice pf r.da.length cf) (.ns .u8 r.da))] w' := by
 refine enter (fn := Tryz.f129) Tryz.func129 rfl Tryz.ntmps129 rfl (fun Az Hz => ?_)
 simp only [List.zipIdx_cons, List.zipIdx_nil, List.map_cons, List.map_nil, Nat.reduceAdd, Nat.zero_add] at Hz
 refine wp_seq_k (fun K0 hK0 => ?_)
 refine wp_region_lit ?_
 refine wpList_plain rfl (fun K hK => ?_)
 refine e_box Hz m0 30 (cs := [_, _, _, _, _, _, _, _, _, _, _, _, _, _, _, _, _, _, _]) rfl rfl rfl ?_
 clear Hz Az m0; intro g1 Az w2 Hz m2 hB2 hg2
 clear hB2 hg2
 refine hK _ _ ?_; clear hK K
 refine wpList_nil ?_
 refine hK0 _ _ ?_; clear hK0; try clear K0
 refine wp_seq_k (fun K1 hK1 => ?_)
 have hC1 : ∀ (a : Act) (w : World), (∃ (Bm : Nat), Has 32 [(0, .pointer (some ⟨R, 0, none⟩)), (5, .pointer (some ⟨Bm, 0, none⟩))] a ∧ MemOk X w0 [(1, .box R 86 (raC x L ys (.slice pq (Q.map rmD).length cq) rs re)), (7, .seg (.slice pq (Q.map rmD).length cq) 55 19 (Q.map rmD)), (9, .dat (.slice pe (r.es.map entD).length ce) (.l 4 (r.es.map entD))), (10, .dat (.slice pc r.cf.length cc) (.ns .i64 r.cf)), (11, .dat (.slice pd r.bd.length cd) (.ns .u8 r.bd)), (12, .dat (.slice pf r.da.length cf) (.ns .u8 r.da)), (20, .box Bm 55 [.int .i64 r.k, .int .i64 x.gr, .int .i64 x.id, .int .i64 n, .int .i64 r.te, .int .i64 r.ix, .int .i64 r.lt, .int .i64 r.co, .bool r.ok, .slice pe (r.es.map entD).length ce, .int .i64 r.bi, .int .i64 r.bt, .slice pc r.cf.length cc, .slice pd r.bd.length cd, .slice pf r.da.length cf, .int .i64 r.vo, .int .i64 r.ch, .int .i64 r.ma, .int .i64 r.fl])] w) → K1 a w := by
   clear Hz m2
   rintro Az w3 ⟨Bm, Hz, m3⟩
   refine hK1 _ _ ?_; clear hK1; try clear K1
   have m4 : MemOk _ _ [(1, _), (7, _), (9, _), (10, _), (11, _), (12, _), (20, _)] _ := m3.only [1, 7, 9, 10, 11, 12, 20]; clear m3
   refine region_p 8 (B := [(1, _), (20, _)]) (m4.to ⟨il, il, trivial⟩) m4 (by kernel_rfl) (fun w5 hP5 m5 => ?_); clear m4
   refine goR hP5 [0, 1, 2, 3, 4, 5, 6] [5, 6] 7 0 127 Hz (m5.to ⟨il, il, trivial⟩) (.move rfl <| .move rfl <| .nilCheck rfl <| .fieldAddr (off := 26) rfl Tryz.underlying86 rfl (s := 2) (by kernel_rfl) rfl <| .fieldAddr (off := 26) rfl Tryz.underlying46 rfl (s := 0) (by kernel_rfl) rfl <| .loadB1 hh (i := 1) rfl rfl rfl Tryz.underlying43 rfl <| .loadBR hh (i := 20) rfl rfl Tryz.underlying55 rfl sz55rse (by simp) (by dsimp only [List.drop, List.take] <;> rfl) <| .nil) ?_
   clear Hz Az; intro Az Hz
   refine stepE_only 7 rfl (by kernel_rfl) rfl (fun K hK => ?_)
   refine e_litR Hz m5 100 (mm := 19) rfl (.cons rfl rfl (.cons (.v _) (.cons (.v _) (.cons (.v _) (.cons (.v _) (.cons (.v _) (.cons (.v _) (.cons (.v _) (.cons (.v _) (.cons (.v _) (.cons (m5.rd (i := 9) rfl) (.cons (.v _) (.cons (.v _) (.cons (m5.rd (i := 10) rfl) (.cons (m5.rd (i := 11) rfl) (.cons (m5.rd (i := 12) rfl) (.cons (.v _) (.cons (.v _) (.cons (.v _) (.cons (.v _) .nil))))))))))))))))))) <| .nil) Tryz.underlying43 inf55rse rfl rfl rfl rfl rfl ?_
   clear Hz Az m5; intro g13 Az w14 Hz m14
   refine hK _ _ (m14.to ⟨il, il, trivial⟩) ?_; clear hK K
   have m16 := m14.freezeR 100 rfl; clear m14
   refine stepE_end 8 rfl (by kernel_rfl) rfl (by rfl) (fun K hK => ?_)
   refine e_appSA Hz m16 7 rfl rfl rfl (m16.rd (i := 100) rfl).cells Tryz.underlying43 inf55rse rfl rfl (by decide) (by simp; omega) rfl ?_
   clear Hz Az m16; intro p15 c15 Az w17 Hz m17
   refine hK _ _ ?_; clear hK K
   refine goB hP5 [9, 10, 11] 3 511 4095 Hz (.nilCheck rfl <| .fieldAddr (off := 26) rfl Tryz.underlying86 rfl (s := 2) (by kernel_rfl) rfl <| .fieldAddr (off := 26) rfl Tryz.underlying46 rfl (s := 0) (by kernel_rfl) rfl <| .nil) ?_
   clear Hz Az; intro Az Hz
   refine stepE_end 12 rfl (by kernel_rfl) rfl (by rfl) (fun K hK => ?_)
   refine e_store1 Hz m17 1 rfl rfl rfl rfl rfl sz43rse (by dsimp only [List.set] <;> rfl) ?_
   clear m17; intro w21 m21 hB21
   clear hB21
   refine hK _ _ ?_; clear hK K
   refine wpAnyE_done (by kernel_rfl) ?_ _
   try dsimp only [Exit.then]
   try refine out_here ?_
   refine (ret0 (fn := Tryz.f129) Hz rfl ?_)
   have hE : Q.map rmD ++ [rmD { r with g := x.gr, f := x.id, t := n }] = (Q ++ [{ r with g := x.gr, f := x.id, t := n }]).map rmD := by rw [List.map_append]; rfl
   simp only [rmD] at hE
   first | rw [hE] at m21 | skip
   exact ⟨_, _, rfl, m21.ren [(1, 1), (7, 7), (9, 9), (10, 10), (11, 11), (12, 12)] (by decide)⟩
 have m22 : MemOk _ _ [(1, _), (7, _), (9, _), (10, _), (11, _), (12, _), (30, _)] _ := m2.only [1, 7, 9, 10, 11, 12, 30]; clear m2
 refine region_p 17 (B := [(1, _)]) (m22.to ⟨il, trivial⟩) m22 (by kernel_rfl) (fun w23 hP23 m23 => ?_); clear m22
 refine goR hP23 [0, 1, 2, 3, 4, 5, 6, 7, 8, 9, 10, 11] [4, 9] 12 0 4095 Hz (m23.to ⟨il, trivial⟩) (.move rfl <| .nilCheck rfl <| .fieldAddr (off := 0) rfl Tryz.underlying86 rfl (s := 4) (by kernel_rfl) rfl <| .fieldAddr (off := 1) rfl Tryz.underlying81 rfl (s := 0) (by kernel_rfl) rfl <| .loadB1 hh (i := 1) rfl rfl rfl Tryz.underlying3 rfl <| .move rfl <| .nilCheck rfl <| .fieldAddr (off := 0) rfl Tryz.underlying86 rfl (s := 4) (by kernel_rfl) rfl <| .fieldAddr (off := 0) rfl Tryz.underlying81 rfl (s := 0) (by kernel_rfl) rfl <| .loadB1 hh (i := 1) rfl rfl rfl Tryz.underlying3 rfl <| .move rfl <| .fieldAddr (off := 1) rfl Tryz.underlying55 rfl (s := 0) (by kernel_rfl) rfl <| .nil) ?_
 clear Hz Az; intro Az Hz
 refine stepE_only 12 rfl (by kernel_rfl) rfl (fun K hK => ?_)
 refine e_store1 Hz m23 30 rfl rfl rfl rfl rfl sz3rse (by dsimp only [List.set] <;> rfl) ?_
 clear m23; intro w36 m36 hB36
 clear hB36
 refine hK _ _ (m36.to ⟨il, trivial⟩) ?_; clear hK K
 refine goA hP23 [13] 1 8191 16383 Hz (m36.to ⟨il, trivial⟩) (.fieldAddr (off := 2) rfl Tryz.underlying55 rfl (s := 0) (by kernel_rfl) rfl <| .nil) ?_
 clear Hz Az; intro Az Hz
 refine stepE_only 14 rfl (by kernel_rfl) rfl (fun K hK => ?_)
 refine e_store1 Hz m36 30 rfl rfl rfl rfl rfl sz3rse (by dsimp only [List.set] <;> rfl) ?_
 clear m36; intro w38 m38 hB38
 clear hB38
 refine hK _ _ (m38.to ⟨il, trivial⟩) ?_; clear hK K
 refine goA hP23 [15] 1 32767 65535 Hz (m38.to ⟨il, trivial⟩) (.fieldAddr (off := 3) rfl Tryz.underlying55 rfl (s := 0) (by kernel_rfl) rfl <| .nil) ?_
 clear Hz Az; intro Az Hz
 refine stepE_only 16 rfl (by kernel_rfl) rfl (fun K hK => ?_)
 refine e_store1 Hz m38 30 rfl rfl rfl rfl rfl sz3rse (by dsimp only [List.set] <;> rfl) ?_
 clear m38; intro w40 m40 hB40
 clear hB40
 refine hK _ _ (m40.to ⟨il, trivial⟩) ?_; clear hK K
 refine wpAnyE_done (by kernel_rfl) ?_ _
 show K1 _ _
 exact hC1 _ _ ⟨_, Hz.only [0, 5], m40.ren [(1, 1), (7, 7), (9, 9), (10, 10), (11, 11), (12, 12), (20, 30)] (by decide)⟩
end Go.Proofs.YtndnnlbdnjndiaaGreat.K
