/- General laws of walks. -/
import Derived.Test.YtndnnlbdnjndiaaGreatG6
import Derived.Test.YtndnnlbdnjndiaaGreatG4
import Derived.Test.YtndnnlbdnjndiaaGreatG5
import Derived.Test.YtndnnlbdnjndiaaGreatG1
import Derived.Test.YtndnnlbdnjndiaaGreatShelf
import Derived.Sort.OwnSortedInts
import Derived.Lib.SlicesCompact
namespace Go.Proofs.YtndnnlbdnjndiaaGreat.K
open Go.ChangeShapes Go.WideShapes Go.ChangeAt Go.RowKit
set_option linter.unusedVariables false
set_option linter.unusedSimpArgs false
section
theorem inf62gr : (Tryz.prog.info? 62).map (fun i => (i.zero, i.size, i.bytes)) = some (some (.agg #[.int .i64 0, .int .i64 0, .int .i64 0, .slice none 0 0]), 4, 48) := by kernel_rfl
theorem sz30gr : (Tryz.prog.info? 30).map (·.size) = some 1 := by kernel_rfl
theorem sz29re : (Tryz.prog.info? 29).map (·.size) = some 4 := by kernel_rfl
theorem sz30re : (Tryz.prog.info? 30).map (·.size) = some 1 := by kernel_rfl
theorem ps123nw : placesS Tryz.prog 123 = some [(0, 5)] := by kernel_rfl
theorem sz29nw : (Tryz.prog.info? 29).map (·.size) = some 4 := by kernel_rfl
theorem zc123nw : ((Tryz.prog.info? 123).bind (·.zero)).map (·.cells.toList) = some [.int .i64 0, .int .i64 0, .slice none 0 0, .slice none 0 0, .slice none 0 0] := by kernel_rfl

def Run (pv : Int) (ls : List (Int × Int × Int × List Int)) (k : Nat) : Prop := k ≤ ls.length ∧ (∀ j, j < k → (ls.getD j e0).1 = pv + 1 + j) ∧ (k = ls.length ∨ (k < ls.length ∧ ¬ (ls.getD k e0).1 = pv + 1 + k))
def inB (bi : Int) (es : List (Int × Int × Int × List Int)) (i : Int) : Prop := bi < i ∧ i ≤ bi + es.length
instance (bi : Int) (es : List (Int × Int × Int × List Int)) (i : Int) : Decidable (inB bi es i) := by unfold inB; infer_instance
def termL (bi bt : Int) (es : List (Int × Int × Int × List Int)) (i : Int) : Int := if i = bi then bt else if inB bi es i then (es.getD (i - bi - 1).toNat e0).2.1 else -1
def hasB (bi : Int) (es : List (Int × Int × Int × List Int)) (ix tm : Int) : Bool := decide (inB bi es ix ∧ (es.getD (ix - bi - 1).toNat e0).2.1 = tm)
def cutL (bi : Int) (es : List (Int × Int × Int × List Int)) (i : Int) : List (Int × Int × Int × List Int) := if inB bi es i then es.take (i - bi - 1).toNat else es
theorem inB_at {bi : Int} {es : List (Int × Int × Int × List Int)} {i : Int} (h : inB bi es i) : ∃ k : Nat, i = bi + 1 + k ∧ k < es.length ∧ (i - bi - 1).toNat = k ∧ es[k]? = some (es.getD k e0) := by
 unfold inB at h
 refine ⟨(i - bi - 1).toNat, by omega, by omega, rfl, ?_⟩
 have : (i - bi - 1).toNat < es.length := by omega
 rw [List.getD, List.getElem?_eq_getElem this]; rfl
theorem term_any (B : Nat) (bi bt : Int) (cf d : List Int) (es : List (Int × Int × Int × List Int)) (pc pd pl : Option Addr) (cc cd cl : Nat) (w0 : World) (i : Int) (hB : Blk w0 B 123 [.int .i64 bi, .int .i64 bt, .slice pc cf.length cc, .slice pd d.length cd, .slice pl (es.map entD).length cl]) (hl : Rd (fun _ => True) w0 (.slice pl (es.map entD).length cl) (.l 4 (es.map entD))) (hbi : -1000000000000000000 ≤ bi ∧ bi ≤ 1000000000000000000) (hn : es.length ≤ 1000000) :
   Calls Tryz.prog 113 #[.pointer (some ⟨B, 0, none⟩), .int .i64 i] w0 fun e w' => e = .returned (.int .i64 (termL bi bt es i)) ∧ Below w0.heap.size w0 w' := by
 unfold termL
 by_cases h1 : i = bi
 · subst h1; rw [if_pos rfl]; exact term_at B i bt cf d es pc pd pl cc cd cl w0 hB hl hbi hn
 · rw [if_neg h1]
   by_cases h2 : inB bi es i
   · rw [if_pos h2]
     obtain ⟨k, a1, a2, a3, a4⟩ := inB_at h2
     rw [a3]
     obtain ⟨⟨ei, et, ek, ed⟩, he⟩ : ∃ e, es.getD k e0 = e := ⟨_, rfl⟩
     rw [he] at a4 ⊢
     exact term_in B bi bt cf d es pc pd pl cc cd cl w0 k i hB hl hbi hn a4 a1
   · rw [if_neg h2]
     exact term_out B bi bt cf d es pc pd pl cc cd cl w0 i hB hl hbi hn (by unfold inB at h2; omega)
set_option maxRecDepth 100000
set_option maxHeartbeats 4000000
theorem grow_fr (X : Cx) (B : Nat) (bi bt : Int) (cf d : List Int) (es ls : List (Int × Int × Int × List Int)) (pc pd pl pa : Option Addr) (cc cd cl ca nn : Nat) (w0 : World) (hbi : -1000000000000000000 ≤ bi ∧ bi ≤ 1000000000000000000) (hn : es.length + ls.length ≤ 1000000) (hok : EntsOk ls) (m0 : MemOk X w0 [(1, .box B 123 [.int .i64 bi, .int .i64 bt, .slice pc cf.length cc, .slice pd d.length cd, .slice pl (es.map entD).length cl]), (2, .seg (.slice pl (es.map entD).length cl) 62 4 (es.map entD)), (3, .dat (.slice pc cf.length cc) (.ns .i64 cf)), (4, .dat (.slice pd d.length cd) (.ns .u8 d)), (5, .dat (.slice pa nn ca) (.l 4 (ls.map entD)))] w0) :
   Calls Tryz.prog 77 #[.pointer (some ⟨B, 0, none⟩), .slice pa nn ca] w0 fun e w' => ∃ (k : Nat) (pl' : Option Addr) (cl' : Nat), e = .returned (.tuple #[]) ∧ Run (bi + es.length) ls k ∧ MemOk X w0 [(1, .box B 123 [.int .i64 bi, .int .i64 bt, .slice pc cf.length cc, .slice pd d.length cd, .slice pl' ((es ++ ls.take k).map entD).length cl']), (2, .seg (.slice pl' ((es ++ ls.take k).map entD).length cl') 62 4 ((es ++ ls.take k).map entD)), (3, .dat (.slice pc cf.length cc) (.ns .i64 cf)), (4, .dat (.slice pd d.length cd) (.ns .u8 d))] w' := by
 refine enter (fn := Tryz.f77) Tryz.func77 rfl Tryz.ntmps77 rfl (fun Az Hz => ?_)
 simp only [List.zipIdx_cons, List.zipIdx_nil, List.map_cons, List.map_nil, Nat.reduceAdd, Nat.zero_add] at Hz
 have m1 : MemOk _ _ [(1, _), (2, _), (3, _), (4, _), (5, _)] _ := m0.only [1, 2, 3, 4, 5]; clear m0
 refine region_p 10 (B := [(1, _), (2, _), (3, _), (4, _), (5, _)]) (m1.to ⟨il, il, il, il, il, trivial⟩) m1 (by kernel_rfl) (fun w2 hP2 m2 => ?_); clear m1
 refine goR hP2 [0, 1, 2, 3, 4, 5, 7] [4] 7 0 191 Hz (m2.to ⟨il, il, il, il, il, trivial⟩) (.move rfl <| .move rfl <| .nilCheck rfl <| .fieldAddr (off := 4) rfl Tryz.underlying121 rfl (s := 0) (by kernel_rfl) rfl <| .loadB1 hh (i := 1) rfl rfl rfl Tryz.underlying30 rfl <| .move rfl <| .move rfl <| .nil) ?_
 clear Hz Az; intro Az Hz
 refine stepE_only 6 rfl (by kernel_rfl) rfl (fun K hK => ?_)
 refine e_call Hz Tryz.func75 rfl rfl rfl rfl (last_any _ _ _ _ _ _ _ _ _ (m2.ok 1 _ rfl : Res.ok _ _ _ _ (.box _ _ _)).1 (by omega) (by first | omega | (simp; omega) | simp)) ?_
 rintro e w10 ⟨rfl, hb10⟩
 have m11 := m2.later hb10
 clear m2
 clear hb10
 refine ⟨_, rfl, ?_⟩; clear Hz Az; intro Az Hz
 refine hK _ _ (m11.to ⟨il, il, il, il, il, trivial⟩) ?_; clear hK K
 refine stepE_only 8 rfl (by kernel_rfl) rfl (fun K hK => ?_)
 refine e_call Hz Tryz.func123 rfl rfl rfl rfl (run_any _ ls _ _ _ _ (m11.rd (i := 5) rfl).any (by omega) (by first | omega | (simp; omega))) ?_
 rintro e w14 ⟨k, rfl, hk1, hk2, hk3, hb14⟩
 try rw [List.length_map] at hk2 hk3
 have m15 := m11.later hb14
 clear m11
 have m16 := m15.takeR (i := 5) rfl k (by simp; omega) 6 rfl
 clear m15
 rw [← List.map_take] at m16
 clear hb14
 refine ⟨_, rfl, ?_⟩; clear Hz Az; intro Az Hz
 refine hK _ _ (m16.to ⟨il, il, il, il, il, trivial⟩) ?_; clear hK K
 refine stepE_only 9 rfl (by kernel_rfl) rfl (fun K hK => ?_)
 refine e_call Hz Tryz.func118 rfl rfl rfl rfl (list_any (ls.take k) _ _ _ _ ((m16.rd (i := 6) rfl).any) (by simp; omega) (fun e he => hok e (List.mem_of_mem_take he))) ?_
 rintro e w18 ⟨p18, c18, rfl, hd18, hb18⟩
 have m19 := m16.callF 7 rfl hb18 hd18
 clear m16
 clear hb18 hd18
 refine ⟨_, rfl, ?_⟩; clear Hz Az; intro Az Hz
 refine hK _ _ (m19.to ⟨il, il, il, il, il, trivial⟩) ?_; clear hK K
 refine stepE_end 10 rfl (by kernel_rfl) rfl (by rfl) (fun K hK => ?_)
 refine e_appSA Hz m19 2 rfl rfl rfl (m19.rd (i := 7) rfl).cells Tryz.underlying30 inf62gr rfl rfl (by decide) (by simp; omega) rfl ?_
 clear Hz Az m19; intro p21 c21 Az w22 Hz m22
 refine hK _ _ ?_; clear hK K
 refine goB hP2 [11, 12] 2 2047 8191 Hz (.nilCheck rfl <| .fieldAddr (off := 4) rfl Tryz.underlying121 rfl (s := 0) (by kernel_rfl) rfl <| .nil) ?_
 clear Hz Az; intro Az Hz
 refine stepE_end 13 rfl (by kernel_rfl) rfl (by rfl) (fun K hK => ?_)
 refine e_store1 Hz m22 1 rfl rfl rfl rfl rfl sz30gr (by dsimp only [List.set] <;> rfl) ?_
 clear m22; intro w25 m25 hB25
 clear hB25
 refine hK _ _ ?_; clear hK K
 refine wpAnyE_done (by kernel_rfl) ?_ _
 try dsimp only [Exit.then]
 try refine out_here ?_
 refine (ret0 (fn := Tryz.f77) Hz rfl ?_)
 rw [← List.map_append] at m25
 exact ⟨k, _, _, rfl, ⟨hk1, hk2, hk3⟩, m25.only [1, 2, 3, 4]⟩
theorem reset_fr (X : Cx) (B : Nat) (x0 x1 x2 x3 x4 : Value) (w0 : World) (bi bt : Int) (cf d : List Int) (pc pd : Option Addr) (cc cd : Nat) (hcf : cf.length ≤ 1000000) (hdl : d.length ≤ 140737488351232) (m0 : MemOk X w0 [(1, .box B 123 [x0, x1, x2, x3, x4]), (5, .dat (.slice pc cf.length cc) (.ns .i64 cf)), (6, .dat (.slice pd d.length cd) (.ns .u8 d))] w0) :
   Calls Tryz.prog 76 #[.pointer (some ⟨B, 0, none⟩), .agg #[.int .i64 bi, .int .i64 bt, .slice pc cf.length cc, .slice pd d.length cd]] w0 fun e w' => ∃ (pc' : Option Addr) (cc' : Nat) (pd' : Option Addr) (cd' : Nat), e = .returned (.tuple #[]) ∧ MemOk X w0 [(1, .box B 123 [.int .i64 bi, .int .i64 bt, .slice pc' cf.length cc', .slice pd' d.length cd', .slice none (([] : List (Int × Int × Int × List Int)).map entD).length 0]), (2, .seg (.slice none (([] : List (Int × Int × Int × List Int)).map entD).length 0) 62 4 (([] : List (Int × Int × Int × List Int)).map entD)), (3, .dat (.slice pc' cf.length cc') (.ns .i64 cf)), (4, .dat (.slice pd' d.length cd') (.ns .u8 d))] w' := by
 refine enter (fn := Tryz.f76) Tryz.func76 rfl Tryz.ntmps76 rfl (fun Az Hz => ?_)
 simp only [List.zipIdx_cons, List.zipIdx_nil, List.map_cons, List.map_nil, Nat.reduceAdd, Nat.zero_add] at Hz
 refine wp_seq_k (fun K0 hK0 => ?_)
 refine wp_region_lit ?_
 refine wpList_plain rfl (fun K hK => ?_)
 refine e_box Hz m0 7 (cs := [_, _, _, _]) rfl rfl rfl ?_
 clear Hz Az m0; intro g1 Az w2 Hz m2 hB2 hg2
 clear hB2 hg2
 refine hK _ _ ?_; clear hK K
 refine wpList_nil ?_
 refine hK0 _ _ ?_; clear hK0; try clear K0
 refine wp_region_lit ?_
 refine goCh Hz (.move rfl <| .move rfl <| .loadBR m2 (i := 7) rfl rfl Tryz.underlying29 rfl sz29re (by simp) (by dsimp only [List.drop, List.take] <;> rfl) <| .nil) ?_
 clear Hz Az; intro Az Hz
 refine wpList_plain rfl (fun K hK => ?_)
 refine e_call Hz Tryz.func81 rfl rfl rfl rfl (base_any _ _ cf d _ _ _ _ _ ((m2.rd (i := 5) rfl).any) ((m2.rd (i := 6) rfl).any) hcf hdl) ?_
 rintro e w6 ⟨p6, c6, q6, b6, rfl, hc6, hd6, hb6⟩
 have m7 := m2.callFF 8 9 rfl rfl hb6 hc6 hd6
 clear m2
 clear hb6 hc6 hd6
 refine ⟨_, rfl, ?_⟩; clear Hz Az; intro Az Hz
 refine hK _ _ ?_; clear hK K
 refine goCh Hz (.nilCheck rfl <| .fieldAddr (off := 0) rfl Tryz.underlying123 rfl (s := 4) (by kernel_rfl) rfl <| .fieldAddr (off := 0) rfl Tryz.underlying121 rfl (s := 3) (by kernel_rfl) rfl <| .nil) ?_
 clear Hz Az; intro Az Hz
 refine wpList_plain rfl (fun K hK => ?_)
 refine e_storeR Hz m7 1 rfl rfl rfl rfl rfl sz29re (by dsimp only [List.take, List.drop, List.append_eq, List.append] <;> rfl) ?_
 clear m7; intro w12 m12 hB12
 clear hB12
 refine hK _ _ ?_; clear hK K
 refine goCh Hz (.nilCheck rfl <| .fieldAddr (off := 0) rfl Tryz.underlying123 rfl (s := 4) (by kernel_rfl) rfl <| .fieldAddr (off := 4) rfl Tryz.underlying121 rfl (s := 0) (by kernel_rfl) rfl <| .nil) ?_
 clear Hz Az; intro Az Hz
 refine wpList_plain rfl (fun K hK => ?_)
 refine e_store1 Hz m12 1 rfl rfl rfl rfl rfl sz30re (by dsimp only [List.set] <;> rfl) ?_
 clear m12; intro w16 m16 hB16
 clear hB16
 refine hK _ _ ?_; clear hK K
 refine wpList_nil ?_
 try dsimp only [Exit.then]
 try refine out_here ?_
 refine (ret0 (fn := Tryz.f76) Hz rfl ?_)
 have m17 := m16.nilS 2 62 4; clear m16
 exact ⟨_, _, _, _, rfl, m17.ren [(1, 1), (2, 2), (3, 8), (4, 9)] (by decide)⟩
theorem new_fr (X : Cx) (bi bt : Int) (cf d : List Int) (ls : List (Int × Int × Int × List Int)) (pc pd pa : Option Addr) (cc cd ca nn : Nat) (w0 : World) (hbi : -1000000000000000000 ≤ bi ∧ bi ≤ 1000000000000000000) (hcf : cf.length ≤ 1000000) (hdl : d.length ≤ 140737488351232) (hn : ls.length ≤ 1000000) (hok : EntsOk ls) (m0 : MemOk X w0 [(5, .dat (.slice pc cf.length cc) (.ns .i64 cf)), (6, .dat (.slice pd d.length cd) (.ns .u8 d)), (7, .dat (.slice pa nn ca) (.l 4 (ls.map entD)))] w0) :
   Calls Tryz.prog 36 #[.agg #[.int .i64 bi, .int .i64 bt, .slice pc cf.length cc, .slice pd d.length cd], .slice pa nn ca] w0 fun e w' => ∃ (B k : Nat) (pc' : Option Addr) (cc' : Nat) (pd' : Option Addr) (cd' : Nat) (pl' : Option Addr) (cl' : Nat), e = .returned (.pointer (some ⟨B, 0, none⟩)) ∧ Run bi ls k ∧ MemOk X w0 [(1, .box B 123 [.int .i64 bi, .int .i64 bt, .slice pc' cf.length cc', .slice pd' d.length cd', .slice pl' ((ls.take k).map entD).length cl']), (2, .seg (.slice pl' ((ls.take k).map entD).length cl') 62 4 ((ls.take k).map entD)), (3, .dat (.slice pc' cf.length cc') (.ns .i64 cf)), (4, .dat (.slice pd' d.length cd') (.ns .u8 d))] w' := by
 refine enter (fn := Tryz.f36) Tryz.func36 rfl Tryz.ntmps36 rfl (fun Az Hz => ?_)
 simp only [List.zipIdx_cons, List.zipIdx_nil, List.map_cons, List.map_nil, Nat.reduceAdd, Nat.zero_add] at Hz
 refine wp_seq_k (fun K0 hK0 => ?_)
 refine wp_region_lit ?_
 refine wpList_plain rfl (fun K hK => ?_)
 refine e_box Hz m0 8 (cs := [_, _, _, _]) rfl rfl rfl ?_
 clear Hz Az m0; intro g1 Az w2 Hz m2 hB2 hg2
 clear hB2 hg2
 refine hK _ _ ?_; clear hK K
 refine goCh Hz (.assign rfl .nil) ?_
 clear Hz Az; intro Az Hz
 refine wpList_nil ?_
 refine hK0 _ _ ?_; clear hK0; try clear K0
 refine wp_seq_k (fun K1 hK1 => ?_)
 refine wp_region_lit ?_
 refine goCh Hz (.buildG rfl zc123nw ps123nw rfl .nil) ?_
 clear Hz Az; intro Az Hz
 refine wpList_plain rfl (fun K hK => ?_)
 refine e_box Hz m2 9 (cs := [_, _, _, _, _]) rfl rfl rfl ?_
 clear Hz Az m2; intro g6 Az w7 Hz m7 hB7 hg7
 clear hB7 hg7
 refine hK _ _ ?_; clear hK K
 refine goCh Hz (.assign rfl .nil) ?_
 clear Hz Az; intro Az Hz
 refine wpList_nil ?_
 refine hK1 _ _ ?_; clear hK1; try clear K1
 refine wp_seq_k (fun K2 hK2 => ?_)
 refine wp_region_lit ?_
 refine goCh Hz (.move rfl <| .loadBR m7 (i := 8) rfl rfl Tryz.underlying29 rfl sz29nw (by simp) (by dsimp only [List.drop, List.take] <;> rfl) <| .nil) ?_
 clear Hz Az; intro Az Hz
 refine wpList_plain rfl (fun K hK => ?_)
 refine e_call Hz Tryz.func76 rfl rfl rfl rfl (reset_fr _ _ _ _ _ _ _ _ bi bt cf d _ _ _ _ hcf hdl (m7.into [(1, 9), (5, 5), (6, 6)] (by decide) rfl)) ?_
 rintro e w13 ⟨pc13, cc13, pd13, cd13, rfl, hm13⟩
 have mx13 := m7.back hm13 [(11, 1), (12, 2), (13, 3), (14, 4)] (by decide); clear hm13 m7
 have m13 : MemOk _ _ [(11, _), (12, _), (13, _), (14, _), (7, _), (8, _)] _ := mx13.only [11, 12, 13, 14, 7, 8]; clear mx13
 refine ⟨_, rfl, ?_⟩; clear Hz Az; intro Az Hz
 refine hK _ _ ?_; clear hK K
 refine wpList_nil ?_
 refine hK2 _ _ ?_; clear hK2; try clear K2
 replace Hz : Has 17 [(1, _), (4, _), (5, _)] Az := Hz.only [1, 4, 5]
 refine wp_seq_k (fun K3 hK3 => ?_)
 refine wp_region_lit ?_
 refine goCh Hz (.move rfl <| .nilCheck rfl <| .fieldAddr (off := 0) rfl Tryz.underlying123 rfl (s := 4) (by kernel_rfl) rfl <| .move rfl <| .nil) ?_
 clear Hz Az; intro Az Hz
 refine wpList_plain rfl (fun K hK => ?_)
 refine e_call Hz Tryz.func77 rfl rfl rfl rfl (grow_fr _ _ _ _ cf d [] ls _ _ _ _ _ _ _ _ _ _ (by omega) (by simp; omega) hok (m13.into [(1, 11), (2, 12), (3, 13), (4, 14), (5, 7)] (by decide) rfl)) ?_
 rintro e w24 ⟨k, pl24, cl24, rfl, hrun, hm24⟩
 have mx24 := m13.back hm24 [(11, 1), (12, 2), (13, 3), (14, 4)] (by decide); clear hm24 m13
 have m24 : MemOk _ _ [(11, _), (12, _), (13, _), (14, _), (8, _)] _ := mx24.only [11, 12, 13, 14, 8]; clear mx24
 refine ⟨_, rfl, ?_⟩; clear Hz Az; intro Az Hz
 refine hK _ _ ?_; clear hK K
 refine wpList_nil ?_
 refine hK3 _ _ ?_; clear hK3; try clear K3
 replace Hz : Has 17 [(4, _), (5, _)] Az := Hz.only [4, 5]
 refine regS Hz (.move rfl <| .assign rfl <| .nil) ?_
 clear Hz Az; intro Az Hz
 refine wp_ret ?_
 try dsimp only [Exit.then, Exit.inBlock]
 refine (ret1 (fn := Tryz.f36) Hz rfl rfl ?_)
 rw [List.nil_append] at m24
 simp only [List.length_nil, Int.natCast_zero, Int.add_zero] at hrun
 exact ⟨_, k, _, _, _, _, _, _, rfl, hrun, m24.ren [(1, 11), (2, 12), (3, 13), (4, 14)] (by decide)⟩
end
section
structure RV where
 id : Int
 gr : Int
 te : Int
 vo : Int
 be : Int
 n0 : Int
 n1 : Int
 n2 : Int
 n3 : Int
 n4 : Int
 n5 : Int
 n6 : Int
 m0 : Int
 m1 : Int
 m2 : Int
 m3 : Int
 m4 : Int
 m5 : Int
 m6 : Int
 ro : Int
 le : Int
 co : Int
 ap : Int
 si : Int
abbrev raC (x : RV) (L : Nat) (ys ms rs : Value) (re : Bool) : List Value :=
 [.int .i64 x.id, .int .i64 x.gr, .int .i64 x.te, .int .i64 x.vo, .pointer (some ⟨L, 0, none⟩), .int .i64 x.be,
  .int .i64 x.n0, .int .i64 x.n1, .int .i64 x.n2, .int .i64 x.n3, .int .i64 x.n4, .int .i64 x.n5, .int .i64 x.n6,
  .int .i64 x.m0, .int .i64 x.m1, .int .i64 x.m2, .int .i64 x.m3, .int .i64 x.m4, .int .i64 x.m5, .int .i64 x.m6,
  .int .i64 x.ro, .int .i64 x.le, .int .i64 x.co, .int .i64 x.ap, .int .i64 x.si, ys, ms, rs, .bool re]
abbrev En := Int × Int × Int × List Int
structure RM where
 k : Int
 g : Int
 f : Int
 t : Int
 te : Int
 ix : Int
 lt : Int
 co : Int
 ok : Bool
 es : List En
 bi : Int
 bt : Int
 cf : List Int
 bd : List Int
 da : List Int
 vo : Int
 ch : Int
 ma : Int
 fl : Int
def rmD (m : RM) : List D :=
 [.v (.int .i64 m.k), .v (.int .i64 m.g), .v (.int .i64 m.f), .v (.int .i64 m.t), .v (.int .i64 m.te), .v (.int .i64 m.ix), .v (.int .i64 m.lt), .v (.int .i64 m.co), .v (.bool m.ok),
  .l 4 (m.es.map entD), .v (.int .i64 m.bi), .v (.int .i64 m.bt), .ns .i64 m.cf, .ns .u8 m.bd, .ns .u8 m.da, .v (.int .i64 m.vo), .v (.int .i64 m.ch), .v (.int .i64 m.ma), .v (.int .i64 m.fl)]
structure RR where
 g : Int
 k : Int
 te : Int
 vo : Int
 ei : Int
 et : Int
 ek : Int
 ed : List Int
 bi : Int
 bt : Int
 cf : List Int
 bd : List Int
def rrD (r : RR) : List D :=
 [.v (.int .i64 r.g), .v (.int .i64 r.k), .v (.int .i64 r.te), .v (.int .i64 r.vo), .v (.int .i64 r.ei), .v (.int .i64 r.et), .v (.int .i64 r.ek), .ns .u8 r.ed, .v (.int .i64 r.bi), .v (.int .i64 r.bt), .ns .i64 r.cf, .ns .u8 r.bd]
end
section
theorem inf3rru : (Tryz.prog.info? 3).map (fun i => (i.zero, i.size, i.bytes)) = some (some (.int .i64 0), 1, 8) := by kernel_rfl
theorem sz3rru : (Tryz.prog.info? 3).map (·.size) = some 1 := by kernel_rfl
theorem sz26rru : (Tryz.prog.info? 26).map (·.size) = some 1 := by kernel_rfl
theorem fl46rta : flatS Tryz.prog 46 [.slice none 0 0, .slice none 0 0, .bool false] = true := by kernel_rfl
theorem sz46rta : (Tryz.prog.info? 46).map (·.size) = some 3 := by kernel_rfl
theorem zc46rta : ((Tryz.prog.info? 46).bind (·.zero)).map (·.cells.toList) = some [.slice none 0 0, .slice none 0 0, .bool false] := by kernel_rfl

set_option maxRecDepth 100000
set_option maxHeartbeats 4000000
theorem rrole_x (X : Cx) (R L : Nat) (x : RV) (py pm pq : Option Addr) (ny nm nq cy cm cq : Nat) (re : Bool) (w0 : World) (m0 : MemOk X w0 [(1, .box R 86 (raC x L (.slice py ny cy) (.slice pm nm cm) (.slice pq nq cq) re))] w0) :
   Calls Tryz.prog 29 #[.pointer (some ⟨R, 0, none⟩)] w0 fun e w' => e = .returned (.int .i64 x.ro) ∧ MemOk X w0 [(1, .box R 86 (raC x L (.slice py ny cy) (.slice pm nm cm) (.slice pq nq cq) re))] w' := by
 refine enter (fn := Tryz.f29) Tryz.func29 rfl Tryz.ntmps29 rfl (fun Az Hz => ?_)
 simp only [List.zipIdx_cons, List.zipIdx_nil, List.map_cons, List.map_nil, Nat.reduceAdd, Nat.zero_add] at Hz
 refine regS Hz (.assign rfl <| .nil) ?_
 clear Hz Az; intro Az Hz
 refine regS Hz (.move rfl <| .nilCheck rfl <| .fieldAddr (off := 20) rfl Tryz.underlying86 rfl (s := 0) (by kernel_rfl) rfl <| .loadB1 m0 (i := 1) rfl rfl rfl Tryz.underlying3 rfl <| .assign rfl <| .nil) ?_
 clear Hz Az; intro Az Hz
 refine wp_ret ?_
 try dsimp only [Exit.then, Exit.inBlock]
 refine (ret1 (fn := Tryz.f29) Hz rfl rfl ?_)
 exact ⟨rfl, m0.only [1]⟩
theorem rterm_x (X : Cx) (R L : Nat) (x : RV) (py pm pq : Option Addr) (ny nm nq cy cm cq : Nat) (re : Bool) (w0 : World) (m0 : MemOk X w0 [(1, .box R 86 (raC x L (.slice py ny cy) (.slice pm nm cm) (.slice pq nq cq) re))] w0) :
   Calls Tryz.prog 30 #[.pointer (some ⟨R, 0, none⟩)] w0 fun e w' => e = .returned (.int .i64 x.te) ∧ MemOk X w0 [(1, .box R 86 (raC x L (.slice py ny cy) (.slice pm nm cm) (.slice pq nq cq) re))] w' := by
 refine enter (fn := Tryz.f30) Tryz.func30 rfl Tryz.ntmps30 rfl (fun Az Hz => ?_)
 simp only [List.zipIdx_cons, List.zipIdx_nil, List.map_cons, List.map_nil, Nat.reduceAdd, Nat.zero_add] at Hz
 refine regS Hz (.assign rfl <| .nil) ?_
 clear Hz Az; intro Az Hz
 refine regS Hz (.move rfl <| .nilCheck rfl <| .fieldAddr (off := 0) rfl Tryz.underlying86 rfl (s := 4) (by kernel_rfl) rfl <| .fieldAddr (off := 2) rfl Tryz.underlying81 rfl (s := 1) (by kernel_rfl) rfl <| .fieldAddr (off := 2) rfl Tryz.underlying25 rfl (s := 0) (by kernel_rfl) rfl <| .loadB1 m0 (i := 1) rfl rfl rfl Tryz.underlying3 rfl <| .assign rfl <| .nil) ?_
 clear Hz Az; intro Az Hz
 refine wp_ret ?_
 try dsimp only [Exit.then, Exit.inBlock]
 refine (ret1 (fn := Tryz.f30) Hz rfl rfl ?_)
 exact ⟨rfl, m0.only [1]⟩
theorem rlead_x (X : Cx) (R L : Nat) (x : RV) (py pm pq : Option Addr) (ny nm nq cy cm cq : Nat) (re : Bool) (w0 : World) (m0 : MemOk X w0 [(1, .box R 86 (raC x L (.slice py ny cy) (.slice pm nm cm) (.slice pq nq cq) re))] w0) :
   Calls Tryz.prog 33 #[.pointer (some ⟨R, 0, none⟩)] w0 fun e w' => e = .returned (.int .i64 x.le) ∧ MemOk X w0 [(1, .box R 86 (raC x L (.slice py ny cy) (.slice pm nm cm) (.slice pq nq cq) re))] w' := by
 refine enter (fn := Tryz.f33) Tryz.func33 rfl Tryz.ntmps33 rfl (fun Az Hz => ?_)
 simp only [List.zipIdx_cons, List.zipIdx_nil, List.map_cons, List.map_nil, Nat.reduceAdd, Nat.zero_add] at Hz
 refine regS Hz (.assign rfl <| .nil) ?_
 clear Hz Az; intro Az Hz
 refine regS Hz (.move rfl <| .nilCheck rfl <| .fieldAddr (off := 21) rfl Tryz.underlying86 rfl (s := 0) (by kernel_rfl) rfl <| .loadB1 m0 (i := 1) rfl rfl rfl Tryz.underlying3 rfl <| .assign rfl <| .nil) ?_
 clear Hz Az; intro Az Hz
 refine wp_ret ?_
 try dsimp only [Exit.then, Exit.inBlock]
 refine (ret1 (fn := Tryz.f33) Hz rfl rfl ?_)
 exact ⟨rfl, m0.only [1]⟩
theorem rcommit_x (X : Cx) (R L : Nat) (x : RV) (py pm pq : Option Addr) (ny nm nq cy cm cq : Nat) (re : Bool) (w0 : World) (m0 : MemOk X w0 [(1, .box R 86 (raC x L (.slice py ny cy) (.slice pm nm cm) (.slice pq nq cq) re))] w0) :
   Calls Tryz.prog 26 #[.pointer (some ⟨R, 0, none⟩)] w0 fun e w' => e = .returned (.int .i64 x.co) ∧ MemOk X w0 [(1, .box R 86 (raC x L (.slice py ny cy) (.slice pm nm cm) (.slice pq nq cq) re))] w' := by
 refine enter (fn := Tryz.f26) Tryz.func26 rfl Tryz.ntmps26 rfl (fun Az Hz => ?_)
 simp only [List.zipIdx_cons, List.zipIdx_nil, List.map_cons, List.map_nil, Nat.reduceAdd, Nat.zero_add] at Hz
 refine regS Hz (.assign rfl <| .nil) ?_
 clear Hz Az; intro Az Hz
 refine regS Hz (.move rfl <| .nilCheck rfl <| .fieldAddr (off := 22) rfl Tryz.underlying86 rfl (s := 0) (by kernel_rfl) rfl <| .loadB1 m0 (i := 1) rfl rfl rfl Tryz.underlying3 rfl <| .assign rfl <| .nil) ?_
 clear Hz Az; intro Az Hz
 refine wp_ret ?_
 try dsimp only [Exit.then, Exit.inBlock]
 refine (ret1 (fn := Tryz.f26) Hz rfl rfl ?_)
 exact ⟨rfl, m0.only [1]⟩
theorem rrun_x (X : Cx) (R L : Nat) (x : RV) (py pm pq : Option Addr) (ny nm nq cy cm cq : Nat) (re : Bool) (w0 : World) (ro : Int) (m0 : MemOk X w0 [(1, .box R 86 (raC x L (.slice py ny cy) (.slice pm nm cm) (.slice pq nq cq) re))] w0) :
   Calls Tryz.prog 89 #[.pointer (some ⟨R, 0, none⟩), .int .i64 ro] w0 fun e w' => ∃ (p6 : Option Addr) (c6 : Nat), e = .returned (.tuple #[]) ∧ MemOk X w0 [(1, .box R 86 (raC { x with ro := ro, le := -1 } L (.slice p6 1 c6) (.slice pm nm cm) (.slice pq nq cq) re)), (6, .num (.slice p6 1 c6) 3 .i64 [x.id])] w' := by
 refine enter (fn := Tryz.f89) Tryz.func89 rfl Tryz.ntmps89 rfl (fun Az Hz => ?_)
 simp only [List.zipIdx_cons, List.zipIdx_nil, List.map_cons, List.map_nil, Nat.reduceAdd, Nat.zero_add] at Hz
 refine wp_region_lit ?_
 refine goCh Hz (.move rfl <| .move rfl <| .move rfl <| .move rfl <| .move rfl <| .nilCheck rfl <| .fieldAddr (off := 0) rfl Tryz.underlying86 rfl (s := 4) (by kernel_rfl) rfl <| .fieldAddr (off := 0) rfl Tryz.underlying81 rfl (s := 0) (by kernel_rfl) rfl <| .loadB1 m0 (i := 1) rfl rfl rfl Tryz.underlying3 rfl <| .nil) ?_
 clear Hz Az; intro Az Hz
 refine wpList_plain rfl (fun K hK => ?_)
 refine e_litN Hz m0 30 (k := .i64) rfl rfl Tryz.underlying26 inf3rru rfl rfl rfl rfl ?_
 clear Hz Az m0; intro g10 Az w11 Hz m11
 refine hK _ _ ?_; clear hK K
 refine goCh Hz (.nilCheck rfl <| .fieldAddr (off := 20) rfl Tryz.underlying86 rfl (s := 0) (by kernel_rfl) rfl <| .nil) ?_
 clear Hz Az; intro Az Hz
 refine wpList_plain rfl (fun K hK => ?_)
 refine e_store1 Hz m11 1 rfl rfl rfl rfl rfl sz3rru (by dsimp only [List.set] <;> rfl) ?_
 clear m11; intro w14 m14 hB14
 clear hB14
 refine hK _ _ ?_; clear hK K
 refine goCh Hz (.nilCheck rfl <| .fieldAddr (off := 21) rfl Tryz.underlying86 rfl (s := 0) (by kernel_rfl) rfl <| .nil) ?_
 clear Hz Az; intro Az Hz
 refine wpList_plain rfl (fun K hK => ?_)
 refine e_store1 Hz m14 1 rfl rfl rfl rfl rfl sz3rru (by dsimp only [List.set] <;> rfl) ?_
 clear m14; intro w17 m17 hB17
 clear hB17
 refine hK _ _ ?_; clear hK K
 refine goCh Hz (.nilCheck rfl <| .fieldAddr (off := 25) rfl Tryz.underlying86 rfl (s := 0) (by kernel_rfl) rfl <| .nil) ?_
 clear Hz Az; intro Az Hz
 refine wpList_plain rfl (fun K hK => ?_)
 refine e_store1 Hz m17 1 rfl rfl rfl rfl rfl sz26rru (by dsimp only [List.set] <;> rfl) ?_
 clear m17; intro w20 m20 hB20
 clear hB20
 refine hK _ _ ?_; clear hK K
 refine wpList_nil ?_
 try dsimp only [Exit.then]
 try refine out_here ?_
 refine (ret0 (fn := Tryz.f89) Hz rfl ?_)
 exact ⟨_, _, rfl, m20.ren [(1, 1), (6, 30)] (by decide)⟩
theorem rtaken_x (X : Cx) (R L : Nat) (x : RV) (py pm pq : Option Addr) (ny nm nq cy cm cq : Nat) (re : Bool) (w0 : World) (m0 : MemOk X w0 [(1, .box R 86 (raC x L (.slice py ny cy) (.slice pm nm cm) (.slice pq nq cq) re))] w0) :
   Calls Tryz.prog 47 #[.pointer (some ⟨R, 0, none⟩)] w0 fun e w' => e = .returned (.agg #[.slice pm nm cm, .slice pq nq cq, .bool re]) ∧ MemOk X w0 [(1, .box R 86 (raC x L (.slice py ny cy) (.slice none 0 0) (.slice none 0 0) false))] w' := by
 refine enter (fn := Tryz.f47) Tryz.func47 rfl Tryz.ntmps47 rfl (fun Az Hz => ?_)
 simp only [List.zipIdx_cons, List.zipIdx_nil, List.map_cons, List.map_nil, Nat.reduceAdd, Nat.zero_add] at Hz
 refine wp_seq_k (fun K0 hK0 => ?_)
 refine wp_region_lit ?_
 refine wpList_plain rfl (fun K hK => ?_)
 refine e_alloc Hz m0 30 zc46rta rfl ?_
 clear Hz Az m0; intro g1 Az w2 Hz m2 hB2 hg2
 clear hB2 hg2
 refine hK _ _ ?_; clear hK K
 refine wpList_nil ?_
 refine hK0 _ _ ?_; clear hK0; try clear K0
 refine wp_seq_k (fun K1 hK1 => ?_)
 refine wp_region_lit ?_
 refine goCh Hz (.move rfl <| .nilCheck rfl <| .fieldAddr (off := 26) rfl Tryz.underlying86 rfl (s := 2) (by kernel_rfl) rfl <| .loadBR m2 (i := 1) rfl rfl Tryz.underlying46 rfl sz46rta (by simp) (by dsimp only [List.drop, List.take] <;> rfl) <| .nil) ?_
 clear Hz Az; intro Az Hz
 refine wpList_plain rfl (fun K hK => ?_)
 refine e_alloc Hz m2 31 zc46rta rfl ?_
 clear Hz Az m2; intro g11 Az w12 Hz m12 hB12 hg12
 clear hB12 hg12
 refine hK _ _ ?_; clear hK K
 refine wpList_plain rfl (fun K hK => ?_)
 refine e_storeW Hz m12 31 rfl rfl rfl rfl rfl sz46rta ?_
 clear m12; intro w13 m13 hB13
 clear hB13
 refine hK _ _ ?_; clear hK K
 refine wpList_nil ?_
 refine hK1 _ _ ?_; clear hK1; try clear K1
 refine wp_seq_k (fun K2 hK2 => ?_)
 refine wp_region_lit ?_
 refine goCh Hz (.move rfl <| .build rfl zc46rta fl46rta rfl (by dsimp only [setL, List.set] <;> rfl) <| .nilCheck rfl <| .fieldAddr (off := 26) rfl Tryz.underlying86 rfl (s := 2) (by kernel_rfl) rfl <| .nil) ?_
 clear Hz Az; intro Az Hz
 refine wpList_plain rfl (fun K hK => ?_)
 refine e_storeR Hz m13 1 rfl rfl rfl rfl rfl sz46rta (by dsimp only [List.take, List.drop, List.append_eq, List.append] <;> rfl) ?_
 clear m13; intro w22 m22 hB22
 clear hB22
 refine hK _ _ ?_; clear hK K
 refine wpList_nil ?_
 refine hK2 _ _ ?_; clear hK2; try clear K2
 replace Hz : Has 13 [(2, _), (3, _)] Az := Hz.only [2, 3]
 refine wp_seq_k (fun K3 hK3 => ?_)
 refine wp_region_lit ?_
 refine goCh Hz (.loadBR m22 (i := 31) rfl rfl Tryz.underlying46 rfl sz46rta (by simp) (by dsimp only [List.drop, List.take] <;> rfl) .nil) ?_
 clear Hz Az; intro Az Hz
 refine wpList_plain rfl (fun K hK => ?_)
 refine e_storeW Hz m22 30 rfl rfl rfl rfl rfl sz46rta ?_
 clear m22; intro w26 m26 hB26
 clear hB26
 refine hK _ _ ?_; clear hK K
 refine wpList_nil ?_
 refine hK3 _ _ ?_; clear hK3; try clear K3
 refine wp_ret ?_
 try dsimp only [Exit.then, Exit.inBlock]
 refine (retC (fn := Tryz.f47) Hz m26 (i := 30) rfl rfl rfl Tryz.underlying46 rfl sz46rta ?_)
 exact ⟨rfl, m26.only [1]⟩
end
section
theorem inf118rsa : (Tryz.prog.info? 118).map (fun i => (i.zero, i.size, i.bytes)) = some (some (.agg #[.int .i64 0, .int .i64 0, .int .i64 0, .int .i64 0, .int .i64 0, .int .i64 0, .int .i64 0, .slice none 0 0, .int .i64 0, .int .i64 0, .slice none 0 0, .slice none 0 0]), 12, 144) := by kernel_rfl
theorem sz3rsa : (Tryz.prog.info? 3).map (·.size) = some 1 := by kernel_rfl
theorem sz44rsa : (Tryz.prog.info? 44).map (·.size) = some 1 := by kernel_rfl
theorem sz118rsa : (Tryz.prog.info? 118).map (·.size) = some 12 := by kernel_rfl
theorem inf55rse : (Tryz.prog.info? 55).map (fun i => (i.zero, i.size, i.bytes)) = some (some (.agg #[.int .i64 0, .int .i64 0, .int .i64 0, .int .i64 0, .int .i64 0, .int .i64 0, .int .i64 0, .int .i64 0, .bool false, .slice none 0 0, .int .i64 0, .int .i64 0, .slice none 0 0, .slice none 0 0, .slice none 0 0, .int .i64 0, .int .i64 0, .int .i64 0, .int .i64 0]), 19, 216) := by kernel_rfl
theorem sz3rse : (Tryz.prog.info? 3).map (·.size) = some 1 := by kernel_rfl
theorem sz43rse : (Tryz.prog.info? 43).map (·.size) = some 1 := by kernel_rfl
theorem sz55rse : (Tryz.prog.info? 55).map (·.size) = some 19 := by kernel_rfl

set_option maxRecDepth 100000
set_option maxHeartbeats 4000000
theorem rsave_x (X : Cx) (R L : Nat) (x : RV) (ys ms : Value) (re : Bool) (Q : List RR) (r : RR) (pe pc pd pq : Option Addr) (ce cc cd cq : Nat) (w0 : World) (hQ : Q.length ≤ 1000000) (m0 : MemOk X w0 [(1, .box R 86 (raC x L ys ms (.slice pq (Q.map rrD).length cq) re)), (8, .seg (.slice pq (Q.map rrD).length cq) 118 12 (Q.map rrD)), (9, .dat (.slice pe r.ed.length ce) (.ns .u8 r.ed)), (10, .dat (.slice pc r.cf.length cc) (.ns .i64 r.cf)), (11, .dat (.slice pd r.bd.length cd) (.ns .u8 r.bd))] w0) :
   Calls Tryz.prog 73 #[.pointer (some ⟨R, 0, none⟩), .agg #[.int .i64 r.g, .int .i64 r.k, .int .i64 r.te, .int .i64 r.vo, .int .i64 r.ei, .int .i64 r.et, .int .i64 r.ek, .slice pe r.ed.length ce, .int .i64 r.bi, .int .i64 r.bt, .slice pc r.cf.length cc, .slice pd r.bd.length cd]] w0 fun e w' => ∃ (p' : Option Addr) (c' : Nat), e = .returned (.tuple #[]) ∧ MemOk X w0 [(1, .box R 86 (raC x L ys ms (.slice p' ((Q ++ [{ r with g := x.gr }]).map rrD).length c') re)), (8, .seg (.slice p' ((Q ++ [{ r with g := x.gr }]).map rrD).length c') 118 12 ((Q ++ [{ r with g := x.gr }]).map rrD)), (9, .dat (.slice pe r.ed.length ce) (.ns .u8 r.ed)), (10, .dat (.slice pc r.cf.length cc) (.ns .i64 r.cf)), (11, .dat (.slice pd r.bd.length cd) (.ns .u8 r.bd))] w' := by
 refine enter (fn := Tryz.f73) Tryz.func73 rfl Tryz.ntmps73 rfl (fun Az Hz => ?_)
 simp only [List.zipIdx_cons, List.zipIdx_nil, List.map_cons, List.map_nil, Nat.reduceAdd, Nat.zero_add] at Hz
 refine wp_seq_k (fun K0 hK0 => ?_)
 refine wp_region_lit ?_
 refine wpList_plain rfl (fun K hK => ?_)
 refine e_box Hz m0 30 (cs := [_, _, _, _, _, _, _, _, _, _, _, _]) rfl rfl rfl ?_
 clear Hz Az m0; intro g1 Az w2 Hz m2 hB2 hg2
 clear hB2 hg2
 refine hK _ _ ?_; clear hK K
 refine wpList_nil ?_
 refine hK0 _ _ ?_; clear hK0; try clear K0
 refine wp_seq_k (fun K1 hK1 => ?_)
 refine wp_region_lit ?_
 refine goCh Hz (.move rfl <| .nilCheck rfl <| .fieldAddr (off := 0) rfl Tryz.underlying86 rfl (s := 4) (by kernel_rfl) rfl <| .fieldAddr (off := 1) rfl Tryz.underlying81 rfl (s := 0) (by kernel_rfl) rfl <| .loadB1 m2 (i := 1) rfl rfl rfl Tryz.underlying3 rfl <| .fieldAddr (off := 0) rfl Tryz.underlying118 rfl (s := 0) (by kernel_rfl) rfl <| .nil) ?_
 clear Hz Az; intro Az Hz
 refine wpList_plain rfl (fun K hK => ?_)
 refine e_store1 Hz m2 30 rfl rfl rfl rfl rfl sz3rsa (by dsimp only [List.set] <;> rfl) ?_
 clear m2; intro w15 m15 hB15
 clear hB15
 refine hK _ _ ?_; clear hK K
 refine wpList_nil ?_
 refine hK1 _ _ ?_; clear hK1; try clear K1
 replace Hz : Has 22 [(0, _), (3, _)] Az := Hz.only [0, 3]
 have m17 : MemOk _ _ [(1, _), (8, _), (9, _), (10, _), (11, _), (30, _)] _ := m15.only [1, 8, 9, 10, 11, 30]; clear m15
 refine region_p 8 (B := [(1, _), (30, _)]) (m17.to ⟨il, il, trivial⟩) m17 (by kernel_rfl) (fun w18 hP18 m18 => ?_); clear m17
 refine goR hP18 [0, 1, 2, 3, 4, 5, 6] [5, 6] 7 0 127 Hz (m18.to ⟨il, il, trivial⟩) (.move rfl <| .move rfl <| .nilCheck rfl <| .fieldAddr (off := 26) rfl Tryz.underlying86 rfl (s := 2) (by kernel_rfl) rfl <| .fieldAddr (off := 27) rfl Tryz.underlying46 rfl (s := 0) (by kernel_rfl) rfl <| .loadB1 hh (i := 1) rfl rfl rfl Tryz.underlying44 rfl <| .loadBR hh (i := 30) rfl rfl Tryz.underlying118 rfl sz118rsa (by simp) (by dsimp only [List.drop, List.take] <;> rfl) <| .nil) ?_
 clear Hz Az; intro Az Hz
 refine stepE_only 7 rfl (by kernel_rfl) rfl (fun K hK => ?_)
 refine e_litR Hz m18 31 (mm := 12) rfl (.cons rfl rfl (.cons (.v _) (.cons (.v _) (.cons (.v _) (.cons (.v _) (.cons (.v _) (.cons (.v _) (.cons (.v _) (.cons (m18.rd (i := 9) rfl) (.cons (.v _) (.cons (.v _) (.cons (m18.rd (i := 10) rfl) (.cons (m18.rd (i := 11) rfl) .nil)))))))))))) <| .nil) Tryz.underlying44 inf118rsa rfl rfl rfl rfl rfl ?_
 clear Hz Az m18; intro g26 Az w27 Hz m27
 refine hK _ _ (m27.to ⟨il, il, trivial⟩) ?_; clear hK K
 have m29 := m27.freezeR 31 rfl; clear m27
 refine stepE_end 8 rfl (by kernel_rfl) rfl (by rfl) (fun K hK => ?_)
 refine e_appSA Hz m29 8 rfl rfl rfl (m29.rd (i := 31) rfl).cells Tryz.underlying44 inf118rsa rfl rfl (by decide) (by simp; omega) rfl ?_
 clear Hz Az m29; intro p28 c28 Az w30 Hz m30
 refine hK _ _ ?_; clear hK K
 refine goB hP18 [9, 10, 11] 3 511 4095 Hz (.nilCheck rfl <| .fieldAddr (off := 26) rfl Tryz.underlying86 rfl (s := 2) (by kernel_rfl) rfl <| .fieldAddr (off := 27) rfl Tryz.underlying46 rfl (s := 0) (by kernel_rfl) rfl <| .nil) ?_
 clear Hz Az; intro Az Hz
 refine stepE_end 12 rfl (by kernel_rfl) rfl (by rfl) (fun K hK => ?_)
 refine e_store1 Hz m30 1 rfl rfl rfl rfl rfl sz44rsa (by dsimp only [List.set] <;> rfl) ?_
 clear m30; intro w34 m34 hB34
 clear hB34
 refine hK _ _ ?_; clear hK K
 refine wpAnyE_done (by kernel_rfl) ?_ _
 try dsimp only [Exit.then]
 try refine out_here ?_
 refine (ret0 (fn := Tryz.f73) Hz rfl ?_)
 have hE : Q.map rrD ++ [rrD { r with g := x.gr }] = (Q ++ [{ r with g := x.gr }]).map rrD := by rw [List.map_append]; rfl
 have hE2 := hE
 simp only [rrD] at hE
 first | rw [hE] at m34 | skip
 exact ⟨_, _, rfl, m34.ren [(1, 1), (8, 8), (9, 9), (10, 10), (11, 11)] (by decide)⟩
theorem rsend_x (X : Cx) (R L : Nat) (x : RV) (ys rs : Value) (re : Bool) (Q : List RM) (n : Int) (r : RM) (pe pc pd pf pq : Option Addr) (ce cc cd cf cq : Nat) (w0 : World) (hQ : Q.length ≤ 1000000) (m0 : MemOk X w0 [(1, .box R 86 (raC x L ys (.slice pq (Q.map rmD).length cq) rs re)), (7, .seg (.slice pq (Q.map rmD).length cq) 55 19 (Q.map rmD)), (9, .dat (.slice pe (r.es.map entD).length ce) (.l 4 (r.es.map entD))), (10, .dat (.slice pc r.cf.length cc) (.ns .i64 r.cf)), (11, .dat (.slice pd r.bd.length cd) (.ns .u8 r.bd)), (12, .dat (.slice pf r.da.length cf) (.ns .u8 r.da))] w0) :
   Calls Tryz.prog 129 #[.pointer (some ⟨R, 0, none⟩), .int .i64 n, .agg #[.int .i64 r.k, .int .i64 r.g, .int .i64 r.f, .int .i64 r.t, .int .i64 r.te, .int .i64 r.ix, .int .i64 r.lt, .int .i64 r.co, .bool r.ok, .slice pe (r.es.map entD).length ce, .int .i64 r.bi, .int .i64 r.bt, .slice pc r.cf.length cc, .slice pd r.bd.length cd, .slice pf r.da.length cf, .int .i64 r.vo, .int .i64 r.ch, .int .i64 r.ma, .int .i64 r.fl]] w0 fun e w' => ∃ (p' : Option Addr) (c' : Nat), e = .returned (.tuple #[]) ∧ MemOk X w0 [(1, .box R 86 (raC x L ys (.slice p' ((Q ++ [{ r with g := x.gr, f := x.id, t := n }]).map rmD).length c') rs re)), (7, .seg (.slice p' ((Q ++ [{ r with g := x.gr, f := x.id, t := n }]).map rmD).length c') 55 19 ((Q ++ [{ r with g := x.gr, f := x.id, t := n }]).map rmD)), (9, .dat (.slice pe (r.es.map entD).length ce) (.l 4 (r.es.map entD))), (10, .dat (.slice pc r.cf.length cc) (.ns .i64 r.cf)), (11, .dat (.slice pd r.bd.length cd) (.ns .u8 r.bd)), (12, .dat (.slice pf r.da.length cf) (.ns .u8 r.da))] w' := by
 refine enter (fn := Tryz.f129) Tryz.func129 rfl Tryz.ntmps129 rfl (fun Az Hz => ?_)
 simp only [List.zipIdx_cons, List.zipIdx_nil, List.map_cons, List.map_nil, Nat.reduceAdd, Nat.zero_add] at Hz
 refine wp_seq_k (fun K0 hK0 => ?_)
 refine wp_region_lit ?_
 refine wpList_plain rfl (fun K hK => ?_)
 refine e_box Hz m0 30 (cs := [_, _, _, _, _, _, _, _, _, _, _, _, _, _, _, _, _, _, _]) rfl rfl rfl ?_
 clear Hz Az m0; intro g1 Az w2 Hz m2 hB2 hg2
 clear hB2 hg2
 refine hK _ _ ?_; clear hK K
 refine wpList_nil ?_
 refine hK0 _ _ ?_; clear hK0; try clear K0
 refine wp_seq_k (fun K1 hK1 => ?_)
 have hC1 : ∀ (a : Act) (w : World), (∃ (Bm : Nat), Has 32 [(0, .pointer (some ⟨R, 0, none⟩)), (5, .pointer (some ⟨Bm, 0, none⟩))] a ∧ MemOk X w0 [(1, .box R 86 (raC x L ys (.slice pq (Q.map rmD).length cq) rs re)), (7, .seg (.slice pq (Q.map rmD).length cq) 55 19 (Q.map rmD)), (9, .dat (.slice pe (r.es.map entD).length ce) (.l 4 (r.es.map entD))), (10, .dat (.slice pc r.cf.length cc) (.ns .i64 r.cf)), (11, .dat (.slice pd r.bd.length cd) (.ns .u8 r.bd)), (12, .dat (.slice pf r.da.length cf) (.ns .u8 r.da)), (20, .box Bm 55 [.int .i64 r.k, .int .i64 x.gr, .int .i64 x.id, .int .i64 n, .int .i64 r.te, .int .i64 r.ix, .int .i64 r.lt, .int .i64 r.co, .bool r.ok, .slice pe (r.es.map entD).length ce, .int .i64 r.bi, .int .i64 r.bt, .slice pc r.cf.length cc, .slice pd r.bd.length cd, .slice pf r.da.length cf, .int .i64 r.vo, .int .i64 r.ch, .int .i64 r.ma, .int .i64 r.fl])] w) → K1 a w := by
   clear Hz m2
   rintro Az w3 ⟨Bm, Hz, m3⟩
   refine hK1 _ _ ?_; clear hK1; try clear K1
   have m4 : MemOk _ _ [(1, _), (7, _), (9, _), (10, _), (11, _), (12, _), (20, _)] _ := m3.only [1, 7, 9, 10, 11, 12, 20]; clear m3
   refine region_p 8 (B := [(1, _), (20, _)]) (m4.to ⟨il, il, trivial⟩) m4 (by kernel_rfl) (fun w5 hP5 m5 => ?_); clear m4
   refine goR hP5 [0, 1, 2, 3, 4, 5, 6] [5, 6] 7 0 127 Hz (m5.to ⟨il, il, trivial⟩) (.move rfl <| .move rfl <| .nilCheck rfl <| .fieldAddr (off := 26) rfl Tryz.underlying86 rfl (s := 2) (by kernel_rfl) rfl <| .fieldAddr (off := 26) rfl Tryz.underlying46 rfl (s := 0) (by kernel_rfl) rfl <| .loadB1 hh (i := 1) rfl rfl rfl Tryz.underlying43 rfl <| .loadBR hh (i := 20) rfl rfl Tryz.underlying55 rfl sz55rse (by simp) (by dsimp only [List.drop, List.take] <;> rfl) <| .nil) ?_
   clear Hz Az; intro Az Hz
   refine stepE_only 7 rfl (by kernel_rfl) rfl (fun K hK => ?_)
   refine e_litR Hz m5 100 (mm := 19) rfl (.cons rfl rfl (.cons (.v _) (.cons (.v _) (.cons (.v _) (.cons (.v _) (.cons (.v _) (.cons (.v _) (.cons (.v _) (.cons (.v _) (.cons (.v _) (.cons (m5.rd (i := 9) rfl) (.cons (.v _) (.cons (.v _) (.cons (m5.rd (i := 10) rfl) (.cons (m5.rd (i := 11) rfl) (.cons (m5.rd (i := 12) rfl) (.cons (.v _) (.cons (.v _) (.cons (.v _) (.cons (.v _) .nil))))))))))))))))))) <| .nil) Tryz.underlying43 inf55rse rfl rfl rfl rfl rfl ?_
   clear Hz Az m5; intro g13 Az w14 Hz m14
   refine hK _ _ (m14.to ⟨il, il, trivial⟩) ?_; clear hK K
   have m16 := m14.freezeR 100 rfl; clear m14
   refine stepE_end 8 rfl (by kernel_rfl) rfl (by rfl) (fun K hK => ?_)
   refine e_appSA Hz m16 7 rfl rfl rfl (m16.rd (i := 100) rfl).cells Tryz.underlying43 inf55rse rfl rfl (by decide) (by simp; omega) rfl ?_
   clear Hz Az m16; intro p15 c15 Az w17 Hz m17
   refine hK _ _ ?_; clear hK K
   refine goB hP5 [9, 10, 11] 3 511 4095 Hz (.nilCheck rfl <| .fieldAddr (off := 26) rfl Tryz.underlying86 rfl (s := 2) (by kernel_rfl) rfl <| .fieldAddr (off := 26) rfl Tryz.underlying46 rfl (s := 0) (by kernel_rfl) rfl <| .nil) ?_
   clear Hz Az; intro Az Hz
   refine stepE_end 12 rfl (by kernel_rfl) rfl (by rfl) (fun K hK => ?_)
   refine e_store1 Hz m17 1 rfl rfl rfl rfl rfl sz43rse (by dsimp only [List.set] <;> rfl) ?_
   clear m17; intro w21 m21 hB21
   clear hB21
   refine hK _ _ ?_; clear hK K
   refine wpAnyE_done (by kernel_rfl) ?_ _
   try dsimp only [Exit.then]
   try refine out_here ?_
   refine (ret0 (fn := Tryz.f129) Hz rfl ?_)
   have hE : Q.map rmD ++ [rmD { r with g := x.gr, f := x.id, t := n }] = (Q ++ [{ r with g := x.gr, f := x.id, t := n }]).map rmD := by rw [List.map_append]; rfl
   simp only [rmD] at hE
   first | rw [hE] at m21 | skip
   exact ⟨_, _, rfl, m21.ren [(1, 1), (7, 7), (9, 9), (10, 10), (11, 11), (12, 12)] (by decide)⟩
 have m22 : MemOk _ _ [(1, _), (7, _), (9, _), (10, _), (11, _), (12, _), (30, _)] _ := m2.only [1, 7, 9, 10, 11, 12, 30]; clear m2
 refine region_p 17 (B := [(1, _)]) (m22.to ⟨il, trivial⟩) m22 (by kernel_rfl) (fun w23 hP23 m23 => ?_); clear m22
 refine goR hP23 [0, 1, 2, 3, 4, 5, 6, 7, 8, 9, 10, 11] [4, 9] 12 0 4095 Hz (m23.to ⟨il, trivial⟩) (.move rfl <| .nilCheck rfl <| .fieldAddr (off := 0) rfl Tryz.underlying86 rfl (s := 4) (by kernel_rfl) rfl <| .fieldAddr (off := 1) rfl Tryz.underlying81 rfl (s := 0) (by kernel_rfl) rfl <| .loadB1 hh (i := 1) rfl rfl rfl Tryz.underlying3 rfl <| .move rfl <| .nilCheck rfl <| .fieldAddr (off := 0) rfl Tryz.underlying86 rfl (s := 4) (by kernel_rfl) rfl <| .fieldAddr (off := 0) rfl Tryz.underlying81 rfl (s := 0) (by kernel_rfl) rfl <| .loadB1 hh (i := 1) rfl rfl rfl Tryz.underlying3 rfl <| .move rfl <| .fieldAddr (off := 1) rfl Tryz.underlying55 rfl (s := 0) (by kernel_rfl) rfl <| .nil) ?_
 clear Hz Az; intro Az Hz
 refine stepE_only 12 rfl (by kernel_rfl) rfl (fun K hK => ?_)
 refine e_store1 Hz m23 30 rfl rfl rfl rfl rfl sz3rse (by dsimp only [List.set] <;> rfl) ?_
 clear m23; intro w36 m36 hB36
 clear hB36
 refine hK _ _ (m36.to ⟨il, trivial⟩) ?_; clear hK K
 refine goA hP23 [13] 1 8191 16383 Hz (m36.to ⟨il, trivial⟩) (.fieldAddr (off := 2) rfl Tryz.underlying55 rfl (s := 0) (by kernel_rfl) rfl <| .nil) ?_
 clear Hz Az; intro Az Hz
 refine stepE_only 14 rfl (by kernel_rfl) rfl (fun K hK => ?_)
 refine e_store1 Hz m36 30 rfl rfl rfl rfl rfl sz3rse (by dsimp only [List.set] <;> rfl) ?_
 clear m36; intro w38 m38 hB38
 clear hB38
 refine hK _ _ (m38.to ⟨il, trivial⟩) ?_; clear hK K
 refine goA hP23 [15] 1 32767 65535 Hz (m38.to ⟨il, trivial⟩) (.fieldAddr (off := 3) rfl Tryz.underlying55 rfl (s := 0) (by kernel_rfl) rfl <| .nil) ?_
 clear Hz Az; intro Az Hz
 refine stepE_only 16 rfl (by kernel_rfl) rfl (fun K hK => ?_)
 refine e_store1 Hz m38 30 rfl rfl rfl rfl rfl sz3rse (by dsimp only [List.set] <;> rfl) ?_
 clear m38; intro w40 m40 hB40
 clear hB40
 refine hK _ _ (m40.to ⟨il, trivial⟩) ?_; clear hK K
 refine wpAnyE_done (by kernel_rfl) ?_ _
 show K1 _ _
 exact hC1 _ _ ⟨_, Hz.only [0, 5], m40.ren [(1, 1), (7, 7), (9, 9), (10, 10), (11, 11), (12, 12), (20, 30)] (by decide)⟩
end
section
theorem ps118rsh : placesS Tryz.prog 118 = some [(0, 1), (1, 1), (2, 2), (4, 4), (8, 4)] := by kernel_rfl
theorem sz25rsh : (Tryz.prog.info? 25).map (·.size) = some 2 := by kernel_rfl
theorem zc118rsh : ((Tryz.prog.info? 118).bind (·.zero)).map (·.cells.toList) = some [.int .i64 0, .int .i64 0, .int .i64 0, .int .i64 0, .int .i64 0, .int .i64 0, .int .i64 0, .slice none 0 0, .int .i64 0, .int .i64 0, .slice none 0 0, .slice none 0 0] := by kernel_rfl
theorem fl25rdo : flatS Tryz.prog 25 [.int .i64 0, .int .i64 0] = true := by kernel_rfl
theorem sz3rdo : (Tryz.prog.info? 3).map (·.size) = some 1 := by kernel_rfl
theorem sz25rdo : (Tryz.prog.info? 25).map (·.size) = some 2 := by kernel_rfl
theorem zc25rdo : ((Tryz.prog.info? 25).bind (·.zero)).map (·.cells.toList) = some [.int .i64 0, .int .i64 0] := by kernel_rfl

def hardR (x : RV) : RR := ⟨0, 1, x.te, x.vo, 0, 0, 0, [], 0, 0, [], []⟩
set_option maxRecDepth 100000
set_option maxHeartbeats 4000000
theorem rsaveHard_x (X : Cx) (R L : Nat) (x : RV) (ys ms : Value) (re : Bool) (Q : List RR) (pq : Option Addr) (cq : Nat) (w0 : World) (hQ : Q.length ≤ 1000000) (m0 : MemOk X w0 [(1, .box R 86 (raC x L ys ms (.slice pq (Q.map rrD).length cq) re)), (8, .seg (.slice pq (Q.map rrD).length cq) 118 12 (Q.map rrD))] w0) :
   Calls Tryz.prog 135 #[.pointer (some ⟨R, 0, none⟩)] w0 fun e w' => ∃ (p' : Option Addr) (c' : Nat), e = .returned (.tuple #[]) ∧ MemOk X w0 [(1, .box R 86 (raC x L ys ms (.slice p' ((Q ++ [{ hardR x with g := x.gr }]).map rrD).length c') re)), (8, .seg (.slice p' ((Q ++ [{ hardR x with g := x.gr }]).map rrD).length c') 118 12 ((Q ++ [{ hardR x with g := x.gr }]).map rrD))] w' := by
 refine enter (fn := Tryz.f135) Tryz.func135 rfl Tryz.ntmps135 rfl (fun Az Hz => ?_)
 simp only [List.zipIdx_cons, List.zipIdx_nil, List.map_cons, List.map_nil, Nat.reduceAdd, Nat.zero_add] at Hz
 refine wp_region_lit ?_
 refine goCh Hz (.move rfl <| .move rfl <| .nilCheck rfl <| .fieldAddr (off := 0) rfl Tryz.underlying86 rfl (s := 4) (by kernel_rfl) rfl <| .fieldAddr (off := 2) rfl Tryz.underlying81 rfl (s := 1) (by kernel_rfl) rfl <| .loadBR m0 (i := 1) rfl rfl Tryz.underlying25 rfl sz25rsh (by simp) (by dsimp only [List.drop, List.take] <;> rfl) <| .buildG rfl zc118rsh ps118rsh rfl <| .nil) ?_
 clear Hz Az; intro Az Hz
 have m8 := m0.dat 60 rfl (Rd.nilN _ _ .u8 none); clear m0
 have m9 := m8.dat 61 rfl (Rd.nilN _ _ .i64 none); clear m8
 have m10 := m9.dat 62 rfl (Rd.nilN _ _ .u8 none); clear m9
 refine wpList_plain rfl (fun K hK => ?_)
 refine e_call Hz Tryz.func73 rfl rfl rfl rfl (rsave_x _ _ _ x _ _ _ Q (hardR x) none none none _ 0 0 0 _ _ hQ (m10.into [(1, 1), (8, 8), (9, 60), (10, 61), (11, 62)] (by decide) rfl)) ?_
 rintro e w11 ⟨p11, c11, rfl, hm11⟩
 have mx11 := m10.back hm11 [(1, 1), (8, 8)] (by decide); clear hm11 m10
 have m11 : MemOk _ _ [(1, _), (8, _)] _ := mx11.only [1, 8]; clear mx11
 refine ⟨_, rfl, ?_⟩; clear Hz Az; intro Az Hz
 refine hK _ _ ?_; clear hK K
 refine wpList_nil ?_
 try dsimp only [Exit.then]
 try refine out_here ?_
 refine (ret0 (fn := Tryz.f135) Hz rfl ?_)
 exact ⟨_, _, rfl, m11.only [1, 8]⟩
theorem rdown_x (X : Cx) (R L : Nat) (x : RV) (ys ms : Value) (re : Bool) (Q : List RR) (tm : Int) (pq : Option Addr) (cq : Nat) (w0 : World) (hQ : Q.length ≤ 1000000) (m0 : MemOk X w0 [(1, .box R 86 (raC x L ys ms (.slice pq (Q.map rrD).length cq) re)), (8, .seg (.slice pq (Q.map rrD).length cq) 118 12 (Q.map rrD))] w0) :
   Calls Tryz.prog 140 #[.pointer (some ⟨R, 0, none⟩), .int .i64 tm] w0 fun e w' => ∃ (p' : Option Addr) (c' : Nat), e = .returned (.tuple #[]) ∧ MemOk X w0 [(1, .box R 86 (raC { x with ro := 0, le := -1, te := tm, vo := -1 } L ys ms (.slice p' ((Q ++ [{ hardR { x with ro := 0, le := -1, te := tm, vo := -1 } with g := x.gr }]).map rrD).length c') re)), (8, .seg (.slice p' ((Q ++ [{ hardR { x with ro := 0, le := -1, te := tm, vo := -1 } with g := x.gr }]).map rrD).length c') 118 12 ((Q ++ [{ hardR { x with ro := 0, le := -1, te := tm, vo := -1 } with g := x.gr }]).map rrD))] w' := by
 refine enter (fn := Tryz.f140) Tryz.func140 rfl Tryz.ntmps140 rfl (fun Az Hz => ?_)
 simp only [List.zipIdx_cons, List.zipIdx_nil, List.map_cons, List.map_nil, Nat.reduceAdd, Nat.zero_add] at Hz
 refine wp_seq_k (fun K0 hK0 => ?_)
 refine wp_region_lit ?_
 refine goCh Hz (.move rfl <| .move rfl <| .nilCheck rfl <| .fieldAddr (off := 20) rfl Tryz.underlying86 rfl (s := 0) (by kernel_rfl) rfl <| .nil) ?_
 clear Hz Az; intro Az Hz
 refine wpList_plain rfl (fun K hK => ?_)
 refine e_store1 Hz m0 1 rfl rfl rfl rfl rfl sz3rdo (by dsimp only [List.set] <;> rfl) ?_
 clear m0; intro w9 m9 hB9
 clear hB9
 refine hK _ _ ?_; clear hK K
 refine goCh Hz (.nilCheck rfl <| .fieldAddr (off := 21) rfl Tryz.underlying86 rfl (s := 0) (by kernel_rfl) rfl <| .nil) ?_
 clear Hz Az; intro Az Hz
 refine wpList_plain rfl (fun K hK => ?_)
 refine e_store1 Hz m9 1 rfl rfl rfl rfl rfl sz3rdo (by dsimp only [List.set] <;> rfl) ?_
 clear m9; intro w12 m12 hB12
 clear hB12
 refine hK _ _ ?_; clear hK K
 refine wpList_nil ?_
 refine hK0 _ _ ?_; clear hK0; try clear K0
 replace Hz : Has 18 [(0, _), (1, _)] Az := Hz.only [0, 1]
 refine wp_seq_k (fun K1 hK1 => ?_)
 refine wp_region_lit ?_
 refine goCh Hz (.move rfl <| .move rfl <| .build rfl zc25rdo fl25rdo rfl (by dsimp only [setL, List.set] <;> rfl) <| .nilCheck rfl <| .fieldAddr (off := 0) rfl Tryz.underlying86 rfl (s := 4) (by kernel_rfl) rfl <| .fieldAddr (off := 2) rfl Tryz.underlying81 rfl (s := 1) (by kernel_rfl) rfl <| .nil) ?_
 clear Hz Az; intro Az Hz
 refine wpList_plain rfl (fun K hK => ?_)
 refine e_storeR Hz m12 1 rfl rfl rfl rfl rfl sz25rdo (by dsimp only [List.take, List.drop, List.append_eq, List.append] <;> rfl) ?_
 clear m12; intro w26 m26 hB26
 clear hB26
 refine hK _ _ ?_; clear hK K
 refine wpList_nil ?_
 refine hK1 _ _ ?_; clear hK1; try clear K1
 replace Hz : Has 18 [(0, _)] Az := Hz.only [0]
 refine wp_region_lit ?_
 refine goCh Hz (.move rfl .nil) ?_
 clear Hz Az; intro Az Hz
 refine wpList_plain rfl (fun K hK => ?_)
 refine e_call Hz Tryz.func135 rfl rfl rfl rfl (rsaveHard_x _ _ _ { x with ro := 0, le := -1, te := tm, vo := -1 } _ _ _ Q _ _ _ hQ (m26.into [(1, 1), (8, 8)] (by decide) rfl)) ?_
 rintro e w29 ⟨p29, c29, rfl, hm29⟩
 have mx29 := m26.back hm29 [(1, 1), (8, 8)] (by decide); clear hm29 m26
 have m29 : MemOk _ _ [(1, _), (8, _)] _ := mx29.only [1, 8]; clear mx29
 refine ⟨_, rfl, ?_⟩; clear Hz Az; intro Az Hz
 refine hK _ _ ?_; clear hK K
 refine wpList_nil ?_
 try dsimp only [Exit.then]
 try refine out_here ?_
 refine (ret0 (fn := Tryz.f140) Hz rfl ?_)
 exact ⟨_, _, rfl, m29.only [1, 8]⟩
end
section
theorem ps55rre : placesS Tryz.prog 55 = some [(0, 1), (1, 1), (2, 1), (3, 1), (4, 1), (5, 1), (6, 1), (7, 1), (8, 1), (9, 1), (10, 4), (14, 1), (15, 1), (16, 1), (17, 1), (18, 1)] := by kernel_rfl
theorem zc55rre : ((Tryz.prog.info? 55).bind (·.zero)).map (·.cells.toList) = some [.int .i64 0, .int .i64 0, .int .i64 0, .int .i64 0, .int .i64 0, .int .i64 0, .int .i64 0, .int .i64 0, .bool false, .slice none 0 0, .int .i64 0, .int .i64 0, .slice none 0 0, .slice none 0 0, .slice none 0 0, .int .i64 0, .int .i64 0, .int .i64 0, .int .i64 0] := by kernel_rfl

theorem Rd.nil4 (S : Nat → Prop) (w : World) : Rd S w (.slice none 0 0) (.l 4 (([] : List En).map entD)) := .l0 none 0 4
def replyR (x : RV) (kd : Int) (ok : Bool) (ix : Int) : RM := ⟨kd, 0, 0, 0, x.te, ix, 0, 0, ok, [], 0, 0, [], [], [], 0, 0, 0, 0⟩
set_option maxRecDepth 100000
set_option maxHeartbeats 4000000
theorem rreply_x (X : Cx) (R L : Nat) (x : RV) (ys rs : Value) (re : Bool) (Q : List RM) (r : RM) (kd : Int) (ok : Bool) (ix : Int) (pe pc pd pf pq : Option Addr) (ne nc nd nf ce cc cd cf cq : Nat) (w0 : World) (hQ : Q.length ≤ 1000000) (m0 : MemOk X w0 [(1, .box R 86 (raC x L ys (.slice pq (Q.map rmD).length cq) rs re)), (7, .seg (.slice pq (Q.map rmD).length cq) 55 19 (Q.map rmD))] w0) :
   Calls Tryz.prog 139 #[.pointer (some ⟨R, 0, none⟩), .agg #[.int .i64 r.k, .int .i64 r.g, .int .i64 r.f, .int .i64 r.t, .int .i64 r.te, .int .i64 r.ix, .int .i64 r.lt, .int .i64 r.co, .bool r.ok, .slice pe ne ce, .int .i64 r.bi, .int .i64 r.bt, .slice pc nc cc, .slice pd nd cd, .slice pf nf cf, .int .i64 r.vo, .int .i64 r.ch, .int .i64 r.ma, .int .i64 r.fl], .int .i64 kd, .bool ok, .int .i64 ix] w0 fun e w' => ∃ (p' : Option Addr) (c' : Nat), e = .returned (.tuple #[]) ∧ MemOk X w0 [(1, .box R 86 (raC x L ys (.slice p' ((Q ++ [{ replyR x kd ok ix with g := x.gr, f := x.id, t := r.f }]).map rmD).length c') rs re)), (7, .seg (.slice p' ((Q ++ [{ replyR x kd ok ix with g := x.gr, f := x.id, t := r.f }]).map rmD).length c') 55 19 ((Q ++ [{ replyR x kd ok ix with g := x.gr, f := x.id, t := r.f }]).map rmD))] w' := by
 refine enter (fn := Tryz.f139) Tryz.func139 rfl Tryz.ntmps139 rfl (fun Az Hz => ?_)
 simp only [List.zipIdx_cons, List.zipIdx_nil, List.map_cons, List.map_nil, Nat.reduceAdd, Nat.zero_add] at Hz
 refine wp_seq_k (fun K0 hK0 => ?_)
 refine wp_region_lit ?_
 refine wpList_plain rfl (fun K hK => ?_)
 refine e_box Hz m0 30 (cs := [_, _, _, _, _, _, _, _, _, _, _, _, _, _, _, _, _, _, _]) rfl rfl rfl ?_
 clear Hz Az m0; intro g1 Az w2 Hz m2 hB2 hg2
 clear hB2 hg2
 refine hK _ _ ?_; clear hK K
 refine wpList_nil ?_
 refine hK0 _ _ ?_; clear hK0; try clear K0
 have m3 : MemOk _ _ [(1, _), (7, _), (30, _)] _ := m2.only [1, 7, 30]; clear m2
 refine region_p 13 (B := [(1, _), (7, _), (30, _)]) (m3.to ⟨il, il, il, trivial⟩) m3 (by kernel_rfl) (fun w4 hP4 m4 => ?_); clear m3
 refine goR hP4 [0, 1, 2, 3, 4, 5, 6, 7, 8, 9, 10, 11, 12] [2, 9] 13 0 8191 Hz (m4.to ⟨il, il, il, trivial⟩) (.move rfl <| .fieldAddr (off := 2) rfl Tryz.underlying55 rfl (s := 0) (by kernel_rfl) rfl <| .loadB1 hh (i := 30) rfl rfl rfl Tryz.underlying3 rfl <| .move rfl <| .move rfl <| .nilCheck rfl <| .fieldAddr (off := 0) rfl Tryz.underlying86 rfl (s := 4) (by kernel_rfl) rfl <| .fieldAddr (off := 2) rfl Tryz.underlying81 rfl (s := 1) (by kernel_rfl) rfl <| .fieldAddr (off := 2) rfl Tryz.underlying25 rfl (s := 0) (by kernel_rfl) rfl <| .loadB1 hh (i := 1) rfl rfl rfl Tryz.underlying3 rfl <| .move rfl <| .move rfl <| .p (fun _ _ h_ => y_buildG h_ rfl zc55rre ps55rre rfl) <| .nil) ?_
 clear Hz Az; intro Az Hz
 have m18 := m4.dat 59 rfl (Rd.nil4 _ _); clear m4
 have m19 := m18.dat 60 rfl (Rd.nilN _ _ .i64 none); clear m18
 have m20 := m19.dat 61 rfl (Rd.nilN _ _ .u8 none); clear m19
 have m21 := m20.dat 62 rfl (Rd.nilN _ _ .u8 none); clear m20
 refine stepE_end 13 rfl (by kernel_rfl) rfl (by rfl) (fun K hK => ?_)
 refine e_call Hz Tryz.func129 rfl rfl rfl rfl (rsend_x _ _ _ x _ _ _ Q r.f (replyR x kd ok ix) none none none none _ 0 0 0 0 _ _ hQ (m21.into [(1, 1), (7, 7), (9, 59), (10, 60), (11, 61), (12, 62)] (by decide) rfl)) ?_
 rintro e w22 ⟨p22, c22, rfl, hm22⟩
 have mx22 := m21.back hm22 [(1, 1), (7, 7)] (by decide); clear hm22 m21
 have m22 : MemOk _ _ [(1, _), (7, _), (30, _)] _ := mx22.only [1, 7, 30]; clear mx22
 refine ⟨_, rfl, ?_⟩; clear Hz Az; intro Az Hz
 refine hK _ _ ?_; clear hK K
 refine wpAnyE_done (by kernel_rfl) ?_ _
 try dsimp only [Exit.then]
 try refine out_here ?_
 refine (ret0 (fn := Tryz.f139) Hz rfl ?_)
 exact ⟨_, _, rfl, m22.only [1, 7]⟩
end
section
theorem strict_ext : ∀ (a b : List Int), a.Pairwise (· < ·) → b.Pairwise (· < ·) → (∀ x, x ∈ a ↔ x ∈ b) → a = b
 | [], [], _, _, _ => rfl
 | [], y :: b, _, _, h => absurd ((h y).2 (by simp)) (by simp)
 | x :: a, [], _, _, h => absurd ((h x).1 (by simp)) (by simp)
 | x :: a, y :: b, ha, hb, h => by
   have ha' := List.pairwise_cons.1 ha
   have hb' := List.pairwise_cons.1 hb
   have e : x = y := by
     rcases List.mem_cons.1 ((h x).1 (by simp)) with e | h1
     · exact e
     · rcases List.mem_cons.1 ((h y).2 (by simp)) with e | h2
       · exact e.symm
       · have := ha'.1 y h2; have := hb'.1 x h1; omega
   subst e
   congr 1
   refine strict_ext a b ha'.2 hb'.2 (fun z => ⟨fun hz => ?_, fun hz => ?_⟩)
   · rcases List.mem_cons.1 ((h z).1 (by simp [hz])) with e | h1
     · have := ha'.1 z hz; omega
     · exact h1
   · rcases List.mem_cons.1 ((h z).2 (by simp [hz])) with e | h1
     · have := hb'.1 z hz; omega
     · exact h1

theorem compact_mem (zs : List Int) (x : Int) : x ∈ Lib.compact zs ↔ x ∈ zs := by
 unfold Lib.compact Lib.compactUpTo
 simp only [List.mem_map, List.mem_filter, List.mem_range]
 constructor
 · rintro ⟨j, ⟨hj, _⟩, rfl⟩
   have : zs.toArray[j]! = zs[j] := by simp [hj]
   rw [this]; exact List.getElem_mem hj
 · intro hx
   obtain ⟨j, hj, rfl⟩ := List.getElem_of_mem hx
   clear hx
   induction j with
   | zero => exact ⟨0, ⟨hj, by simp [Lib.keeps]⟩, by simp [hj]⟩
   | succ j ih =>
     by_cases hk : Lib.keeps zs.toArray (j + 1) = true
     · exact ⟨j + 1, ⟨hj, hk⟩, by simp [hj]⟩
     · have he : zs[j + 1] = zs[j] := by
         simp [Lib.keeps, hj, show j < zs.length by omega] at hk
         exact hk
       rw [he]
       exact ih (by omega)

theorem compact_strict (zs : List Int) (hs : zs.Pairwise (· ≤ ·)) : (Lib.compact zs).Pairwise (· < ·) := by
 unfold Lib.compact Lib.compactUpTo
 rw [List.pairwise_map]
 have hidx := List.pairwise_iff_getElem.1 hs
 have hr : ((List.range zs.length).filter (Lib.keeps zs.toArray)).Pairwise (· < ·) := List.Pairwise.filter _ List.pairwise_lt_range
 refine List.Pairwise.imp_of_mem ?_ hr
 intro i j hi hj hij
 simp only [List.mem_filter, List.mem_range] at hi hj
 obtain ⟨hi1, _⟩ := hi
 obtain ⟨hj1, hk⟩ := hj
 rcases j with _ | j
 · omega
 · have h1 : zs[j + 1] ≠ zs[j] := by
     simp [Lib.keeps, hj1, show j < zs.length by omega] at hk
     exact hk
   have h2 := hidx j (j + 1) (by omega) hj1 (by omega)
   have h3 : zs[i] ≤ zs[j] := by
     by_cases e : i = j
     · subst e; omega
     · exact hidx i j hi1 (by omega) (by omega)
   have e1 : zs.toArray[i]! = zs[i] := by simp [hi1]
   have e2 : zs.toArray[j + 1]! = zs[j + 1] := by simp [hj1]
   rw [e1, e2]; omega

def okB (n : Int) : Bool := decide (0 ≤ n ∧ n < 7)
def ofL (l : List Int) : List Int := Lib.compact ((l.filter okB).mergeSort fun x y => decide (x ≤ y))
def canon (l : List Int) : List Int := [0, 1, 2, 3, 4, 5, 6].filter fun n => l.contains n

theorem canon_mem (l : List Int) (x : Int) : x ∈ canon l ↔ x ∈ l ∧ 0 ≤ x ∧ x < 7 := by
 unfold canon
 simp only [List.mem_filter, List.contains_iff_mem, List.mem_cons, List.not_mem_nil, or_false]
 constructor
 · rintro ⟨h, hl⟩; exact ⟨hl, by omega, by omega⟩
 · rintro ⟨hl, h0, h1⟩; exact ⟨by omega, hl⟩
theorem canon_strict (l : List Int) : (canon l).Pairwise (· < ·) := List.Pairwise.filter _ (by decide)
theorem ofL_canon (l : List Int) : ofL l = canon l := by
 refine strict_ext _ _ (compact_strict _ ?_) (canon_strict l) (fun x => ?_)
 · have := List.pairwise_mergeSort (le := fun x y : Int => decide (x ≤ y)) (by intro a b c h1 h2; simp at *; omega) (by intro a b; simp; omega) (l.filter okB)
   exact this.imp (by intro a b h; simpa using h)
 · unfold ofL
   rw [compact_mem, canon_mem, List.mem_mergeSort, List.mem_filter]
   simp [okB]
theorem canon_len (l : List Int) : (canon l).length ≤ 7 := List.length_filter_le _ _
end
end Go.Proofs.YtndnnlbdnjndiaaGreat.K
