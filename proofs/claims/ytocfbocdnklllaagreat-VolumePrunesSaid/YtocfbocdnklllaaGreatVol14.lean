/- volume: pins. -/
import Derived.Test.YtocfbocdnklllaaGreatVol12
import Derived.Test.YtocfbocdnklllaaGreatG2
import Derived.Test.YtocfbocdnklllaaGreatVSort
namespace Go.Proofs.YtocfbocdnklllaaGreat.K
open Go.ChangeShapes Go.WideShapes Go.ChangeAt Go.RowKit Go.Sort
set_option linter.unusedVariables false
set_option linter.unusedSimpArgs false

theorem inf2p7 : (Tryz.prog.info? 2).map (fun i => (i.zero, i.size, i.bytes)) = some (some (.int .i64 0), 1, 8) := by kernel_rfl
theorem sz24vg : (Tryz.prog.info? 24).map (·.size) = some 1 := by kernel_rfl
theorem sz25vg : (Tryz.prog.info? 25).map (·.size) = some 1 := by kernel_rfl
theorem sz26vg : (Tryz.prog.info? 26).map (·.size) = some 1 := by kernel_rfl
theorem sz28vg : (Tryz.prog.info? 28).map (·.size) = some 11 := by kernel_rfl
theorem zc28vg : ((Tryz.prog.info? 28).bind (·.zero)).map (·.cells.toList) = some [.int .i64 0, .int .i64 0, .int .i64 0, .int .i64 0, .slice none 0 0, .int .i64 0, .int .i64 0, .bool false, .int .i64 0, .slice none 0 0, .slice none 0 0] := by kernel_rfl
theorem inf2yp : (Tryz.prog.info? 2).map (fun i => (i.zero, i.size, i.bytes)) = some (some (.int .i64 0), 1, 8) := by kernel_rfl
theorem sz25yp : (Tryz.prog.info? 25).map (·.size) = some 1 := by kernel_rfl
theorem sz28yp : (Tryz.prog.info? 28).map (·.size) = some 11 := by kernel_rfl
theorem fl45yD4 : flatS Tryz.prog 45 [.int .i64 0, .int .i64 0, .int .i64 0, .int .i64 0, .slice none 0 0] = true := by kernel_rfl
theorem sz28yD4 : (Tryz.prog.info? 28).map (·.size) = some 11 := by kernel_rfl
theorem sz45yD4 : (Tryz.prog.info? 45).map (·.size) = some 5 := by kernel_rfl
theorem sz50yD4 : (Tryz.prog.info? 50).map (·.size) = some 10 := by kernel_rfl
theorem zc28yD4 : ((Tryz.prog.info? 28).bind (·.zero)).map (·.cells.toList) = some [.int .i64 0, .int .i64 0, .int .i64 0, .int .i64 0, .slice none 0 0, .int .i64 0, .int .i64 0, .bool false, .int .i64 0, .slice none 0 0, .slice none 0 0] := by kernel_rfl
theorem zc45yD4 : ((Tryz.prog.info? 45).bind (·.zero)).map (·.cells.toList) = some [.int .i64 0, .int .i64 0, .int .i64 0, .int .i64 0, .slice none 0 0] := by kernel_rfl
def sortP (l : List Int) : List Int := l.mergeSort fun x y => decide (x ≤ y)
def pinR (hi : Bool) (fl at0 nd : Int) (pins : List Int) : List Int × Int := if reachR hi fl at0 nd = 0 then (sortP (pins ++ [at0]), 0) else (pins, reachR hi fl at0 nd)
def unpinR (hi : Bool) (at0 : Int) (pins : List Int) : List Int × Int := if hi = true ∨ Lib.idxOf pins at0 < 0 then (pins, 28) else (pins.take (Lib.idxOf pins at0).toNat ++ pins.drop ((Lib.idxOf pins at0).toNat + 1), 0)
set_option maxRecDepth 100000
set_option maxHeartbeats 4000000
theorem sort64_fr (X : Cx) (p : Option Addr) (c : Nat) (zs : List Int) (w0 : World) (hl : zs.length ≤ 1000000) (m0 : MemOk X w0 [(1, .seg (.slice p zs.length c) 2 1 (zs.map nD))] w0) :
   Calls Tryz.prog 75 #[.slice p zs.length c] w0 fun e w' => e = .returned (.tuple #[]) ∧ MemOk X w0 [(1, .seg (.slice p zs.length c) 2 1 ((zs.mergeSort fun x y => decide (x ≤ y)).map nD))] w' := by
 have hs := (seg_nums (m0.ok 1 _ rfl).1).2
 rcases hs with ⟨e1, h0⟩ | ⟨g, off, cap, cur, e1, -, hb, hnc, hcm, hcs, htk⟩
 · obtain rfl := List.length_eq_zero_iff.1 h0
   refine (AnyG.slices_Sort_int_none Tryz.sort64 p c w0).mono ?_
   rintro e w' ⟨rfl, rfl⟩; exact ⟨rfl, by simpa using m0⟩
 · injection e1 with h1 h2 h3; subst h1; subst h3
   refine (AnyG.slices_Sort_int Tryz.sort64 g off c zs w0 (holds_at hb htk (by omega)) (Array.getElem?_eq_some_iff.1 hb).1 (by omega)).mono ?_
   rintro e w' ⟨rfl, n, os, rfl⟩
   exact ⟨rfl, (m0.putN 1 rfl (zs.mergeSort fun x y => decide (x ≤ y)) (by simp) n os).only [1]⟩
theorem plain64_own (d : List Int) (p0 : Option Addr) (c0 : Nat) (w0 : World) (h0 : Rd (fun _ => True) w0 (.slice p0 d.length c0) (.ns .i64 d)) (hd : d.length ≤ 1000000) :
   Calls Tryz.prog 51 #[.slice p0 d.length c0] w0 fun e w' => ∃ p c, e = .returned (.slice p d.length c) ∧ w'.ownsRow w0.heap.size 2 1 (.slice p d.length c) d.length (d.map (Value.int .i64)) ∧ Below w0.heap.size w0 w' := by
 refine enter (fn := Tryz.f51) Tryz.func51 rfl Tryz.ntmps51 rfl (fun Az Hz => ?_)
 simp only [List.zipIdx_cons, List.zipIdx_nil, List.map_cons, List.map_nil, Nat.reduceAdd, Nat.zero_add] at Hz
 have m0 := MemOk.start (fun _ => False) w0
 refine regS Hz (.assign rfl <| .nil) ?_
 clear Hz Az; intro Az Hz
 refine wp_seq_k (fun K0 hK0 => ?_)
 refine wp_region_lit ?_
 refine goCh Hz (.move rfl .nil) ?_
 clear Hz Az; intro Az Hz
 refine wpList_plain rfl (fun K hK => ?_)
 refine e_app0N Hz m0 2 rfl rfl (h0.now' m0 rfl).ns_out.nums Tryz.underlying25 inf2p7 (by decide) (by omega) rfl ?_
 clear Hz Az m0; intro p4 c4 Az w5 Hz m5
 refine hK _ _ ?_; clear hK K
 refine goCh Hz (.assign rfl .nil) ?_
 clear Hz Az; intro Az Hz
 refine wpList_nil ?_
 refine hK0 _ _ ?_; clear hK0; try clear K0
 refine wp_ret ?_
 try dsimp only [Exit.then, Exit.inBlock]
 refine (ret1 (fn := Tryz.f51) Hz rfl rfl ?_)
 exact ⟨_, _, rfl, m5.ok 2 _ rfl, m5.below⟩
theorem volcopy_fp (X : Cx) (vo bl sz pe to ne fl : Int) (hi : Bool) (place pins : List Int) (ws : List (Int × List (Int × List Int))) (pp pn pw : Option Addr) (cp cn9 cw : Nat) (w0 : World) (hn : place.length ≤ 1000000) (hp : pins.length ≤ 900000) (hl : ws.length ≤ 1000000) (hok : WrsOk ws) (m0 : MemOk X w0 [(1, .dat (.slice pp place.length cp) (.ns .i64 place)), (2, .dat (.slice pn pins.length cn9) (.ns .i64 pins)), (3, .dat (.slice pw (ws.map wrD).length cw) (.l 2 (ws.map wrD)))] w0) :
   Calls Tryz.prog 32 #[.agg #[.int .i64 vo, .int .i64 bl, .int .i64 sz, .int .i64 pe, .slice pp place.length cp, .int .i64 to, .int .i64 ne, .bool hi, .int .i64 fl, .slice pn pins.length cn9, .slice pw (ws.map wrD).length cw]] w0 fun e w' => ∃ p1 c1 p2 c2 p3 c3, e = .returned (.agg #[.int .i64 vo, .int .i64 bl, .int .i64 sz, .int .i64 pe, .slice p1 place.length c1, .int .i64 to, .int .i64 ne, .bool hi, .int .i64 fl, .slice p2 pins.length c2, .slice p3 (ws.map wrD).length c3]) ∧ MemOk X w0 [(1, .dat (.slice pp place.length cp) (.ns .i64 place)), (2, .dat (.slice pn pins.length cn9) (.ns .i64 pins)), (3, .dat (.slice pw (ws.map wrD).length cw) (.l 2 (ws.map wrD))), (4, .dat (.slice p1 place.length c1) (.ns .i64 place)), (5, .seg (.slice p2 pins.length c2) 2 1 (pins.map nD)), (6, .seg (.slice p3 (ws.map wrD).length c3) 58 2 (ws.map wrD))] w' := by
 refine enter (fn := Tryz.f32) Tryz.func32 rfl Tryz.ntmps32 rfl (fun Az Hz => ?_)
 simp only [List.zipIdx_cons, List.zipIdx_nil, List.map_cons, List.map_nil, Nat.reduceAdd, Nat.zero_add] at Hz
 refine wp_seq_k (fun K0 hK0 => ?_)
 refine wp_region_lit ?_
 refine wpList_plain rfl (fun K hK => ?_)
 refine e_box Hz m0 20 (cs := [_, _, _, _, _, _, _, _, _, _, _]) rfl rfl rfl ?_
 clear Hz Az m0; intro g1 Az w2 Hz m2 hB2 hg2
 clear hB2 hg2
 refine hK _ _ ?_; clear hK K
 refine wpList_plain rfl (fun K hK => ?_)
 refine e_alloc Hz m2 21 zc28vg rfl ?_
 clear Hz Az m2; intro g3 Az w4 Hz m4 hB4 hg4
 clear hB4 hg4
 refine hK _ _ ?_; clear hK K
 refine wpList_nil ?_
 refine hK0 _ _ ?_; clear hK0; try clear K0
 refine wp_seq_k (fun K1 hK1 => ?_)
 have m5 : MemOk _ _ [(1, _), (2, _), (3, _), (20, _), (21, _)] _ := m4.only [1, 2, 3, 20, 21]; clear m4
 refine region_p 10 (B := [(1, _), (2, _), (3, _), (20, _), (21, _)]) (m5.to ⟨il, il, il, il, il, trivial⟩) m5 (by kernel_rfl) (fun w6 hP6 m6 => ?_); clear m5
 refine goR hP6 [0, 1, 3, 4, 6, 7] [1, 4, 7] 6 0 219 Hz (m6.to ⟨il, il, il, il, il, trivial⟩) (.fieldAddr (off := 4) rfl Tryz.underlying28 rfl (s := 0) (by kernel_rfl) rfl <| .loadB1 hh (i := 20) rfl rfl rfl Tryz.underlying24 rfl <| .fieldAddr (off := 9) rfl Tryz.underlying28 rfl (s := 0) (by kernel_rfl) rfl <| .loadB1 hh (i := 20) rfl rfl rfl Tryz.underlying25 rfl <| .fieldAddr (off := 10) rfl Tryz.underlying28 rfl (s := 0) (by kernel_rfl) rfl <| .loadB1 hh (i := 20) rfl rfl rfl Tryz.underlying26 rfl <| .nil) ?_
 clear Hz Az; intro Az Hz
 refine stepE_only 2 rfl (by kernel_rfl) rfl (fun K hK => ?_)
 refine e_call Hz Tryz.func37 rfl rfl rfl rfl (plainI_any place _ _ _ ((m6.rd (i := 1) rfl).any) hn) ?_
 rintro e w13 ⟨p13, c13, rfl, hd13, hb13⟩
 have m14 := m6.callF 22 rfl hb13 hd13
 clear m6
 clear hb13 hd13
 refine ⟨_, rfl, ?_⟩; clear Hz Az; intro Az Hz
 refine hK _ _ (m14.to ⟨il, il, il, il, il, trivial⟩) ?_; clear hK K
 refine goA hP6 [9] 1 223 735 Hz (m14.to ⟨il, il, il, il, il, trivial⟩) (.fieldAddr (off := 4) rfl Tryz.underlying28 rfl (s := 0) (by kernel_rfl) rfl <| .nil) ?_
 clear Hz Az; intro Az Hz
 refine stepE_only 5 rfl (by kernel_rfl) rfl (fun K hK => ?_)
 refine e_call Hz Tryz.func51 rfl rfl rfl rfl (plain64_own pins _ _ _ ((m14.rd (i := 2) rfl).any) (by omega)) ?_
 rintro e w17 ⟨p17, c17, rfl, ho17, hb17⟩
 have m18 := (m14.newN 23 hb17 ho17).numS 23 rfl
 clear m14
 clear hb17 ho17
 refine ⟨_, rfl, ?_⟩; clear Hz Az; intro Az Hz
 refine hK _ _ (m18.to ⟨il, il, il, il, il, trivial⟩) ?_; clear hK K
 refine stepE_only 8 rfl (by kernel_rfl) rfl (fun K hK => ?_)
 refine e_call Hz Tryz.func52 rfl rfl rfl rfl (listW_own ws _ _ _ _ ((m18.rd (i := 3) rfl).any) hl hok) ?_
 rintro e w20 ⟨p20, c20, rfl, ho20, hb20⟩
 have m21 := m18.callR 24 hb20 (ho20.cast (fun b h => ⟨h.1.elim False.elim .inr, h.2⟩))
 clear m18
 have m22 := m21.rowS 24 rfl
 clear m21
 clear hb20 ho20
 refine ⟨_, rfl, ?_⟩; clear Hz Az; intro Az Hz
 refine hK _ _ (m22.to ⟨il, il, il, il, il, trivial⟩) ?_; clear hK K
 refine stepE_end 10 rfl (by kernel_rfl) rfl (by rfl) (fun K hK => ?_)
 refine e_store1 Hz m22 20 rfl rfl rfl rfl rfl sz24vg (by dsimp only [List.set] <;> rfl) ?_
 clear m22; intro w24 m24 hB24
 clear hB24
 refine hK _ _ ?_; clear hK K
 refine goB hP6 [11] 1 2047 4095 Hz (.fieldAddr (off := 9) rfl Tryz.underlying28 rfl (s := 0) (by kernel_rfl) rfl <| .nil) ?_
 clear Hz Az; intro Az Hz
 refine stepE_end 12 rfl (by kernel_rfl) rfl (by rfl) (fun K hK => ?_)
 refine e_store1 Hz m24 20 rfl rfl rfl rfl rfl sz25vg (by dsimp only [List.set] <;> rfl) ?_
 clear m24; intro w26 m26 hB26
 clear hB26
 refine hK _ _ ?_; clear hK K
 refine goB hP6 [13] 1 8191 16383 Hz (.fieldAddr (off := 10) rfl Tryz.underlying28 rfl (s := 0) (by kernel_rfl) rfl <| .nil) ?_
 clear Hz Az; intro Az Hz
 refine stepE_end 14 rfl (by kernel_rfl) rfl (by rfl) (fun K hK => ?_)
 refine e_store1 Hz m26 20 rfl rfl rfl rfl rfl sz26vg (by dsimp only [List.set] <;> rfl) ?_
 clear m26; intro w28 m28 hB28
 clear hB28
 refine hK _ _ ?_; clear hK K
 refine wpAnyE_done (by kernel_rfl) ?_ _
 refine hK1 _ _ ?_; clear hK1; try clear K1
 replace Hz : Has 16 [(1, _), (2, _)] Az := Hz.only [1, 2]
 refine wp_seq_k (fun K2 hK2 => ?_)
 refine wp_region_lit ?_
 refine goCh Hz (.loadBR m28 (i := 20) rfl rfl Tryz.underlying28 rfl sz28vg (by simp) (by dsimp only [List.drop, List.take] <;> rfl) .nil) ?_
 clear Hz Az; intro Az Hz
 refine wpList_plain rfl (fun K hK => ?_)
 refine e_storeW Hz m28 21 rfl rfl rfl rfl rfl sz28vg ?_
 clear m28; intro w32 m32 hB32
 clear hB32
 refine hK _ _ ?_; clear hK K
 refine wpList_nil ?_
 refine hK2 _ _ ?_; clear hK2; try clear K2
 refine wp_ret ?_
 try dsimp only [Exit.then, Exit.inBlock]
 refine (retC (fn := Tryz.f32) Hz m32 (i := 21) rfl rfl rfl Tryz.underlying28 rfl sz28vg ?_)
 exact ⟨_, _, _, _, _, _, rfl, m32.ren [(1, 1), (2, 2), (3, 3), (4, 22), (5, 23), (6, 24)] (by decide)⟩
theorem ypin (X : Cx) (B : Nat) (vo bl sz pe to ne fl : Int) (hi : Bool) (place pins : List Int) (ws : List (Int × List (Int × List Int))) (pp pn pw : Option Addr) (cp cn9 cw : Nat) (at0 : Int) (w0 : World) (hp : pins.length ≤ 900000) (m0 : MemOk X w0 [(1, .box B 28 [.int .i64 vo, .int .i64 bl, .int .i64 sz, .int .i64 pe, .slice pp place.length cp, .int .i64 to, .int .i64 ne, .bool hi, .int .i64 fl, .slice pn pins.length cn9, .slice pw (ws.map wrD).length cw]), (4, .seg (.slice pn pins.length cn9) 2 1 (pins.map nD))] w0) :
   Calls Tryz.prog 56 #[.pointer (some ⟨B, 0, none⟩), .int .i64 at0] w0 fun e w' => ∃ (pins' : List Int) (e9 : Int) (pn' : Option Addr) (cn' : Nat), e = .returned (.int .i64 e9) ∧ pinR hi fl at0 ws.length pins = (pins', e9) ∧ MemOk X w0 [(1, .box B 28 [.int .i64 vo, .int .i64 bl, .int .i64 sz, .int .i64 pe, .slice pp place.length cp, .int .i64 to, .int .i64 ne, .bool hi, .int .i64 fl, .slice pn' pins'.length cn', .slice pw (ws.map wrD).length cw]), (4, .seg (.slice pn' pins'.length cn') 2 1 (pins'.map nD))] w' := by
 refine enter (fn := Tryz.f56) Tryz.func56 rfl Tryz.ntmps56 rfl (fun Az Hz => ?_)
 simp only [List.zipIdx_cons, List.zipIdx_nil, List.map_cons, List.map_nil, Nat.reduceAdd, Nat.zero_add] at Hz
 refine regS Hz (.assign rfl <| .nil) ?_
 clear Hz Az; intro Az Hz
 refine wp_seq_k (fun K0 hK0 => ?_)
 refine wp_region_lit ?_
 refine goCh Hz (.move rfl <| .move rfl <| .move rfl <| .nilCheck rfl <| .loadBR m0 (i := 1) rfl rfl Tryz.underlying28 rfl sz28yp (by simp) (by dsimp only [List.drop, List.take] <;> rfl) <| .nil) ?_
 clear Hz Az; intro Az Hz
 refine wpList_plain rfl (fun K hK => ?_)
 refine e_call Hz Tryz.func18 rfl rfl rfl rfl (vlen_any _ _ _ _ _ _ _ _ _ _ _ _ _ _ _ _ _ _) ?_
 rintro e w12 ⟨rfl, hb12⟩
 rw [List.length_map]
 have m13 := m0.later hb12
 clear m0
 clear hb12
 refine ⟨_, rfl, ?_⟩; clear Hz Az; intro Az Hz
 refine hK _ _ ?_; clear hK K
 refine wpList_plain rfl (fun K hK => ?_)
 refine e_call Hz Tryz.func74 rfl rfl rfl rfl (xreach _ _ _ _ _ _ _ _ _ _ place pins ws _ _ _ _ _ _ _ _ _ (m13.into [(1, 1)] (by decide) rfl)) ?_
 rintro e w15 ⟨ex, rfl, hr, hm15⟩
 have mx15 := m13.back hm15 [(1, 1)] (by decide); clear hm15 m13
 have m15 : MemOk _ _ [(1, _), (4, _)] _ := mx15.only [1, 4]; clear mx15
 refine ⟨_, rfl, ?_⟩; clear Hz Az; intro Az Hz
 refine hK _ _ ?_; clear hK K
 refine goCh Hz (.assign rfl .nil) ?_
 clear Hz Az; intro Az Hz
 refine wpList_nil ?_
 refine hK0 _ _ ?_; clear hK0; try clear K0
 refine wp_seq_k (fun K1 hK1 => ?_)
 replace Hz : Has 31 [(0, _), (1, _), (4, _), (5, _)] Az := Hz.only [0, 1, 4, 5]
 refine regS Hz (.move rfl <| .eql rfl rfl <| .nil) ?_
 clear Hz Az; intro Az Hz
 refine bool_cases Hz (t := 14) rfl ?_ ?_
 ·
  clear Hz; intro hb21 Hz
  try simp only [Q1x, Q2x, Q3x, Q4x, Q5x, Q6x, Q7x, Q8x, Q9x, Q0x, Qax, Qbx] at hb21
  refine wp_cond_true (Hz.ev (x := .tmp 14) rfl) ?_
  refine wp_seq_k (fun K2 hK2 => ?_)
  refine wp_region_lit ?_
  refine goCh Hz (.move rfl <| .move rfl <| .nilCheck rfl <| .fieldAddr (off := 9) rfl Tryz.underlying28 rfl (s := 0) (by kernel_rfl) rfl <| .loadB1 m15 (i := 1) rfl rfl rfl Tryz.underlying25 rfl <| .move rfl <| .nil) ?_
  clear Hz Az; intro Az Hz
  refine wpList_plain rfl (fun K hK => ?_)
  refine e_litN Hz m15 20 (k := .i64) rfl rfl Tryz.underlying25 inf2yp rfl rfl rfl rfl ?_
  clear Hz Az m15; intro g34 Az w35 Hz m35
  refine hK _ _ ?_; clear hK K
  have m37 := m35.numS 20 rfl; clear m35
  refine wpList_plain rfl (fun K hK => ?_)
  refine e_appSA Hz m37 4 rfl rfl rfl (m37.srcS (i := 20) rfl) Tryz.underlying25 inf2yp rfl rfl (by decide) (by simp; omega) rfl ?_
  clear Hz Az m37; intro p36 c36 Az w38 Hz m38
  refine hK _ _ ?_; clear hK K
  refine goCh Hz (.nilCheck rfl <| .fieldAddr (off := 9) rfl Tryz.underlying28 rfl (s := 0) (by kernel_rfl) rfl <| .nil) ?_
  clear Hz Az; intro Az Hz
  refine wpList_plain rfl (fun K hK => ?_)
  refine e_store1 Hz m38 1 rfl rfl rfl rfl rfl sz25yp (by dsimp only [List.set] <;> rfl) ?_
  clear m38; intro w41 m41 hB41
  clear hB41
  refine hK _ _ ?_; clear hK K
  refine wpList_nil ?_
  refine hK2 _ _ ?_; clear hK2; try clear K2
  replace Hz : Has 31 [(0, _), (4, _), (5, _), (14, _)] Az := Hz.only [0, 4, 5, 14]
  refine wp_region_lit ?_
  refine goCh Hz (.move rfl <| .nilCheck rfl <| .fieldAddr (off := 9) rfl Tryz.underlying28 rfl (s := 0) (by kernel_rfl) rfl <| .loadB1 m41 (i := 1) rfl rfl rfl Tryz.underlying25 rfl <| .nil) ?_
  clear Hz Az; intro Az Hz
  rw [← List.map_append, List.length_map] at m41 Hz
  refine wpList_plain rfl (fun K hK => ?_)
  refine e_call Hz Tryz.func75 rfl rfl rfl rfl (sort64_fr _ _ _ (pins ++ [at0]) _ (by simp; omega) (m41.into [(1, 4)] (by decide) rfl)) ?_
  rintro e w47 ⟨rfl, hm47⟩
  have mx47 := m41.back hm47 [(4, 1)] (by decide); clear hm47 m41
  have m47 : MemOk _ _ [(4, _), (1, _), (20, _)] _ := mx47.only [4, 1, 20]; clear mx47
  refine ⟨_, rfl, ?_⟩; clear Hz Az; intro Az Hz
  refine hK _ _ ?_; clear hK K
  refine wpList_nil ?_
  refine hK1 _ _ ?_; clear hK1; try clear K1
  replace Hz : Has 31 [(4, _), (5, _), (14, _)] Az := Hz.only [4, 5, 14]
  refine regS Hz (.move rfl <| .assign rfl <| .nil) ?_
  clear Hz Az; intro Az Hz
  refine wp_ret ?_
  try dsimp only [Exit.then, Exit.inBlock]
  refine (ret1 (fn := Tryz.f56) Hz rfl rfl ?_)
  have hl9 : (pins ++ [at0]).length = (sortP (pins ++ [at0])).length := by simp [sortP]
  rw [show List.mergeSort (pins ++ [at0]) (fun x y => decide (x ≤ y)) = sortP (pins ++ [at0]) from rfl, hl9] at m47
  exact ⟨sortP (pins ++ [at0]), 0, _, _, by simp_all, by rw [pinR, if_pos (by rw [hr]; assumption)], m47.only [1, 4]⟩
 ·
  clear Hz; intro hb21 Hz
  try simp only [Q1x, Q2x, Q3x, Q4x, Q5x, Q6x, Q7x, Q8x, Q9x, Q0x, Qax, Qbx] at hb21
  refine wp_cond_false (Hz.ev (x := .tmp 14) rfl) ?_
  refine wp_skip ?_
  refine hK1 _ _ ?_; clear hK1; try clear K1
  refine regS Hz (.move rfl <| .assign rfl <| .nil) ?_
  clear Hz Az; intro Az Hz
  refine wp_ret ?_
  try dsimp only [Exit.then, Exit.inBlock]
  refine (ret1 (fn := Tryz.f56) Hz rfl rfl ?_)
  exact ⟨pins, ex, _, _, rfl, by rw [pinR, if_neg (by rw [hr]; assumption), hr], m15.only [1, 4]⟩
theorem ydo4 (X : Cx) (B : Nat) (vo bl sz pe to ne fl : Int) (hi : Bool) (place pins : List Int) (ws : List (Int × List (Int × List Int))) (pp pn pw : Option Addr) (cp cn9 cw : Nat) (v1 v2 v3 v4 v5 at0 v6 : Int) (q1 : Option Addr) (n1 c1 : Nat) (q2 : Option Addr) (n2 c2 : Nat) (w0 : World) (hp : pins.length ≤ 900000) (m0 : MemOk X w0 [(1, .box B 28 [.int .i64 vo, .int .i64 bl, .int .i64 sz, .int .i64 pe, .slice pp place.length cp, .int .i64 to, .int .i64 ne, .bool hi, .int .i64 fl, .slice pn pins.length cn9, .slice pw (ws.map wrD).length cw]), (4, .seg (.slice pn pins.length cn9) 2 1 (pins.map nD))] w0) :
   Calls Tryz.prog 33 #[.pointer (some ⟨B, 0, none⟩), .agg #[.int .i64 4, .int .i64 v1, .int .i64 v2, .int .i64 v3, .int .i64 v4, .slice q1 n1 c1, .int .i64 v5, .int .i64 at0, .int .i64 v6, .slice q2 n2 c2]] w0 fun e w' => ∃ (pins' : List Int) (e9 : Int) (pn' : Option Addr) (cn' : Nat), e = .returned (.int .i64 e9) ∧ pinR hi fl at0 ws.length pins = (pins', e9) ∧ MemOk X w0 [(1, .box B 28 [.int .i64 vo, .int .i64 bl, .int .i64 sz, .int .i64 pe, .slice pp place.length cp, .int .i64 to, .int .i64 ne, .bool hi, .int .i64 fl, .slice pn' pins'.length cn', .slice pw (ws.map wrD).length cw]), (4, .seg (.slice pn' pins'.length cn') 2 1 (pins'.map nD))] w' := by
 refine enter (fn := Tryz.f33) Tryz.func33 rfl Tryz.ntmps33 rfl (fun Az Hz => ?_)
 simp only [List.zipIdx_cons, List.zipIdx_nil, List.map_cons, List.map_nil, Nat.reduceAdd, Nat.zero_add] at Hz
 refine wp_seq_k (fun K0 hK0 => ?_)
 refine wp_region_lit ?_
 refine wpList_plain rfl (fun K hK => ?_)
 refine e_box Hz m0 20 (cs := [_, _, _, _, _, _, _, _, _, _]) rfl rfl rfl ?_
 clear Hz Az m0; intro g1 Az w2 Hz m2 hB2 hg2
 clear hB2 hg2
 refine hK _ _ ?_; clear hK K
 refine goCh Hz (.assign rfl .nil) ?_
 clear Hz Az; intro Az Hz
 refine wpList_nil ?_
 refine hK0 _ _ ?_; clear hK0; try clear K0
 refine wp_seq_k (fun K1 hK1 => ?_)
 refine regS Hz (.fieldAddr (off := 0) rfl Tryz.underlying50 rfl (s := 0) (by kernel_rfl) rfl <| .loadB1 m2 (i := 20) rfl rfl rfl Tryz.underlying3 rfl <| .nil) ?_
 clear Hz Az; intro Az Hz
 refine wp_block ?_
 refine regS Hz (.eql rfl rfl <| .assign rfl <| .nil) ?_
 clear Hz Az; intro Az Hz
 refine bool_cases Hz (t := 7) rfl ?_ ?_
 · intro hb _; exact absurd hb (by simp)
 clear Hz; intro _ Hz
 refine wp_cond_false (Hz.ev (x := .tmp 7) rfl) ?_
 refine regS Hz (.eql rfl rfl <| .assign rfl <| .nil) ?_
 clear Hz Az; intro Az Hz
 refine bool_cases Hz (t := 13) rfl ?_ ?_
 · intro hb _; exact absurd hb (by simp)
 clear Hz; intro _ Hz
 refine wp_cond_false (Hz.ev (x := .tmp 13) rfl) ?_
 replace Hz : Has 45 [(0, _), (3, _), (4, _), (6, _)] Az := Hz.only [0, 3, 4, 6]
 refine regS Hz (.eql rfl rfl <| .assign rfl <| .nil) ?_
 clear Hz Az; intro Az Hz
 refine bool_cases Hz (t := 19) rfl ?_ ?_
 rotate_left
 · intro hb _; exact absurd hb (by simp)
 clear Hz; intro _ Hz
 refine wp_cond_true (Hz.ev (x := .tmp 19) rfl) ?_
 refine wp_seq_k (fun K2 hK2 => ?_)
 refine wp_region_lit ?_
 refine goCh Hz (.move rfl <| .fieldAddr (off := 7) rfl Tryz.underlying50 rfl (s := 0) (by kernel_rfl) rfl <| .loadB1 m2 (i := 20) rfl rfl rfl Tryz.underlying2 rfl <| .nil) ?_
 clear Hz Az; intro Az Hz
 refine wpList_plain rfl (fun K hK => ?_)
 refine e_call Hz Tryz.func56 rfl rfl rfl rfl (ypin _ _ _ _ _ _ _ _ _ _ place pins ws _ _ _ _ _ _ _ _ hp (m2.into [(1, 1), (4, 4)] (by decide) rfl)) ?_
 rintro e w22 ⟨pins1, e1, pn22, cn22, rfl, hR, hm22⟩
 have mx22 := m2.back hm22 [(1, 1), (4, 4)] (by decide); clear hm22 m2
 have m22 : MemOk _ _ [(1, _), (4, _), (20, _)] _ := mx22.only [1, 4, 20]; clear mx22
 refine ⟨_, rfl, ?_⟩; clear Hz Az; intro Az Hz
 refine hK _ _ ?_; clear hK K
 refine goCh Hz (.assign rfl .nil) ?_
 clear Hz Az; intro Az Hz
 refine wpList_nil ?_
 refine hK2 _ _ ?_; clear hK2; try clear K2
 refine wp_ret ?_
 try dsimp only [Exit.then, Exit.inBlock]
 refine (ret1 (fn := Tryz.f33) Hz rfl rfl ?_)
 exact ⟨pins1, e1, _, _, rfl, hR, m22.only [1, 4]⟩
theorem yDo4 (X : Cx) (vo bl sz pe to ne fl : Int) (hi : Bool) (place pins : List Int) (ws : List (Int × List (Int × List Int))) (pp pn pw : Option Addr) (cp cn9 cw : Nat) (v1 v2 v3 v4 v5 at0 v6 : Int) (q1 : Option Addr) (n1 c1 : Nat) (q2 : Option Addr) (n2 c2 : Nat) (w0 : World) (hn : place.length ≤ 1000000) (hp : pins.length ≤ 900000) (hl : ws.length ≤ 900000) (hok : WrsOk ws) (m0 : MemOk X w0 [(1, .dat (.slice pp place.length cp) (.ns .i64 place)), (2, .dat (.slice pn pins.length cn9) (.ns .i64 pins)), (3, .dat (.slice pw (ws.map wrD).length cw) (.l 2 (ws.map wrD)))] w0) :
   Calls Tryz.prog 14 #[.agg #[.int .i64 vo, .int .i64 bl, .int .i64 sz, .int .i64 pe, .slice pp place.length cp, .int .i64 to, .int .i64 ne, .bool hi, .int .i64 fl, .slice pn pins.length cn9, .slice pw (ws.map wrD).length cw], .agg #[.int .i64 4, .int .i64 v1, .int .i64 v2, .int .i64 v3, .int .i64 v4, .slice q1 n1 c1, .int .i64 v5, .int .i64 at0, .int .i64 v6, .slice q2 n2 c2]] w0 fun e w' => ∃ (pins' : List Int) (e9 rl rf rn : Int) (p1' : Option Addr) (d1' : Nat) (p2' : Option Addr) (d2' : Nat) (p3' : Option Addr) (d3' : Nat), e = .returned (.tuple #[.agg #[.int .i64 vo, .int .i64 bl, .int .i64 sz, .int .i64 pe, .slice p1' place.length d1', .int .i64 to, .int .i64 ne, .bool hi, .int .i64 fl, .slice p2' pins'.length d2', .slice p3' (ws.map wrD).length d3'], .agg #[.int .i64 e9, .int .i64 rl, .int .i64 rf, .int .i64 rn, .slice none 0 0]]) ∧ pinR hi fl at0 ws.length pins = (pins', e9) ∧ ((e9 ≠ 0 ∧ rl = 0 ∧ rf = 0 ∧ rn = 0) ∨ (e9 = 0 ∧ rl = ws.length ∧ rf = fl ∧ rn = ne)) ∧ MemOk X w0 [(1, .dat (.slice pp place.length cp) (.ns .i64 place)), (2, .dat (.slice pn pins.length cn9) (.ns .i64 pins)), (3, .dat (.slice pw (ws.map wrD).length cw) (.l 2 (ws.map wrD))), (5, .dat (.slice p1' place.length d1') (.ns .i64 place)), (6, .seg (.slice p2' pins'.length d2') 2 1 (pins'.map nD)), (7, .seg (.slice p3' (ws.map wrD).length d3') 58 2 (ws.map wrD))] w' := by
 refine enter (fn := Tryz.f14) Tryz.func14 rfl Tryz.ntmps14 rfl (fun Az Hz => ?_)
 simp only [List.zipIdx_cons, List.zipIdx_nil, List.map_cons, List.map_nil, Nat.reduceAdd, Nat.zero_add] at Hz
 refine wp_seq_k (fun K0 hK0 => ?_)
 refine wp_region_lit ?_
 refine wpList_plain rfl (fun K hK => ?_)
 refine e_box Hz m0 20 (cs := [_, _, _, _, _, _, _, _, _, _, _]) rfl rfl rfl ?_
 clear Hz Az m0; intro g1 Az w2 Hz m2 hB2 hg2
 clear hB2 hg2
 refine hK _ _ ?_; clear hK K
 refine wpList_plain rfl (fun K hK => ?_)
 refine e_box Hz m2 21 (cs := [_, _, _, _, _, _, _, _, _, _]) rfl rfl rfl ?_
 clear Hz Az m2; intro g3 Az w4 Hz m4 hB4 hg4
 clear hB4 hg4
 refine hK _ _ ?_; clear hK K
 refine wpList_plain rfl (fun K hK => ?_)
 refine e_alloc Hz m4 22 zc28yD4 rfl ?_
 clear Hz Az m4; intro g5 Az w6 Hz m6 hB6 hg6
 clear hB6 hg6
 refine hK _ _ ?_; clear hK K
 refine wpList_plain rfl (fun K hK => ?_)
 refine e_alloc Hz m6 23 zc45yD4 rfl ?_
 clear Hz Az m6; intro g7 Az w8 Hz m8 hB8 hg8
 clear hB8 hg8
 refine hK _ _ ?_; clear hK K
 refine wpList_nil ?_
 refine hK0 _ _ ?_; clear hK0; try clear K0
 refine wp_seq_k (fun K1 hK1 => ?_)
 refine wp_region_lit ?_
 refine goCh Hz (.loadBR m8 (i := 20) rfl rfl Tryz.underlying28 rfl sz28yD4 (by simp) (by dsimp only [List.drop, List.take] <;> rfl) .nil) ?_
 clear Hz Az; intro Az Hz
 refine wpList_plain rfl (fun K hK => ?_)
 refine e_call Hz Tryz.func32 rfl rfl rfl rfl (volcopy_fp _ _ _ _ _ _ _ _ _ place pins ws _ _ _ _ _ _ _ hn hp (by omega) hok (m8.into [(1, 1), (2, 2), (3, 3)] (by decide) rfl)) ?_
 rintro e w11 ⟨p111, c111, p211, c211, p311, c311, rfl, hm11⟩
 have mx11 := m8.back hm11 [(1, 1), (2, 2), (3, 3), (24, 4), (25, 5), (26, 6)] (by decide); clear hm11 m8
 have m11 : MemOk _ _ [(1, _), (2, _), (3, _), (24, _), (25, _), (26, _), (20, _), (21, _), (22, _), (23, _)] _ := mx11.only [1, 2, 3, 24, 25, 26, 20, 21, 22, 23]; clear mx11
 refine ⟨_, rfl, ?_⟩; clear Hz Az; intro Az Hz
 refine hK _ _ ?_; clear hK K
 refine wpList_plain rfl (fun K hK => ?_)
 refine e_storeW Hz m11 20 rfl rfl rfl rfl rfl sz28yD4 ?_
 clear m11; intro w13 m13 hB13
 clear hB13
 refine hK _ _ ?_; clear hK K
 refine wpList_nil ?_
 refine hK1 _ _ ?_; clear hK1; try clear K1
 refine wp_seq_k (fun K2 hK2 => ?_)
 refine wp_seq_k (fun K3 hK3 => ?_)
 refine wp_region_lit ?_
 refine goCh Hz (.loadBR m13 (i := 21) rfl rfl Tryz.underlying50 rfl sz50yD4 (by simp) (by dsimp only [List.drop, List.take] <;> rfl) .nil) ?_
 clear Hz Az; intro Az Hz
 refine wpList_plain rfl (fun K hK => ?_)
 refine e_call Hz Tryz.func33 rfl rfl rfl rfl (ydo4 _ _ _ _ _ _ _ _ _ _ place pins ws _ _ _ _ _ _ _ _ _ _ _ _ _ _ _ _ _ _ _ _ hp (m13.into [(1, 20), (4, 25)] (by decide) rfl)) ?_
 rintro e w16 ⟨pins1, e1, pn16, cn16, rfl, hR, hm16⟩
 have mx16 := m13.back hm16 [(20, 1), (25, 4)] (by decide); clear hm16 m13
 have m16 : MemOk _ _ [(20, _), (25, _), (1, _), (2, _), (3, _), (21, _), (22, _), (23, _), (24, _), (26, _)] _ := mx16.only [20, 25, 1, 2, 3, 21, 22, 23, 24, 26]; clear mx16
 refine ⟨_, rfl, ?_⟩; clear Hz Az; intro Az Hz
 refine hK _ _ ?_; clear hK K
 refine goCh Hz (.assign rfl .nil) ?_
 clear Hz Az; intro Az Hz
 refine wpList_nil ?_
 refine hK3 _ _ ?_; clear hK3; try clear K3
 replace Hz : Has 24 [(2, _), (4, _), (5, _), (6, _)] Az := Hz.only [2, 4, 5, 6]
 refine regS Hz (.move rfl <| .neq rfl rfl <| .nil) ?_
 clear Hz Az; intro Az Hz
 refine bool_cases Hz (t := 12) rfl ?_ ?_
 ·
  clear Hz; intro hb22 Hz
  try simp only [Q1x, Q2x, Q3x, Q4x, Q5x, Q6x, Q7x, Q8x, Q9x, Q0x, Qax, Qbx] at hb22
  refine wp_cond_true (Hz.ev (x := .tmp 12) rfl) ?_
  refine wp_seq_k (fun K4 hK4 => ?_)
  refine wp_region_lit ?_
  refine goCh Hz (.loadBR m16 (i := 20) rfl rfl Tryz.underlying28 rfl sz28yD4 (by simp) (by dsimp only [List.drop, List.take] <;> rfl) <| .move rfl <| .build rfl zc45yD4 fl45yD4 rfl (by dsimp only [setL, List.set] <;> rfl) <| .nil) ?_
  clear Hz Az; intro Az Hz
  refine wpList_plain rfl (fun K hK => ?_)
  refine e_storeW Hz m16 22 rfl rfl rfl rfl rfl sz28yD4 ?_
  clear m16; intro w29 m29 hB29
  clear hB29
  refine hK _ _ ?_; clear hK K
  refine wpList_plain rfl (fun K hK => ?_)
  refine e_storeW Hz m29 23 rfl rfl rfl rfl rfl sz45yD4 ?_
  clear m29; intro w30 m30 hB30
  clear hB30
  refine hK _ _ ?_; clear hK K
  refine wpList_nil ?_
  refine hK4 _ _ ?_; clear hK4; try clear K4
  refine wp_ret ?_
  try dsimp only [Exit.then, Exit.inBlock]
  refine (retCC (fn := Tryz.f14) Hz m30 (i := 22) (i2 := 23) rfl rfl rfl rfl rfl Tryz.underlying28 rfl sz28yD4 Tryz.underlying45 rfl sz45yD4 ?_)
  exact ⟨pins1, e1, 0, 0, 0, _, _, _, _, _, _, rfl, hR, .inl ⟨by assumption, rfl, rfl, rfl⟩, m30.ren [(1, 1), (2, 2), (3, 3), (5, 24), (6, 25), (7, 26)] (by decide)⟩
 ·
  clear Hz; intro hb22 Hz
  try simp only [Q1x, Q2x, Q3x, Q4x, Q5x, Q6x, Q7x, Q8x, Q9x, Q0x, Qax, Qbx] at hb22
  refine wp_cond_false (Hz.ev (x := .tmp 12) rfl) ?_
  refine wp_skip ?_
  refine hK2 _ _ ?_; clear hK2; try clear K2
  refine wp_seq_k (fun K5 hK5 => ?_)
  have m31 : MemOk _ _ [(1, _), (2, _), (3, _), (20, _), (21, _), (22, _), (23, _), (24, _), (25, _), (26, _)] _ := m16.only [1, 2, 3, 20, 21, 22, 23, 24, 25, 26]; clear m16
  refine region_p 10 (B := [(20, _)]) (m31.to ⟨il, trivial⟩) m31 (by kernel_rfl) (fun w32 hP32 m32 => ?_); clear m31
  refine goR hP32 [0, 1, 3, 4, 5, 6] [0, 1, 4, 6] 6 0 123 Hz (m32.to ⟨il, trivial⟩) (.loadBR hh (i := 20) rfl rfl Tryz.underlying28 rfl sz28yD4 (by simp) (by dsimp only [List.drop, List.take] <;> rfl) <| .loadBR hh (i := 20) rfl rfl Tryz.underlying28 rfl sz28yD4 (by simp) (by dsimp only [List.drop, List.take] <;> rfl) <| .fieldAddr (off := 8) rfl Tryz.underlying28 rfl (s := 0) (by kernel_rfl) rfl <| .loadB1 hh (i := 20) rfl rfl rfl Tryz.underlying2 rfl <| .fieldAddr (off := 6) rfl Tryz.underlying28 rfl (s := 0) (by kernel_rfl) rfl <| .loadB1 hh (i := 20) rfl rfl rfl Tryz.underlying3 rfl <| .nil) ?_
  clear Hz Az; intro Az Hz
  refine stepE_only 2 rfl (by kernel_rfl) rfl (fun K hK => ?_)
  refine e_call Hz Tryz.func18 rfl rfl rfl rfl (vlen_any _ _ _ _ _ _ _ _ _ _ _ _ _ _ _ _ _ _) ?_
  rintro e w39 ⟨rfl, hb39⟩
  have m40 := m32.later hb39
  clear m32
  clear hb39
  refine ⟨_, rfl, ?_⟩; clear Hz Az; intro Az Hz
  refine hK _ _ (m40.to ⟨il, trivial⟩) ?_; clear hK K
  refine goA hP32 [7] 1 127 255 Hz (m40.to ⟨il, trivial⟩) (.build rfl zc45yD4 fl45yD4 rfl (by dsimp only [setL, List.set] <;> rfl) <| .nil) ?_
  clear Hz Az; intro Az Hz
  refine stepE_only 8 rfl (by kernel_rfl) rfl (fun K hK => ?_)
  refine e_storeW Hz m40 22 rfl rfl rfl rfl rfl sz28yD4 ?_
  clear m40; intro w43 m43 hB43
  clear hB43
  refine hK _ _ (m43.to ⟨il, trivial⟩) ?_; clear hK K
  refine stepE_only 9 rfl (by kernel_rfl) rfl (fun K hK => ?_)
  refine e_storeW Hz m43 23 rfl rfl rfl rfl rfl sz45yD4 ?_
  clear m43; intro w44 m44 hB44
  clear hB44
  refine hK _ _ (m44.to ⟨il, trivial⟩) ?_; clear hK K
  refine wpAnyE_done (by kernel_rfl) ?_ _
  refine hK5 _ _ ?_; clear hK5; try clear K5
  refine wp_ret ?_
  try dsimp only [Exit.then, Exit.inBlock]
  refine (retCC (fn := Tryz.f14) Hz m44 (i := 22) (i2 := 23) rfl rfl rfl rfl rfl Tryz.underlying28 rfl sz28yD4 Tryz.underlying45 rfl sz45yD4 ?_)
  obtain rfl : e1 = 0 := by first | assumption | (simp_all; done) | omega
  exact ⟨pins1, 0, ws.length, fl, ne, _, _, _, _, _, _, by rw [List.length_map], hR, .inr ⟨rfl, rfl, rfl, rfl⟩, m44.ren [(1, 1), (2, 2), (3, 3), (5, 24), (6, 25), (7, 26)] (by decide)⟩
end Go.Proofs.YtocfbocdnklllaaGreat.K
