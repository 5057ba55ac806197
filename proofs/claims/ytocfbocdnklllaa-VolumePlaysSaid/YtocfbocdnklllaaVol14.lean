/- volume: pins. -/
import Derived.Test.YtocfbocdnklllaaVol12
import Derived.Test.YtocfbocdnklllaaAb21
import Derived.Test.YtocfbocdnklllaaVSort
namespace Go.Proofs.Ytocfbocdnklllaa.K
open Go.ChangeShapes Go.WideShapes Go.ChangeAt Go.RowKit Go.Sort
set_option linter.unusedVariables false
set_option linter.unusedSimpArgs false

theorem inf2p7 : (Try.prog.info? 2).map (fun i => (i.zero, i.size, i.bytes)) = some (some (.int .i64 0), 1, 8) := by kernel_rfl
theorem sz22vg : (Try.prog.info? 22).map (·.size) = some 1 := by kernel_rfl
theorem sz31vg : (Try.prog.info? 31).map (·.size) = some 1 := by kernel_rfl
theorem sz32vg : (Try.prog.info? 32).map (·.size) = some 1 := by kernel_rfl
theorem sz34vg : (Try.prog.info? 34).map (·.size) = some 11 := by kernel_rfl
theorem zc34vg : ((Try.prog.info? 34).bind (·.zero)).map (·.cells.toList) = some [.int .i64 0, .int .i64 0, .int .i64 0, .int .i64 0, .slice none 0 0, .int .i64 0, .int .i64 0, .bool false, .int .i64 0, .slice none 0 0, .slice none 0 0] := by kernel_rfl
theorem inf2yp : (Try.prog.info? 2).map (fun i => (i.zero, i.size, i.bytes)) = some (some (.int .i64 0), 1, 8) := by kernel_rfl
theorem sz31yp : (Try.prog.info? 31).map (·.size) = some 1 := by kernel_rfl
theorem sz34yp : (Try.prog.info? 34).map (·.size) = some 11 := by kernel_rfl
theorem sz31yu : (Try.prog.info? 31).map (·.size) = some 1 := by kernel_rfl


theorem fl45yD4 : flatS Try.prog 45 [.int .i64 0, .int .i64 0, .int .i64 0, .int .i64 0, .slice none 0 0] = true := by kernel_rfl
theorem sz25yD4 : (Try.prog.info? 25).map (·.size) = some 10 := by kernel_rfl
theorem sz34yD4 : (Try.prog.info? 34).map (·.size) = some 11 := by kernel_rfl
theorem sz45yD4 : (Try.prog.info? 45).map (·.size) = some 5 := by kernel_rfl
theorem zc34yD4 : ((Try.prog.info? 34).bind (·.zero)).map (·.cells.toList) = some [.int .i64 0, .int .i64 0, .int .i64 0, .int .i64 0, .slice none 0 0, .int .i64 0, .int .i64 0, .bool false, .int .i64 0, .slice none 0 0, .slice none 0 0] := by kernel_rfl
theorem zc45yD4 : ((Try.prog.info? 45).bind (·.zero)).map (·.cells.toList) = some [.int .i64 0, .int .i64 0, .int .i64 0, .int .i64 0, .slice none 0 0] := by kernel_rfl
theorem fl45yD5 : flatS Try.prog 45 [.int .i64 0, .int .i64 0, .int .i64 0, .int .i64 0, .slice none 0 0] = true := by kernel_rfl
theorem sz25yD5 : (Try.prog.info? 25).map (·.size) = some 10 := by kernel_rfl
theorem sz34yD5 : (Try.prog.info? 34).map (·.size) = some 11 := by kernel_rfl
theorem sz45yD5 : (Try.prog.info? 45).map (·.size) = some 5 := by kernel_rfl
theorem zc34yD5 : ((Try.prog.info? 34).bind (·.zero)).map (·.cells.toList) = some [.int .i64 0, .int .i64 0, .int .i64 0, .int .i64 0, .slice none 0 0, .int .i64 0, .int .i64 0, .bool false, .int .i64 0, .slice none 0 0, .slice none 0 0] := by kernel_rfl
theorem zc45yD5 : ((Try.prog.info? 45).bind (·.zero)).map (·.cells.toList) = some [.int .i64 0, .int .i64 0, .int .i64 0, .int .i64 0, .slice none 0 0] := by kernel_rfl

def sortP (l : List Int) : List Int := l.mergeSort fun x y => decide (x ≤ y)
def pinR (hi : Bool) (fl at0 nd : Int) (pins : List Int) : List Int × Int := if reachR hi fl at0 nd = 0 then (sortP (pins ++ [at0]), 0) else (pins, reachR hi fl at0 nd)
def unpinR (hi : Bool) (at0 : Int) (pins : List Int) : List Int × Int := if hi = true ∨ Lib.idxOf pins at0 < 0 then (pins, 28) else (pins.take (Lib.idxOf pins at0).toNat ++ pins.drop ((Lib.idxOf pins at0).toNat + 1), 0)
theorem idxFrom_lt (x : Int) : ∀ (zs : List Int) (i : Nat), 0 ≤ Lib.idxFrom zs x i → ∃ k : Nat, Lib.idxFrom zs x i = ((i + k : Nat) : Int) ∧ k < zs.length
 | [], i, h => by simp [Lib.idxFrom] at h
 | z :: zs, i, h => by
   unfold Lib.idxFrom at h ⊢
   split at h
   · rename_i e; rw [if_pos e]; exact ⟨0, rfl, by simp⟩
   · rename_i e
     rw [if_neg e]
     obtain ⟨k, h1, h2⟩ := idxFrom_lt x zs (i + 1) h
     exact ⟨k + 1, by rw [h1]; congr 1; omega, by simp; omega⟩
theorem idx_lt {zs : List Int} {x : Int} (h : 0 ≤ Lib.idxOf zs x) : ∃ k : Nat, Lib.idxOf zs x = (k : Int) ∧ k < zs.length := by
 obtain ⟨k, h1, h2⟩ := idxFrom_lt x zs 0 h
 exact ⟨k, by rw [Lib.idxOf, h1, Nat.zero_add], h2⟩
set_option maxRecDepth 100000
set_option maxHeartbeats 4000000
theorem index64_any (zs : List Int) (x : Int) (p : Option Addr) (c : Nat) (w : World) (h : Rd (fun _ => True) w (.slice p zs.length c) (.ns .i64 zs)) (hl : zs.length ≤ 1000000) :
   Calls Try.prog 79 #[.slice p zs.length c, .int .i64 x] w fun e w' => e = .returned (.int .i64 (Lib.idxOf zs x)) ∧ Below w.heap.size w w' := by
 obtain ⟨a, c2, hv, -, h0 | ⟨b, off, rfl, -, -, hc⟩⟩ := h.ns_out
 · obtain rfl := List.length_eq_zero_iff.1 h0
   refine (AnyG.slices_Index_int_empty Try.index64 p c x w).mono ?_
   rintro e w' ⟨rfl, rfl⟩; exact ⟨rfl, Below.refl _ _⟩
 · injection hv with h1 h2 h3; subst h1; subst h3
   refine (AnyG.slices_Index_int Try.index64 b off zs.length c zs x w (Nat.le_refl _) (by omega) hc).mono ?_
   rintro e w' ⟨rfl, rfl⟩; rw [List.take_length]; exact ⟨rfl, Below.refl _ _⟩
theorem sort64_fr (X : Cx) (p : Option Addr) (c : Nat) (zs : List Int) (w0 : World) (hl : zs.length ≤ 1000000) (m0 : MemOk X w0 [(1, .seg (.slice p zs.length c) 2 1 (zs.map nD))] w0) :
   Calls Try.prog 78 #[.slice p zs.length c] w0 fun e w' => e = .returned (.tuple #[]) ∧ MemOk X w0 [(1, .seg (.slice p zs.length c) 2 1 ((zs.mergeSort fun x y => decide (x ≤ y)).map nD))] w' := by
 have hs := (seg_nums (m0.ok 1 _ rfl).1).2
 rcases hs with ⟨e1, h0⟩ | ⟨g, off, cap, cur, e1, -, hb, hnc, hcm, hcs, htk⟩
 · obtain rfl := List.length_eq_zero_iff.1 h0
   refine (AnyG.slices_Sort_int_none Try.sort64 p c w0).mono ?_
   rintro e w' ⟨rfl, rfl⟩; exact ⟨rfl, by simpa using m0⟩
 · injection e1 with h1 h2 h3; subst h1; subst h3
   refine (AnyG.slices_Sort_int Try.sort64 g off c zs w0 (holds_at hb htk (by omega)) (Array.getElem?_eq_some_iff.1 hb).1 (by omega)).mono ?_
   rintro e w' ⟨rfl, n, os, rfl⟩
   exact ⟨rfl, (m0.putN 1 rfl (zs.mergeSort fun x y => decide (x ≤ y)) (by simp) n os).only [1]⟩
theorem delete64_fr (X : Cx) (p : Option Addr) (c : Nat) (zs : List Int) (k : Nat) (w0 : World) (hk : k < zs.length) (hl : zs.length ≤ 1000000) (m0 : MemOk X w0 [(1, .seg (.slice p zs.length c) 2 1 (zs.map nD))] w0) :
   Calls Try.prog 80 #[.slice p zs.length c, .int .i64 (k : Int), .int .i64 ((k + 1 : Nat) : Int)] w0 fun e w' => e = .returned (.slice p (zs.take k ++ zs.drop (k + 1)).length c) ∧ MemOk X w0 [(1, .seg (.slice p (zs.take k ++ zs.drop (k + 1)).length c) 2 1 ((zs.take k ++ zs.drop (k + 1)).map nD))] w' := by
 have hs := (seg_nums (m0.ok 1 _ rfl).1).2
 rcases hs with ⟨e1, h0⟩ | ⟨g, off, cap, cur, e1, -, hb, hnc, hcm, hcs, htk⟩
 · omega
 · injection e1 with h1 h2 h3; subst h1; subst h3
   refine (AnyG.slices_Delete_int Try.delete64 g off c k (k + 1) zs w0 (holds_at hb htk (by omega)) hnc (by unfold maxLen at hcm; omega) (by omega) (by omega)).mono ?_
   rintro e w' ⟨rfl, n, rfl⟩
   have hlen : (zs.take k ++ zs.drop (k + 1)).length = zs.length - (k + 1 - k) := by rw [List.length_append, List.length_take, List.length_drop]; omega
   have h1 := m0.putN 1 rfl (zs.take k ++ zs.drop (k + 1) ++ List.replicate (k + 1 - k) 0) (by rw [List.length_append, List.length_append, List.length_replicate, List.length_take, List.length_drop]; omega) n #[]
   rw [grow_empty] at h1
   have h2 := (h1.takeS 1 rfl (zs.take k ++ zs.drop (k + 1)).length (by simp)).only [1]
   rw [← List.map_take, List.take_left' rfl] at h2
   rw [← hlen]
   exact ⟨rfl, h2⟩
theorem plain64_own (d : List Int) (p0 : Option Addr) (c0 : Nat) (w0 : World) (h0 : Rd (fun _ => True) w0 (.slice p0 d.length c0) (.ns .i64 d)) (hd : d.length ≤ 1000000) :
   Calls Try.prog 56 #[.slice p0 d.length c0] w0 fun e w' => ∃ p c, e = .returned (.slice p d.length c) ∧ w'.ownsRow w0.heap.size 2 1 (.slice p d.length c) d.length (d.map (Value.int .i64)) ∧ Below w0.heap.size w0 w' := by
 refine enter (fn := Try.f56) Try.func56 rfl Try.ntmps56 rfl (fun a0 ha0 => ?_)
 simp only [List.zipIdx_cons, List.zipIdx_nil, List.map_cons, List.map_nil, Nat.reduceAdd, Nat.zero_add] at ha0
 have m0 := MemOk.start (fun _ => False) w0
 refine wp_seq_k (fun K0 hK0 => ?_)
 refine wp_region_lit ?_
 refine st_y ha0 rfl (y_assign ha0 rfl) ?_
 clear ha0 a0; intro a1 ha1
 refine wpList_nil ?_
 refine hK0 _ _ ?_; clear hK0; try clear K0
 refine wp_seq_k (fun K1 hK1 => ?_)
 refine wp_region_lit ?_
 refine st_y ha1 rfl (y_move ha1 rfl) ?_
 clear ha1 a1; intro a2 ha2
 refine wpList_plain rfl (fun K hK => ?_)
 refine e_app0N ha2 m0 2 rfl rfl (h0.now' m0 rfl).ns_out.nums Try.underlying31 inf2p7 (by decide) (by omega) rfl ?_
 clear ha2 a2 m0; intro p3 c3 a4 w4 ha4 m4
 refine hK _ _ ?_; clear hK K
 refine st_y ha4 rfl (y_assign ha4 rfl) ?_
 clear ha4 a4; intro a5 ha5
 refine wpList_nil ?_
 refine hK1 _ _ ?_; clear hK1; try clear K1
 refine wp_ret ?_
 try dsimp only [Exit.then, Exit.inBlock]
 refine (ret1 (fn := Try.f56) ha5 rfl rfl ?_)
 exact ⟨_, _, rfl, m4.ok 2 _ rfl, m4.below⟩
theorem volcopy_fp (X : Cx) (vo bl sz pe to ne fl : Int) (hi : Bool) (place pins : List Int) (ws : List (Int × List (Int × List Int))) (pp pn pw : Option Addr) (cp cn9 cw : Nat) (w0 : World) (hn : place.length ≤ 1000000) (hp : pins.length ≤ 900000) (hl : ws.length ≤ 1000000) (hok : WrsOk ws) (m0 : MemOk X w0 [(1, .dat (.slice pp place.length cp) (.ns .i64 place)), (2, .dat (.slice pn pins.length cn9) (.ns .i64 pins)), (3, .dat (.slice pw (ws.map wrD).length cw) (.l 2 (ws.map wrD)))] w0) :
   Calls Try.prog 42 #[.agg #[.int .i64 vo, .int .i64 bl, .int .i64 sz, .int .i64 pe, .slice pp place.length cp, .int .i64 to, .int .i64 ne, .bool hi, .int .i64 fl, .slice pn pins.length cn9, .slice pw (ws.map wrD).length cw]] w0 fun e w' => ∃ p1 c1 p2 c2 p3 c3, e = .returned (.agg #[.int .i64 vo, .int .i64 bl, .int .i64 sz, .int .i64 pe, .slice p1 place.length c1, .int .i64 to, .int .i64 ne, .bool hi, .int .i64 fl, .slice p2 pins.length c2, .slice p3 (ws.map wrD).length c3]) ∧ MemOk X w0 [(1, .dat (.slice pp place.length cp) (.ns .i64 place)), (2, .dat (.slice pn pins.length cn9) (.ns .i64 pins)), (3, .dat (.slice pw (ws.map wrD).length cw) (.l 2 (ws.map wrD))), (4, .dat (.slice p1 place.length c1) (.ns .i64 place)), (5, .seg (.slice p2 pins.length c2) 2 1 (pins.map nD)), (6, .seg (.slice p3 (ws.map wrD).length c3) 55 2 (ws.map wrD))] w' := by
 refine enter (fn := Try.f42) Try.func42 rfl Try.ntmps42 rfl (fun a0 ha0 => ?_)
 simp only [List.zipIdx_cons, List.zipIdx_nil, List.map_cons, List.map_nil, Nat.reduceAdd, Nat.zero_add] at ha0
 refine wp_seq_k (fun K0 hK0 => ?_)
 refine wp_region_lit ?_
 refine wpList_plain rfl (fun K hK => ?_)
 refine e_box ha0 m0 20 (cs := [_, _, _, _, _, _, _, _, _, _, _]) rfl rfl rfl ?_
 clear ha0 a0 m0; intro g1 a2 w2 ha2 m2 hB2 hg2
 clear hB2 hg2
 refine hK _ _ ?_; clear hK K
 refine wpList_plain rfl (fun K hK => ?_)
 refine e_alloc ha2 m2 21 zc34vg rfl ?_
 clear ha2 a2 m2; intro g3 a4 w4 ha4 m4 hB4 hg4
 clear hB4 hg4
 refine hK _ _ ?_; clear hK K
 refine wpList_nil ?_
 refine hK0 _ _ ?_; clear hK0; try clear K0
 refine wp_seq_k (fun K1 hK1 => ?_)
 have m5 : MemOk _ _ [(1, _), (2, _), (3, _), (20, _), (21, _)] _ := m4.only [1, 2, 3, 20, 21]; clear m4
 refine region_m 10 (B := [(1, _), (2, _), (3, _), (20, _), (21, _)]) (m5.to ⟨il, il, il, il, il, trivial⟩) m5 (by kernel_rfl) (fun w6 mB6 m6 => ?_); clear m5 mB6
 refine dyn 0 ha4 rfl rfl (m6.to ⟨il, il, il, il, il, trivial⟩) (fun W => y_fieldAddr ha4 (off := 4) rfl Try.underlying34 rfl (s := 0) (by kernel_rfl) rfl) ?_
 clear ha4 a4; intro a7 ha7
 refine dr 1 ha7 rfl rfl (m6.to ⟨il, il, il, il, il, trivial⟩) (fun W hW => y_loadB1 ha7 hW (i := 20) rfl rfl rfl Try.underlying22 rfl) ?_
 clear ha7 a7; intro a8 ha8
 refine dyn 3 ha8 rfl rfl (m6.to ⟨il, il, il, il, il, trivial⟩) (fun W => y_fieldAddr ha8 (off := 9) rfl Try.underlying34 rfl (s := 0) (by kernel_rfl) rfl) ?_
 clear ha8 a8; intro a9 ha9
 refine dr 4 ha9 rfl rfl (m6.to ⟨il, il, il, il, il, trivial⟩) (fun W hW => y_loadB1 ha9 hW (i := 20) rfl rfl rfl Try.underlying31 rfl) ?_
 clear ha9 a9; intro a10 ha10
 refine dyn 6 ha10 rfl rfl (m6.to ⟨il, il, il, il, il, trivial⟩) (fun W => y_fieldAddr ha10 (off := 10) rfl Try.underlying34 rfl (s := 0) (by kernel_rfl) rfl) ?_
 clear ha10 a10; intro a11 ha11
 refine dr 7 ha11 rfl rfl (m6.to ⟨il, il, il, il, il, trivial⟩) (fun W hW => y_loadB1 ha11 hW (i := 20) rfl rfl rfl Try.underlying32 rfl) ?_
 clear ha11 a11; intro a12 ha12
 refine stepE_only 2 rfl (by kernel_rfl) rfl (fun K hK => ?_)
 refine e_call ha12 Try.func37 rfl rfl rfl rfl (plainI_any place _ _ _ ((m6.rd (i := 1) rfl).any) hn) ?_
 rintro e w13 ⟨p13, c13, rfl, hd13, hb13⟩
 have m14 := m6.callF 22 rfl hb13 hd13
 clear m6
 clear hb13 hd13
 refine ⟨_, rfl, fun a15 ha15 => ?_⟩; clear ha12 a12
 refine hK _ _ (m14.to ⟨il, il, il, il, il, trivial⟩) ?_; clear hK K
 refine dyn 9 ha15 rfl rfl (m14.to ⟨il, il, il, il, il, trivial⟩) (fun W => y_fieldAddr ha15 (off := 4) rfl Try.underlying34 rfl (s := 0) (by kernel_rfl) rfl) ?_
 clear ha15 a15; intro a16 ha16
 refine stepE_only 5 rfl (by kernel_rfl) rfl (fun K hK => ?_)
 refine e_call ha16 Try.func56 rfl rfl rfl rfl (plain64_own pins _ _ _ ((m14.rd (i := 2) rfl).any) (by omega)) ?_
 rintro e w17 ⟨p17, c17, rfl, ho17, hb17⟩
 have m18 := (m14.newN 23 hb17 ho17).numS 23 rfl
 clear m14
 clear hb17 ho17
 refine ⟨_, rfl, fun a19 ha19 => ?_⟩; clear ha16 a16
 refine hK _ _ (m18.to ⟨il, il, il, il, il, trivial⟩) ?_; clear hK K
 refine stepE_only 8 rfl (by kernel_rfl) rfl (fun K hK => ?_)
 refine e_call ha19 Try.func57 rfl rfl rfl rfl (listW_own ws _ _ _ _ ((m18.rd (i := 3) rfl).any) hl hok) ?_
 rintro e w20 ⟨p20, c20, rfl, ho20, hb20⟩
 have m21 := m18.callR 24 hb20 (ho20.cast (fun b h => ⟨h.1.elim False.elim .inr, h.2⟩))
 clear m18
 have m22 := m21.rowS 24 rfl
 clear m21
 clear hb20 ho20
 refine ⟨_, rfl, fun a23 ha23 => ?_⟩; clear ha19 a19
 refine hK _ _ (m22.to ⟨il, il, il, il, il, trivial⟩) ?_; clear hK K
 refine stepE_end 10 rfl (by kernel_rfl) rfl (by rfl) (fun K hK => ?_)
 refine e_store1 ha23 m22 20 rfl rfl rfl rfl rfl sz22vg (by dsimp only [List.set] <;> rfl) ?_
 clear m22; intro w24 m24 hB24
 clear hB24
 refine hK _ _ ?_; clear hK K
 refine dyp 11 ha23 rfl rfl (fun W => y_fieldAddr ha23 (off := 9) rfl Try.underlying34 rfl (s := 0) (by kernel_rfl) rfl) ?_
 clear ha23 a23; intro a25 ha25
 refine stepE_end 12 rfl (by kernel_rfl) rfl (by rfl) (fun K hK => ?_)
 refine e_store1 ha25 m24 20 rfl rfl rfl rfl rfl sz31vg (by dsimp only [List.set] <;> rfl) ?_
 clear m24; intro w26 m26 hB26
 clear hB26
 refine hK _ _ ?_; clear hK K
 refine dyp 13 ha25 rfl rfl (fun W => y_fieldAddr ha25 (off := 10) rfl Try.underlying34 rfl (s := 0) (by kernel_rfl) rfl) ?_
 clear ha25 a25; intro a27 ha27
 refine stepE_end 14 rfl (by kernel_rfl) rfl (by rfl) (fun K hK => ?_)
 refine e_store1 ha27 m26 20 rfl rfl rfl rfl rfl sz32vg (by dsimp only [List.set] <;> rfl) ?_
 clear m26; intro w28 m28 hB28
 clear hB28
 refine hK _ _ ?_; clear hK K
 refine wpAnyE_done (by kernel_rfl) ?_ _
 refine hK1 _ _ ?_; clear hK1; try clear K1
 refine wp_seq_k (fun K2 hK2 => ?_)
 have ha29 : Has 16 [(1, _), (2, _)] a27 := ha27.only [1, 2]; clear ha27
 refine wp_region_lit ?_
 refine st_y ha29 rfl (y_loadBR ha29 m28 (i := 20) rfl rfl Try.underlying34 rfl sz34vg (by simp) (by dsimp only [List.drop, List.take] <;> rfl)) ?_
 clear ha29 a27; intro a30 ha30
 refine wpList_plain rfl (fun K hK => ?_)
 refine e_storeW ha30 m28 21 rfl rfl rfl rfl rfl sz34vg ?_
 clear m28; intro w31 m31 hB31
 clear hB31
 refine hK _ _ ?_; clear hK K
 refine wpList_nil ?_
 refine hK2 _ _ ?_; clear hK2; try clear K2
 refine wp_ret ?_
 try dsimp only [Exit.then, Exit.inBlock]
 refine (retC (fn := Try.f42) ha30 m31 (i := 21) rfl rfl rfl Try.underlying34 rfl sz34vg ?_)
 exact ⟨_, _, _, _, _, _, rfl, m31.ren [(1, 1), (2, 2), (3, 3), (4, 22), (5, 23), (6, 24)] (by decide)⟩
theorem ypin (X : Cx) (B : Nat) (vo bl sz pe to ne fl : Int) (hi : Bool) (place pins : List Int) (ws : List (Int × List (Int × List Int))) (pp pn pw : Option Addr) (cp cn9 cw : Nat) (at0 : Int) (w0 : World) (hp : pins.length ≤ 900000) (m0 : MemOk X w0 [(1, .box B 34 [.int .i64 vo, .int .i64 bl, .int .i64 sz, .int .i64 pe, .slice pp place.length cp, .int .i64 to, .int .i64 ne, .bool hi, .int .i64 fl, .slice pn pins.length cn9, .slice pw (ws.map wrD).length cw]), (4, .seg (.slice pn pins.length cn9) 2 1 (pins.map nD))] w0) :
   Calls Try.prog 61 #[.pointer (some ⟨B, 0, none⟩), .int .i64 at0] w0 fun e w' => ∃ (pins' : List Int) (e9 : Int) (pn' : Option Addr) (cn' : Nat), e = .returned (.int .i64 e9) ∧ pinR hi fl at0 ws.length pins = (pins', e9) ∧ MemOk X w0 [(1, .box B 34 [.int .i64 vo, .int .i64 bl, .int .i64 sz, .int .i64 pe, .slice pp place.length cp, .int .i64 to, .int .i64 ne, .bool hi, .int .i64 fl, .slice pn' pins'.length cn', .slice pw (ws.map wrD).length cw]), (4, .seg (.slice pn' pins'.length cn') 2 1 (pins'.map nD))] w' := by
 refine enter (fn := Try.f61) Try.func61 rfl Try.ntmps61 rfl (fun a0 ha0 => ?_)
 simp only [List.zipIdx_cons, List.zipIdx_nil, List.map_cons, List.map_nil, Nat.reduceAdd, Nat.zero_add] at ha0
 refine wp_seq_k (fun K0 hK0 => ?_)
 refine wp_region_lit ?_
 refine st_y ha0 rfl (y_assign ha0 rfl) ?_
 clear ha0 a0; intro a1 ha1
 refine wpList_nil ?_
 refine hK0 _ _ ?_; clear hK0; try clear K0
 refine wp_seq_k (fun K1 hK1 => ?_)
 refine wp_region_lit ?_
 refine st_y ha1 rfl (y_move ha1 rfl) ?_
 clear ha1 a1; intro a2 ha2
 refine st_y ha2 rfl (y_move ha2 rfl) ?_
 clear ha2 a2; intro a3 ha3
 refine st_y ha3 rfl (y_move ha3 rfl) ?_
 clear ha3 a3; intro a4 ha4
 refine st_y ha4 rfl (y_nilCheck ha4 rfl) ?_
 clear ha4 a4; intro a5 ha5
 refine st_y ha5 rfl (y_loadBR ha5 m0 (i := 1) rfl rfl Try.underlying34 rfl sz34yp (by simp) (by dsimp only [List.drop, List.take] <;> rfl)) ?_
 clear ha5 a5; intro a6 ha6
 refine wpList_plain rfl (fun K hK => ?_)
 refine e_call ha6 Try.func20 rfl rfl rfl rfl (vlen_any _ _ _ _ _ _ _ _ _ _ _ _ _ _ _ _ _ _) ?_
 rintro e w7 ⟨rfl, hb7⟩
 rw [List.length_map]
 have m8 := m0.later hb7
 clear m0
 clear hb7
 refine ⟨_, rfl, fun a9 ha9 => ?_⟩; clear ha6 a6
 refine hK _ _ ?_; clear hK K
 refine wpList_plain rfl (fun K hK => ?_)
 refine e_call ha9 Try.func77 rfl rfl rfl rfl (xreach _ _ _ _ _ _ _ _ _ _ place pins ws _ _ _ _ _ _ _ _ _ (m8.into [(1, 1)] (by decide) rfl)) ?_
 rintro e w10 ⟨ex, rfl, hr, hm10⟩
 have mx10 := m8.back hm10 [(1, 1)] (by decide); clear hm10 m8
 have m10 : MemOk _ _ [(1, _), (4, _)] _ := mx10.only [1, 4]; clear mx10
 refine ⟨_, rfl, fun a11 ha11 => ?_⟩; clear ha9 a9
 refine hK _ _ ?_; clear hK K
 refine st_y ha11 rfl (y_assign ha11 rfl) ?_
 clear ha11 a11; intro a12 ha12
 refine wpList_nil ?_
 refine hK1 _ _ ?_; clear hK1; try clear K1
 refine wp_seq_k (fun K2 hK2 => ?_)
 refine wp_seq_k (fun K3 hK3 => ?_)
 have ha13 : Has 31 [(0, _), (1, _), (4, _), (5, _)] a12 := ha12.only [0, 1, 4, 5]; clear ha12
 refine wp_region_lit ?_
 refine st_y ha13 rfl (y_move ha13 rfl) ?_
 clear ha13 a12; intro a14 ha14
 refine st_y ha14 rfl (y_eql ha14 rfl rfl) ?_
 clear ha14 a14; intro a15 ha15
 refine wpList_nil ?_
 refine hK3 _ _ ?_; clear hK3; try clear K3
 refine bool_cases ha15 (t := 14) rfl (fun hb16 ha16 => ?_) (fun hb16 ha16 => ?_)
 ·
  clear ha15
  try simp only [Q1x, Q2x, Q3x, Q4x, Q5x, Q6x, Q7x, Q8x, Q9x, Q0x, Qax, Qbx] at hb16
  refine wp_cond_true (ha16.ev (x := .tmp 14) rfl) ?_
  refine wp_seq_k (fun K4 hK4 => ?_)
  refine wp_region_lit ?_
  refine st_y ha16 rfl (y_move ha16 rfl) ?_
  clear ha16 a15; intro a17 ha17
  refine st_y ha17 rfl (y_move ha17 rfl) ?_
  clear ha17 a17; intro a18 ha18
  refine st_y ha18 rfl (y_nilCheck ha18 rfl) ?_
  clear ha18 a18; intro a19 ha19
  refine st_y ha19 rfl (y_fieldAddr ha19 (off := 9) rfl Try.underlying34 rfl (s := 0) (by kernel_rfl) rfl) ?_
  clear ha19 a19; intro a20 ha20
  refine st_y ha20 rfl (y_loadB1 ha20 m10 (i := 1) rfl rfl rfl Try.underlying31 rfl) ?_
  clear ha20 a20; intro a21 ha21
  refine st_y ha21 rfl (y_move ha21 rfl) ?_
  clear ha21 a21; intro a22 ha22
  refine wpList_plain rfl (fun K hK => ?_)
  refine e_litN ha22 m10 20 (k := .i64) rfl rfl Try.underlying31 inf2yp rfl rfl rfl rfl ?_
  clear ha22 a22 m10; intro g23 a24 w24 ha24 m24
  refine hK _ _ ?_; clear hK K
  have m26 := m24.numS 20 rfl; clear m24
  refine wpList_plain rfl (fun K hK => ?_)
  refine e_appSA ha24 m26 4 rfl rfl rfl (m26.srcS (i := 20) rfl) Try.underlying31 inf2yp rfl rfl (by decide) (by simp; omega) rfl ?_
  clear ha24 a24 m26; intro p25 c25 a27 w27 ha27 m27
  refine hK _ _ ?_; clear hK K
  refine st_y ha27 rfl (y_nilCheck ha27 rfl) ?_
  clear ha27 a27; intro a28 ha28
  refine st_y ha28 rfl (y_fieldAddr ha28 (off := 9) rfl Try.underlying34 rfl (s := 0) (by kernel_rfl) rfl) ?_
  clear ha28 a28; intro a29 ha29
  refine wpList_plain rfl (fun K hK => ?_)
  refine e_store1 ha29 m27 1 rfl rfl rfl rfl rfl sz31yp (by dsimp only [List.set] <;> rfl) ?_
  clear m27; intro w30 m30 hB30
  clear hB30
  refine hK _ _ ?_; clear hK K
  refine wpList_nil ?_
  refine hK4 _ _ ?_; clear hK4; try clear K4
  have ha31 : Has 31 [(0, _), (4, _), (5, _), (14, _)] a29 := ha29.only [0, 4, 5, 14]; clear ha29
  refine wp_region_lit ?_
  refine st_y ha31 rfl (y_move ha31 rfl) ?_
  clear ha31 a29; intro a32 ha32
  refine st_y ha32 rfl (y_nilCheck ha32 rfl) ?_
  clear ha32 a32; intro a33 ha33
  refine st_y ha33 rfl (y_fieldAddr ha33 (off := 9) rfl Try.underlying34 rfl (s := 0) (by kernel_rfl) rfl) ?_
  clear ha33 a33; intro a34 ha34
  refine st_y ha34 rfl (y_loadB1 ha34 m30 (i := 1) rfl rfl rfl Try.underlying31 rfl) ?_
  clear ha34 a34; intro a35 ha35
  rw [← List.map_append, List.length_map] at m30 ha35
  refine wpList_plain rfl (fun K hK => ?_)
  refine e_call ha35 Try.func78 rfl rfl rfl rfl (sort64_fr _ _ _ (pins ++ [at0]) _ (by simp; omega) (m30.into [(1, 4)] (by decide) rfl)) ?_
  rintro e w36 ⟨rfl, hm36⟩
  have mx36 := m30.back hm36 [(4, 1)] (by decide); clear hm36 m30
  have m36 : MemOk _ _ [(4, _), (1, _), (20, _)] _ := mx36.only [4, 1, 20]; clear mx36
  refine ⟨_, rfl, fun a37 ha37 => ?_⟩; clear ha35 a35
  refine hK _ _ ?_; clear hK K
  refine wpList_nil ?_
  refine hK2 _ _ ?_; clear hK2; try clear K2
  refine wp_seq_k (fun K5 hK5 => ?_)
  have ha38 : Has 31 [(4, _), (5, _), (14, _)] a37 := ha37.only [4, 5, 14]; clear ha37
  refine wp_region_lit ?_
  refine st_y ha38 rfl (y_move ha38 rfl) ?_
  clear ha38 a37; intro a39 ha39
  refine st_y ha39 rfl (y_assign ha39 rfl) ?_
  clear ha39 a39; intro a40 ha40
  refine wpList_nil ?_
  refine hK5 _ _ ?_; clear hK5; try clear K5
  refine wp_ret ?_
  try dsimp only [Exit.then, Exit.inBlock]
  refine (ret1 (fn := Try.f61) ha40 rfl rfl ?_)
  have hl9 : (pins ++ [at0]).length = (sortP (pins ++ [at0])).length := by simp [sortP]
  rw [show List.mergeSort (pins ++ [at0]) (fun x y => decide (x ≤ y)) = sortP (pins ++ [at0]) from rfl, hl9] at m36
  exact ⟨sortP (pins ++ [at0]), 0, _, _, by simp_all, by rw [pinR, if_pos (by rw [hr]; assumption)], m36.only [1, 4]⟩
 ·
  clear ha15
  try simp only [Q1x, Q2x, Q3x, Q4x, Q5x, Q6x, Q7x, Q8x, Q9x, Q0x, Qax, Qbx] at hb16
  refine wp_cond_false (ha16.ev (x := .tmp 14) rfl) ?_
  refine wp_skip ?_
  refine hK2 _ _ ?_; clear hK2; try clear K2
  refine wp_seq_k (fun K6 hK6 => ?_)
  refine wp_region_lit ?_
  refine st_y ha16 rfl (y_move ha16 rfl) ?_
  clear ha16 a15; intro a41 ha41
  refine st_y ha41 rfl (y_assign ha41 rfl) ?_
  clear ha41 a41; intro a42 ha42
  refine wpList_nil ?_
  refine hK6 _ _ ?_; clear hK6; try clear K6
  refine wp_ret ?_
  try dsimp only [Exit.then, Exit.inBlock]
  refine (ret1 (fn := Try.f61) ha42 rfl rfl ?_)
  exact ⟨pins, ex, _, _, rfl, by rw [pinR, if_neg (by rw [hr]; assumption), hr], m10.only [1, 4]⟩
theorem yunpin (X : Cx) (B : Nat) (vo bl sz pe to ne fl : Int) (hi : Bool) (place pins : List Int) (ws : List (Int × List (Int × List Int))) (pp pn pw : Option Addr) (cp cn9 cw : Nat) (at0 : Int) (w0 : World) (hp : pins.length ≤ 900000) (m0 : MemOk X w0 [(1, .box B 34 [.int .i64 vo, .int .i64 bl, .int .i64 sz, .int .i64 pe, .slice pp place.length cp, .int .i64 to, .int .i64 ne, .bool hi, .int .i64 fl, .slice pn pins.length cn9, .slice pw (ws.map wrD).length cw]), (4, .seg (.slice pn pins.length cn9) 2 1 (pins.map nD))] w0) :
   Calls Try.prog 62 #[.pointer (some ⟨B, 0, none⟩), .int .i64 at0] w0 fun e w' => ∃ (pins' : List Int) (e9 : Int) (pn' : Option Addr) (cn' : Nat), e = .returned (.int .i64 e9) ∧ unpinR hi at0 pins = (pins', e9) ∧ MemOk X w0 [(1, .box B 34 [.int .i64 vo, .int .i64 bl, .int .i64 sz, .int .i64 pe, .slice pp place.length cp, .int .i64 to, .int .i64 ne, .bool hi, .int .i64 fl, .slice pn' pins'.length cn', .slice pw (ws.map wrD).length cw]), (4, .seg (.slice pn' pins'.length cn') 2 1 (pins'.map nD))] w' := by
 refine enter (fn := Try.f62) Try.func62 rfl Try.ntmps62 rfl (fun a0 ha0 => ?_)
 simp only [List.zipIdx_cons, List.zipIdx_nil, List.map_cons, List.map_nil, Nat.reduceAdd, Nat.zero_add] at ha0
 refine wp_seq_k (fun K0 hK0 => ?_)
 refine wp_region_lit ?_
 refine st_y ha0 rfl (y_assign ha0 rfl) ?_
 clear ha0 a0; intro a1 ha1
 refine wpList_nil ?_
 refine hK0 _ _ ?_; clear hK0; try clear K0
 refine wp_seq_k (fun K1 hK1 => ?_)
 refine wp_region_lit ?_
 refine st_y ha1 rfl (y_move ha1 rfl) ?_
 clear ha1 a1; intro a2 ha2
 refine st_y ha2 rfl (y_nilCheck ha2 rfl) ?_
 clear ha2 a2; intro a3 ha3
 refine st_y ha3 rfl (y_fieldAddr ha3 (off := 9) rfl Try.underlying34 rfl (s := 0) (by kernel_rfl) rfl) ?_
 clear ha3 a3; intro a4 ha4
 refine st_y ha4 rfl (y_loadB1 ha4 m0 (i := 1) rfl rfl rfl Try.underlying31 rfl) ?_
 clear ha4 a4; intro a5 ha5
 refine st_y ha5 rfl (y_move ha5 rfl) ?_
 clear ha5 a5; intro a6 ha6
 refine wpList_plain rfl (fun K hK => ?_)
 refine e_call ha6 Try.func79 rfl rfl rfl rfl (index64_any pins at0 _ _ _ (m0.rdN (i := 4) rfl) (by omega)) ?_
 rintro e w7 ⟨rfl, hb7⟩
 have m8 := m0.later hb7
 clear m0
 clear hb7
 refine ⟨_, rfl, fun a9 ha9 => ?_⟩; clear ha6 a6
 refine hK _ _ ?_; clear hK K
 refine st_y ha9 rfl (y_assign ha9 rfl) ?_
 clear ha9 a9; intro a10 ha10
 refine wpList_nil ?_
 refine hK1 _ _ ?_; clear hK1; try clear K1
 refine wp_seq_k (fun K2 hK2 => ?_)
 refine wp_seq_k (fun K3 hK3 => ?_)
 have ha11 : Has 32 [(0, _), (4, _), (5, _)] a10 := ha10.only [0, 4, 5]; clear ha10
 refine wp_region_lit ?_
 refine st_y ha11 rfl (y_move ha11 rfl) ?_
 clear ha11 a10; intro a12 ha12
 refine st_y ha12 rfl (y_nilCheck ha12 rfl) ?_
 clear ha12 a12; intro a13 ha13
 refine st_y ha13 rfl (y_fieldAddr ha13 (off := 7) rfl Try.underlying34 rfl (s := 0) (by kernel_rfl) rfl) ?_
 clear ha13 a13; intro a14 ha14
 refine st_y ha14 rfl (y_loadB1 ha14 m8 (i := 1) rfl rfl rfl Try.underlying4 rfl) ?_
 clear ha14 a14; intro a15 ha15
 refine st_y ha15 rfl (y_move ha15 rfl) ?_
 clear ha15 a15; intro a16 ha16
 refine bool_cases ha16 (t := 16) rfl (fun hb17 ha17 => ?_) (fun hb17 ha17 => ?_)
 ·
  clear ha16
  try simp only [Q1x, Q2x, Q3x, Q4x, Q5x, Q6x, Q7x, Q8x, Q9x, Q0x, Qax, Qbx] at hb17
  refine st_skip ha17 rfl rfl rfl rfl ?_
  clear ha17 a16; intro a18 ha18
  refine st_skip ha18 rfl rfl rfl rfl ?_
  clear ha18 a18; intro a19 ha19
  refine st_y ha19 rfl (y_pickT ha19 rfl rfl) ?_
  clear ha19 a19; intro a20 ha20
  refine wpList_nil ?_
  refine hK3 _ _ ?_; clear hK3; try clear K3
  refine wp_cond_true (ha20.ev (x := .tmp 19) rfl) ?_
  refine wp_seq_k (fun K4 hK4 => ?_)
  refine wp_region_lit ?_
  refine st_y ha20 rfl (y_assign ha20 rfl) ?_
  clear ha20 a20; intro a21 ha21
  refine wpList_nil ?_
  refine hK4 _ _ ?_; clear hK4; try clear K4
  refine wp_ret ?_
  try dsimp only [Exit.then, Exit.inBlock]
  refine (ret1 (fn := Try.f62) ha21 rfl rfl ?_)
  exact ⟨pins, 28, _, _, rfl, by rw [unpinR, if_pos (by first | (left; assumption) | (right; omega))], m8.only [1, 4]⟩
 ·
  clear ha16
  try simp only [Q1x, Q2x, Q3x, Q4x, Q5x, Q6x, Q7x, Q8x, Q9x, Q0x, Qax, Qbx] at hb17
  refine st_g ha17 rfl rfl rfl rfl (y_move ha17 rfl) ?_
  clear ha17 a16; intro a22 ha22
  refine st_g ha22 rfl rfl rfl rfl (y_lss ha22 rfl rfl) ?_
  clear ha22 a22; intro a23 ha23
  refine st_y ha23 rfl (y_pickF ha23 rfl rfl) ?_
  clear ha23 a23; intro a24 ha24
  refine wpList_nil ?_
  refine hK3 _ _ ?_; clear hK3; try clear K3
  refine bool_cases ha24 (t := 19) rfl (fun hb25 ha25 => ?_) (fun hb25 ha25 => ?_)
  ·
   clear ha24
   try simp only [Q1x, Q2x, Q3x, Q4x, Q5x, Q6x, Q7x, Q8x, Q9x, Q0x, Qax, Qbx] at hb25
   refine wp_cond_true (ha25.ev (x := .tmp 19) rfl) ?_
   refine wp_seq_k (fun K5 hK5 => ?_)
   refine wp_region_lit ?_
   refine st_y ha25 rfl (y_assign ha25 rfl) ?_
   clear ha25 a24; intro a26 ha26
   refine wpList_nil ?_
   refine hK5 _ _ ?_; clear hK5; try clear K5
   refine wp_ret ?_
   try dsimp only [Exit.then, Exit.inBlock]
   refine (ret1 (fn := Try.f62) ha26 rfl rfl ?_)
   exact ⟨pins, 28, _, _, rfl, by rw [unpinR, if_pos (by first | (left; assumption) | (right; omega))], m8.only [1, 4]⟩
  ·
   clear ha24
   try simp only [Q1x, Q2x, Q3x, Q4x, Q5x, Q6x, Q7x, Q8x, Q9x, Q0x, Qax, Qbx] at hb25
   obtain ⟨k, hk, hk2⟩ := idx_lt (zs := pins) (x := at0) (by omega)
   rw [hk] at ha25
   refine wp_cond_false (ha25.ev (x := .tmp 19) rfl) ?_
   refine wp_skip ?_
   refine hK2 _ _ ?_; clear hK2; try clear K2
   refine wp_seq_k (fun K6 hK6 => ?_)
   refine wp_region_lit ?_
   refine st_y ha25 rfl (y_move ha25 rfl) ?_
   clear ha25 a24; intro a27 ha27
   refine st_y ha27 rfl (y_move ha27 rfl) ?_
   clear ha27 a27; intro a28 ha28
   refine st_y ha28 rfl (y_nilCheck ha28 rfl) ?_
   clear ha28 a28; intro a29 ha29
   refine st_y ha29 rfl (y_fieldAddr ha29 (off := 9) rfl Try.underlying34 rfl (s := 0) (by kernel_rfl) rfl) ?_
   clear ha29 a29; intro a30 ha30
   refine st_y ha30 rfl (y_loadB1 ha30 m8 (i := 1) rfl rfl rfl Try.underlying31 rfl) ?_
   clear ha30 a30; intro a31 ha31
   refine st_y ha31 rfl (y_move ha31 rfl) ?_
   clear ha31 a31; intro a32 ha32
   refine st_y ha32 rfl (y_move ha32 rfl) ?_
   clear ha32 a32; intro a33 ha33
   refine st_y ha33 rfl (y_add ha33 rfl rfl (r := ((k + 1 : Nat) : Int)) (by rw [IntWalk.i64_in _ (by omega)]; omega)) ?_
   clear ha33 a33; intro a34 ha34
   refine wpList_plain rfl (fun K hK => ?_)
   refine e_call ha34 Try.func80 rfl rfl rfl rfl (delete64_fr _ _ _ pins k _ hk2 (by omega) (m8.into [(1, 4)] (by decide) rfl)) ?_
   rintro e w35 ⟨rfl, hm35⟩
   have mx35 := m8.back hm35 [(4, 1)] (by decide); clear hm35 m8
   have m35 : MemOk _ _ [(4, _), (1, _)] _ := mx35.only [4, 1]; clear mx35
   refine ⟨_, rfl, fun a36 ha36 => ?_⟩; clear ha34 a34
   refine hK _ _ ?_; clear hK K
   refine wpList_plain rfl (fun K hK => ?_)
   refine e_call ha36 Try.func56 rfl rfl rfl rfl (plain64_own (pins.take k ++ pins.drop (k + 1)) _ _ _ ((m35.rdN (i := 4) rfl)) (by simp; omega)) ?_
   rintro e w37 ⟨p37, c37, rfl, ho37, hb37⟩
   have m38 := (m35.newN 20 hb37 ho37).numS 20 rfl
   clear m35
   clear hb37 ho37
   refine ⟨_, rfl, fun a39 ha39 => ?_⟩; clear ha36 a36
   refine hK _ _ ?_; clear hK K
   refine st_y ha39 rfl (y_nilCheck ha39 rfl) ?_
   clear ha39 a39; intro a40 ha40
   refine st_y ha40 rfl (y_fieldAddr ha40 (off := 9) rfl Try.underlying34 rfl (s := 0) (by kernel_rfl) rfl) ?_
   clear ha40 a40; intro a41 ha41
   refine wpList_plain rfl (fun K hK => ?_)
   refine e_store1 ha41 m38 1 rfl rfl rfl rfl rfl sz31yu (by dsimp only [List.set] <;> rfl) ?_
   clear m38; intro w42 m42 hB42
   clear hB42
   refine hK _ _ ?_; clear hK K
   refine wpList_nil ?_
   refine hK6 _ _ ?_; clear hK6; try clear K6
   refine wp_seq_k (fun K7 hK7 => ?_)
   have ha43 : Has 32 [(4, _), (15, _), (16, _), (19, _)] a41 := ha41.only [4, 15, 16, 19]; clear ha41
   refine wp_region_lit ?_
   refine st_y ha43 rfl (y_assign ha43 rfl) ?_
   clear ha43 a41; intro a44 ha44
   refine wpList_nil ?_
   refine hK7 _ _ ?_; clear hK7; try clear K7
   refine wp_ret ?_
   try dsimp only [Exit.then, Exit.inBlock]
   refine (ret1 (fn := Try.f62) ha44 rfl rfl ?_)
   exact ⟨pins.take k ++ pins.drop (k + 1), 0, _, _, rfl, by rw [unpinR, if_neg (by rintro (h | h) <;> first | omega | simp_all), hk]; simp, m42.ren [(1, 1), (4, 20)] (by decide)⟩
theorem ydo4 (X : Cx) (B : Nat) (vo bl sz pe to ne fl : Int) (hi : Bool) (place pins : List Int) (ws : List (Int × List (Int × List Int))) (pp pn pw : Option Addr) (cp cn9 cw : Nat) (v1 v2 v3 v4 v5 at0 v6 : Int) (q1 : Option Addr) (n1 c1 : Nat) (q2 : Option Addr) (n2 c2 : Nat) (w0 : World) (hp : pins.length ≤ 900000) (m0 : MemOk X w0 [(1, .box B 34 [.int .i64 vo, .int .i64 bl, .int .i64 sz, .int .i64 pe, .slice pp place.length cp, .int .i64 to, .int .i64 ne, .bool hi, .int .i64 fl, .slice pn pins.length cn9, .slice pw (ws.map wrD).length cw]), (4, .seg (.slice pn pins.length cn9) 2 1 (pins.map nD))] w0) :
   Calls Try.prog 43 #[.pointer (some ⟨B, 0, none⟩), .agg #[.int .i64 4, .int .i64 v1, .int .i64 v2, .int .i64 v3, .int .i64 v4, .slice q1 n1 c1, .int .i64 v5, .int .i64 at0, .int .i64 v6, .slice q2 n2 c2]] w0 fun e w' => ∃ (pins' : List Int) (e9 : Int) (pn' : Option Addr) (cn' : Nat), e = .returned (.int .i64 e9) ∧ pinR hi fl at0 ws.length pins = (pins', e9) ∧ MemOk X w0 [(1, .box B 34 [.int .i64 vo, .int .i64 bl, .int .i64 sz, .int .i64 pe, .slice pp place.length cp, .int .i64 to, .int .i64 ne, .bool hi, .int .i64 fl, .slice pn' pins'.length cn', .slice pw (ws.map wrD).length cw]), (4, .seg (.slice pn' pins'.length cn') 2 1 (pins'.map nD))] w' := by
 refine enter (fn := Try.f43) Try.func43 rfl Try.ntmps43 rfl (fun a0 ha0 => ?_)
 simp only [List.zipIdx_cons, List.zipIdx_nil, List.map_cons, List.map_nil, Nat.reduceAdd, Nat.zero_add] at ha0
 refine wp_seq_k (fun K0 hK0 => ?_)
 refine wp_region_lit ?_
 refine wpList_plain rfl (fun K hK => ?_)
 refine e_box ha0 m0 20 (cs := [_, _, _, _, _, _, _, _, _, _]) rfl rfl rfl ?_
 clear ha0 a0 m0; intro g1 a2 w2 ha2 m2 hB2 hg2
 clear hB2 hg2
 refine hK _ _ ?_; clear hK K
 refine st_y ha2 rfl (y_assign ha2 rfl) ?_
 clear ha2 a2; intro a3 ha3
 refine wpList_nil ?_
 refine hK0 _ _ ?_; clear hK0; try clear K0
 refine wp_seq_k (fun K1 hK1 => ?_)
 refine wp_seq_k (fun K2 hK2 => ?_)
 refine wp_region_lit ?_
 refine st_y ha3 rfl (y_fieldAddr ha3 (off := 0) rfl Try.underlying25 rfl (s := 0) (by kernel_rfl) rfl) ?_
 clear ha3 a3; intro a4 ha4
 refine st_y ha4 rfl (y_loadB1 ha4 m2 (i := 20) rfl rfl rfl Try.underlying3 rfl) ?_
 clear ha4 a4; intro a5 ha5
 refine wpList_nil ?_
 refine hK2 _ _ ?_; clear hK2; try clear K2
 refine wp_block ?_
 refine wp_seq_k (fun K3 hK3 => ?_)
 refine wp_region_lit ?_
 refine st_y ha5 rfl (y_eql ha5 rfl rfl) ?_
 clear ha5 a5; intro a6 ha6
 refine st_y ha6 rfl (y_assign ha6 rfl) ?_
 clear ha6 a6; intro a7 ha7
 refine wpList_nil ?_
 refine hK3 _ _ ?_; clear hK3; try clear K3
 refine bool_cases ha7 (t := 7) rfl (fun hb8 ha8 => ?_) (fun hb8 ha8 => ?_)
 · exact absurd hb8 (by simp)
 clear ha7 hb8
 refine wp_cond_false (ha8.ev (x := .tmp 7) rfl) ?_
 refine wp_seq_k (fun K4 hK4 => ?_)
 refine wp_region_lit ?_
 refine st_y ha8 rfl (y_eql ha8 rfl rfl) ?_
 clear ha8 a7; intro a9 ha9
 refine st_y ha9 rfl (y_assign ha9 rfl) ?_
 clear ha9 a9; intro a10 ha10
 refine wpList_nil ?_
 refine hK4 _ _ ?_; clear hK4; try clear K4
 refine bool_cases ha10 (t := 13) rfl (fun hb11 ha11 => ?_) (fun hb11 ha11 => ?_)
 · exact absurd hb11 (by simp)
 clear ha10 hb11
 refine wp_cond_false (ha11.ev (x := .tmp 13) rfl) ?_
 refine wp_seq_k (fun K5 hK5 => ?_)
 have ha12 : Has 45 [(0, _), (3, _), (4, _), (6, _)] a10 := ha11.only [0, 3, 4, 6]; clear ha11
 refine wp_region_lit ?_
 refine st_y ha12 rfl (y_eql ha12 rfl rfl) ?_
 clear ha12 a10; intro a13 ha13
 refine st_y ha13 rfl (y_assign ha13 rfl) ?_
 clear ha13 a13; intro a14 ha14
 refine wpList_nil ?_
 refine hK5 _ _ ?_; clear hK5; try clear K5
 refine bool_cases ha14 (t := 19) rfl (fun hb15 ha15 => ?_) (fun hb15 ha15 => ?_)
 rotate_left
 · exact absurd hb15 (by simp)
 clear ha14 hb15
 refine wp_cond_true (ha15.ev (x := .tmp 19) rfl) ?_
 refine wp_seq_k (fun K6 hK6 => ?_)
 refine wp_region_lit ?_
 refine st_y ha15 rfl (y_move ha15 rfl) ?_
 clear ha15 a14; intro a16 ha16
 refine st_y ha16 rfl (y_fieldAddr ha16 (off := 7) rfl Try.underlying25 rfl (s := 0) (by kernel_rfl) rfl) ?_
 clear ha16 a16; intro a17 ha17
 refine st_y ha17 rfl (y_loadB1 ha17 m2 (i := 20) rfl rfl rfl Try.underlying2 rfl) ?_
 clear ha17 a17; intro a18 ha18
 refine wpList_plain rfl (fun K hK => ?_)
 refine e_call ha18 Try.func61 rfl rfl rfl rfl (ypin _ _ _ _ _ _ _ _ _ _ place pins ws _ _ _ _ _ _ _ _ hp (m2.into [(1, 1), (4, 4)] (by decide) rfl)) ?_
 rintro e w19 ⟨pins1, e1, pn19, cn19, rfl, hR, hm19⟩
 have mx19 := m2.back hm19 [(1, 1), (4, 4)] (by decide); clear hm19 m2
 have m19 : MemOk _ _ [(1, _), (4, _), (20, _)] _ := mx19.only [1, 4, 20]; clear mx19
 refine ⟨_, rfl, fun a20 ha20 => ?_⟩; clear ha18 a18
 refine hK _ _ ?_; clear hK K
 refine st_y ha20 rfl (y_assign ha20 rfl) ?_
 clear ha20 a20; intro a21 ha21
 refine wpList_nil ?_
 refine hK6 _ _ ?_; clear hK6; try clear K6
 refine wp_ret ?_
 try dsimp only [Exit.then, Exit.inBlock]
 refine (ret1 (fn := Try.f43) ha21 rfl rfl ?_)
 exact ⟨pins1, e1, _, _, rfl, hR, m19.only [1, 4]⟩
theorem ydo5 (X : Cx) (B : Nat) (vo bl sz pe to ne fl : Int) (hi : Bool) (place pins : List Int) (ws : List (Int × List (Int × List Int))) (pp pn pw : Option Addr) (cp cn9 cw : Nat) (v1 v2 v3 v4 v5 at0 v6 : Int) (q1 : Option Addr) (n1 c1 : Nat) (q2 : Option Addr) (n2 c2 : Nat) (w0 : World) (hp : pins.length ≤ 900000) (m0 : MemOk X w0 [(1, .box B 34 [.int .i64 vo, .int .i64 bl, .int .i64 sz, .int .i64 pe, .slice pp place.length cp, .int .i64 to, .int .i64 ne, .bool hi, .int .i64 fl, .slice pn pins.length cn9, .slice pw (ws.map wrD).length cw]), (4, .seg (.slice pn pins.length cn9) 2 1 (pins.map nD))] w0) :
   Calls Try.prog 43 #[.pointer (some ⟨B, 0, none⟩), .agg #[.int .i64 5, .int .i64 v1, .int .i64 v2, .int .i64 v3, .int .i64 v4, .slice q1 n1 c1, .int .i64 v5, .int .i64 at0, .int .i64 v6, .slice q2 n2 c2]] w0 fun e w' => ∃ (pins' : List Int) (e9 : Int) (pn' : Option Addr) (cn' : Nat), e = .returned (.int .i64 e9) ∧ unpinR hi at0 pins = (pins', e9) ∧ MemOk X w0 [(1, .box B 34 [.int .i64 vo, .int .i64 bl, .int .i64 sz, .int .i64 pe, .slice pp place.length cp, .int .i64 to, .int .i64 ne, .bool hi, .int .i64 fl, .slice pn' pins'.length cn', .slice pw (ws.map wrD).length cw]), (4, .seg (.slice pn' pins'.length cn') 2 1 (pins'.map nD))] w' := by
 refine enter (fn := Try.f43) Try.func43 rfl Try.ntmps43 rfl (fun a0 ha0 => ?_)
 simp only [List.zipIdx_cons, List.zipIdx_nil, List.map_cons, List.map_nil, Nat.reduceAdd, Nat.zero_add] at ha0
 refine wp_seq_k (fun K0 hK0 => ?_)
 refine wp_region_lit ?_
 refine wpList_plain rfl (fun K hK => ?_)
 refine e_box ha0 m0 20 (cs := [_, _, _, _, _, _, _, _, _, _]) rfl rfl rfl ?_
 clear ha0 a0 m0; intro g1 a2 w2 ha2 m2 hB2 hg2
 clear hB2 hg2
 refine hK _ _ ?_; clear hK K
 refine st_y ha2 rfl (y_assign ha2 rfl) ?_
 clear ha2 a2; intro a3 ha3
 refine wpList_nil ?_
 refine hK0 _ _ ?_; clear hK0; try clear K0
 refine wp_seq_k (fun K1 hK1 => ?_)
 refine wp_seq_k (fun K2 hK2 => ?_)
 refine wp_region_lit ?_
 refine st_y ha3 rfl (y_fieldAddr ha3 (off := 0) rfl Try.underlying25 rfl (s := 0) (by kernel_rfl) rfl) ?_
 clear ha3 a3; intro a4 ha4
 refine st_y ha4 rfl (y_loadB1 ha4 m2 (i := 20) rfl rfl rfl Try.underlying3 rfl) ?_
 clear ha4 a4; intro a5 ha5
 refine wpList_nil ?_
 refine hK2 _ _ ?_; clear hK2; try clear K2
 refine wp_block ?_
 refine wp_seq_k (fun K3 hK3 => ?_)
 refine wp_region_lit ?_
 refine st_y ha5 rfl (y_eql ha5 rfl rfl) ?_
 clear ha5 a5; intro a6 ha6
 refine st_y ha6 rfl (y_assign ha6 rfl) ?_
 clear ha6 a6; intro a7 ha7
 refine wpList_nil ?_
 refine hK3 _ _ ?_; clear hK3; try clear K3
 refine bool_cases ha7 (t := 7) rfl (fun hb8 ha8 => ?_) (fun hb8 ha8 => ?_)
 · exact absurd hb8 (by simp)
 clear ha7 hb8
 refine wp_cond_false (ha8.ev (x := .tmp 7) rfl) ?_
 refine wp_seq_k (fun K4 hK4 => ?_)
 refine wp_region_lit ?_
 refine st_y ha8 rfl (y_eql ha8 rfl rfl) ?_
 clear ha8 a7; intro a9 ha9
 refine st_y ha9 rfl (y_assign ha9 rfl) ?_
 clear ha9 a9; intro a10 ha10
 refine wpList_nil ?_
 refine hK4 _ _ ?_; clear hK4; try clear K4
 refine bool_cases ha10 (t := 13) rfl (fun hb11 ha11 => ?_) (fun hb11 ha11 => ?_)
 · exact absurd hb11 (by simp)
 clear ha10 hb11
 refine wp_cond_false (ha11.ev (x := .tmp 13) rfl) ?_
 refine wp_seq_k (fun K5 hK5 => ?_)
 have ha12 : Has 45 [(0, _), (3, _), (4, _), (6, _)] a10 := ha11.only [0, 3, 4, 6]; clear ha11
 refine wp_region_lit ?_
 refine st_y ha12 rfl (y_eql ha12 rfl rfl) ?_
 clear ha12 a10; intro a13 ha13
 refine st_y ha13 rfl (y_assign ha13 rfl) ?_
 clear ha13 a13; intro a14 ha14
 refine wpList_nil ?_
 refine hK5 _ _ ?_; clear hK5; try clear K5
 refine bool_cases ha14 (t := 19) rfl (fun hb15 ha15 => ?_) (fun hb15 ha15 => ?_)
 · exact absurd hb15 (by simp)
 clear ha14 hb15
 refine wp_cond_false (ha15.ev (x := .tmp 19) rfl) ?_
 refine wp_seq_k (fun K6 hK6 => ?_)
 refine wp_region_lit ?_
 refine st_y ha15 rfl (y_eql ha15 rfl rfl) ?_
 clear ha15 a14; intro a16 ha16
 refine st_y ha16 rfl (y_assign ha16 rfl) ?_
 clear ha16 a16; intro a17 ha17
 refine wpList_nil ?_
 refine hK6 _ _ ?_; clear hK6; try clear K6
 refine bool_cases ha17 (t := 25) rfl (fun hb18 ha18 => ?_) (fun hb18 ha18 => ?_)
 rotate_left
 · exact absurd hb18 (by simp)
 clear ha17 hb18
 refine wp_cond_true (ha18.ev (x := .tmp 25) rfl) ?_
 refine wp_seq_k (fun K7 hK7 => ?_)
 refine wp_region_lit ?_
 refine st_y ha18 rfl (y_move ha18 rfl) ?_
 clear ha18 a17; intro a19 ha19
 refine st_y ha19 rfl (y_fieldAddr ha19 (off := 7) rfl Try.underlying25 rfl (s := 0) (by kernel_rfl) rfl) ?_
 clear ha19 a19; intro a20 ha20
 refine st_y ha20 rfl (y_loadB1 ha20 m2 (i := 20) rfl rfl rfl Try.underlying2 rfl) ?_
 clear ha20 a20; intro a21 ha21
 refine wpList_plain rfl (fun K hK => ?_)
 refine e_call ha21 Try.func62 rfl rfl rfl rfl (yunpin _ _ _ _ _ _ _ _ _ _ place pins ws _ _ _ _ _ _ _ _ hp (m2.into [(1, 1), (4, 4)] (by decide) rfl)) ?_
 rintro e w22 ⟨pins1, e1, pn22, cn22, rfl, hR, hm22⟩
 have mx22 := m2.back hm22 [(1, 1), (4, 4)] (by decide); clear hm22 m2
 have m22 : MemOk _ _ [(1, _), (4, _), (20, _)] _ := mx22.only [1, 4, 20]; clear mx22
 refine ⟨_, rfl, fun a23 ha23 => ?_⟩; clear ha21 a21
 refine hK _ _ ?_; clear hK K
 refine st_y ha23 rfl (y_assign ha23 rfl) ?_
 clear ha23 a23; intro a24 ha24
 refine wpList_nil ?_
 refine hK7 _ _ ?_; clear hK7; try clear K7
 refine wp_ret ?_
 try dsimp only [Exit.then, Exit.inBlock]
 refine (ret1 (fn := Try.f43) ha24 rfl rfl ?_)
 exact ⟨pins1, e1, _, _, rfl, hR, m22.only [1, 4]⟩
theorem yDo4 (X : Cx) (vo bl sz pe to ne fl : Int) (hi : Bool) (place pins : List Int) (ws : List (Int × List (Int × List Int))) (pp pn pw : Option Addr) (cp cn9 cw : Nat) (v1 v2 v3 v4 v5 at0 v6 : Int) (q1 : Option Addr) (n1 c1 : Nat) (q2 : Option Addr) (n2 c2 : Nat) (w0 : World) (hn : place.length ≤ 1000000) (hp : pins.length ≤ 900000) (hl : ws.length ≤ 900000) (hok : WrsOk ws) (m0 : MemOk X w0 [(1, .dat (.slice pp place.length cp) (.ns .i64 place)), (2, .dat (.slice pn pins.length cn9) (.ns .i64 pins)), (3, .dat (.slice pw (ws.map wrD).length cw) (.l 2 (ws.map wrD)))] w0) :
   Calls Try.prog 16 #[.agg #[.int .i64 vo, .int .i64 bl, .int .i64 sz, .int .i64 pe, .slice pp place.length cp, .int .i64 to, .int .i64 ne, .bool hi, .int .i64 fl, .slice pn pins.length cn9, .slice pw (ws.map wrD).length cw], .agg #[.int .i64 4, .int .i64 v1, .int .i64 v2, .int .i64 v3, .int .i64 v4, .slice q1 n1 c1, .int .i64 v5, .int .i64 at0, .int .i64 v6, .slice q2 n2 c2]] w0 fun e w' => ∃ (pins' : List Int) (e9 rl rf rn : Int) (p1' : Option Addr) (d1' : Nat) (p2' : Option Addr) (d2' : Nat) (p3' : Option Addr) (d3' : Nat), e = .returned (.tuple #[.agg #[.int .i64 vo, .int .i64 bl, .int .i64 sz, .int .i64 pe, .slice p1' place.length d1', .int .i64 to, .int .i64 ne, .bool hi, .int .i64 fl, .slice p2' pins'.length d2', .slice p3' (ws.map wrD).length d3'], .agg #[.int .i64 e9, .int .i64 rl, .int .i64 rf, .int .i64 rn, .slice none 0 0]]) ∧ pinR hi fl at0 ws.length pins = (pins', e9) ∧ ((e9 ≠ 0 ∧ rl = 0 ∧ rf = 0 ∧ rn = 0) ∨ (e9 = 0 ∧ rl = ws.length ∧ rf = fl ∧ rn = ne)) ∧ MemOk X w0 [(1, .dat (.slice pp place.length cp) (.ns .i64 place)), (2, .dat (.slice pn pins.length cn9) (.ns .i64 pins)), (3, .dat (.slice pw (ws.map wrD).length cw) (.l 2 (ws.map wrD))), (5, .dat (.slice p1' place.length d1') (.ns .i64 place)), (6, .seg (.slice p2' pins'.length d2') 2 1 (pins'.map nD)), (7, .seg (.slice p3' (ws.map wrD).length d3') 55 2 (ws.map wrD))] w' := by
 refine enter (fn := Try.f16) Try.func16 rfl Try.ntmps16 rfl (fun a0 ha0 => ?_)
 simp only [List.zipIdx_cons, List.zipIdx_nil, List.map_cons, List.map_nil, Nat.reduceAdd, Nat.zero_add] at ha0
 refine wp_seq_k (fun K0 hK0 => ?_)
 refine wp_region_lit ?_
 refine wpList_plain rfl (fun K hK => ?_)
 refine e_box ha0 m0 20 (cs := [_, _, _, _, _, _, _, _, _, _, _]) rfl rfl rfl ?_
 clear ha0 a0 m0; intro g1 a2 w2 ha2 m2 hB2 hg2
 clear hB2 hg2
 refine hK _ _ ?_; clear hK K
 refine wpList_plain rfl (fun K hK => ?_)
 refine e_box ha2 m2 21 (cs := [_, _, _, _, _, _, _, _, _, _]) rfl rfl rfl ?_
 clear ha2 a2 m2; intro g3 a4 w4 ha4 m4 hB4 hg4
 clear hB4 hg4
 refine hK _ _ ?_; clear hK K
 refine wpList_plain rfl (fun K hK => ?_)
 refine e_alloc ha4 m4 22 zc34yD4 rfl ?_
 clear ha4 a4 m4; intro g5 a6 w6 ha6 m6 hB6 hg6
 clear hB6 hg6
 refine hK _ _ ?_; clear hK K
 refine wpList_plain rfl (fun K hK => ?_)
 refine e_alloc ha6 m6 23 zc45yD4 rfl ?_
 clear ha6 a6 m6; intro g7 a8 w8 ha8 m8 hB8 hg8
 clear hB8 hg8
 refine hK _ _ ?_; clear hK K
 refine wpList_nil ?_
 refine hK0 _ _ ?_; clear hK0; try clear K0
 refine wp_seq_k (fun K1 hK1 => ?_)
 refine wp_region_lit ?_
 refine st_y ha8 rfl (y_loadBR ha8 m8 (i := 20) rfl rfl Try.underlying34 rfl sz34yD4 (by simp) (by dsimp only [List.drop, List.take] <;> rfl)) ?_
 clear ha8 a8; intro a9 ha9
 refine wpList_plain rfl (fun K hK => ?_)
 refine e_call ha9 Try.func42 rfl rfl rfl rfl (volcopy_fp _ _ _ _ _ _ _ _ _ place pins ws _ _ _ _ _ _ _ hn hp (by omega) hok (m8.into [(1, 1), (2, 2), (3, 3)] (by decide) rfl)) ?_
 rintro e w10 ⟨p110, c110, p210, c210, p310, c310, rfl, hm10⟩
 have mx10 := m8.back hm10 [(1, 1), (2, 2), (3, 3), (24, 4), (25, 5), (26, 6)] (by decide); clear hm10 m8
 have m10 : MemOk _ _ [(1, _), (2, _), (3, _), (24, _), (25, _), (26, _), (20, _), (21, _), (22, _), (23, _)] _ := mx10.only [1, 2, 3, 24, 25, 26, 20, 21, 22, 23]; clear mx10
 refine ⟨_, rfl, fun a11 ha11 => ?_⟩; clear ha9 a9
 refine hK _ _ ?_; clear hK K
 refine wpList_plain rfl (fun K hK => ?_)
 refine e_storeW ha11 m10 20 rfl rfl rfl rfl rfl sz34yD4 ?_
 clear m10; intro w12 m12 hB12
 clear hB12
 refine hK _ _ ?_; clear hK K
 refine wpList_nil ?_
 refine hK1 _ _ ?_; clear hK1; try clear K1
 refine wp_seq_k (fun K2 hK2 => ?_)
 refine wp_seq_k (fun K3 hK3 => ?_)
 refine wp_region_lit ?_
 refine st_y ha11 rfl (y_loadBR ha11 m12 (i := 21) rfl rfl Try.underlying25 rfl sz25yD4 (by simp) (by dsimp only [List.drop, List.take] <;> rfl)) ?_
 clear ha11 a11; intro a13 ha13
 refine wpList_plain rfl (fun K hK => ?_)
 refine e_call ha13 Try.func43 rfl rfl rfl rfl (ydo4 _ _ _ _ _ _ _ _ _ _ place pins ws _ _ _ _ _ _ _ _ _ _ _ _ _ _ _ _ _ _ _ _ hp (m12.into [(1, 20), (4, 25)] (by decide) rfl)) ?_
 rintro e w14 ⟨pins1, e1, pn14, cn14, rfl, hR, hm14⟩
 have mx14 := m12.back hm14 [(20, 1), (25, 4)] (by decide); clear hm14 m12
 have m14 : MemOk _ _ [(20, _), (25, _), (1, _), (2, _), (3, _), (21, _), (22, _), (23, _), (24, _), (26, _)] _ := mx14.only [20, 25, 1, 2, 3, 21, 22, 23, 24, 26]; clear mx14
 refine ⟨_, rfl, fun a15 ha15 => ?_⟩; clear ha13 a13
 refine hK _ _ ?_; clear hK K
 refine st_y ha15 rfl (y_assign ha15 rfl) ?_
 clear ha15 a15; intro a16 ha16
 refine wpList_nil ?_
 refine hK3 _ _ ?_; clear hK3; try clear K3
 refine wp_seq_k (fun K4 hK4 => ?_)
 have ha17 : Has 24 [(2, _), (4, _), (5, _), (6, _)] a16 := ha16.only [2, 4, 5, 6]; clear ha16
 refine wp_region_lit ?_
 refine st_y ha17 rfl (y_move ha17 rfl) ?_
 clear ha17 a16; intro a18 ha18
 refine st_y ha18 rfl (y_neq ha18 rfl rfl) ?_
 clear ha18 a18; intro a19 ha19
 refine wpList_nil ?_
 refine hK4 _ _ ?_; clear hK4; try clear K4
 refine bool_cases ha19 (t := 12) rfl (fun hb20 ha20 => ?_) (fun hb20 ha20 => ?_)
 ·
  clear ha19
  try simp only [Q1x, Q2x, Q3x, Q4x, Q5x, Q6x, Q7x, Q8x, Q9x, Q0x, Qax, Qbx] at hb20
  refine wp_cond_true (ha20.ev (x := .tmp 12) rfl) ?_
  refine wp_seq_k (fun K5 hK5 => ?_)
  refine wp_region_lit ?_
  refine st_y ha20 rfl (y_loadBR ha20 m14 (i := 20) rfl rfl Try.underlying34 rfl sz34yD4 (by simp) (by dsimp only [List.drop, List.take] <;> rfl)) ?_
  clear ha20 a19; intro a21 ha21
  refine st_y ha21 rfl (y_move ha21 rfl) ?_
  clear ha21 a21; intro a22 ha22
  refine st_y ha22 rfl (y_build ha22 rfl zc45yD4 fl45yD4 rfl (by dsimp only [setL, List.set] <;> rfl)) ?_
  clear ha22 a22; intro a23 ha23
  refine wpList_plain rfl (fun K hK => ?_)
  refine e_storeW ha23 m14 22 rfl rfl rfl rfl rfl sz34yD4 ?_
  clear m14; intro w24 m24 hB24
  clear hB24
  refine hK _ _ ?_; clear hK K
  refine wpList_plain rfl (fun K hK => ?_)
  refine e_storeW ha23 m24 23 rfl rfl rfl rfl rfl sz45yD4 ?_
  clear m24; intro w25 m25 hB25
  clear hB25
  refine hK _ _ ?_; clear hK K
  refine wpList_nil ?_
  refine hK5 _ _ ?_; clear hK5; try clear K5
  refine wp_ret ?_
  try dsimp only [Exit.then, Exit.inBlock]
  refine (retCC (fn := Try.f16) ha23 m25 (i := 22) (i2 := 23) rfl rfl rfl rfl rfl Try.underlying34 rfl sz34yD4 Try.underlying45 rfl sz45yD4 ?_)
  exact ⟨pins1, e1, 0, 0, 0, _, _, _, _, _, _, rfl, hR, .inl ⟨by assumption, rfl, rfl, rfl⟩, m25.ren [(1, 1), (2, 2), (3, 3), (5, 24), (6, 25), (7, 26)] (by decide)⟩
 ·
  clear ha19
  try simp only [Q1x, Q2x, Q3x, Q4x, Q5x, Q6x, Q7x, Q8x, Q9x, Q0x, Qax, Qbx] at hb20
  refine wp_cond_false (ha20.ev (x := .tmp 12) rfl) ?_
  refine wp_skip ?_
  refine hK2 _ _ ?_; clear hK2; try clear K2
  refine wp_seq_k (fun K6 hK6 => ?_)
  have m26 : MemOk _ _ [(1, _), (2, _), (3, _), (20, _), (21, _), (22, _), (23, _), (24, _), (25, _), (26, _)] _ := m14.only [1, 2, 3, 20, 21, 22, 23, 24, 25, 26]; clear m14
  refine region_m 10 (B := [(20, _)]) (m26.to ⟨il, trivial⟩) m26 (by kernel_rfl) (fun w27 mB27 m27 => ?_); clear m26 mB27
  refine dh 0 ha20 rfl rfl (m27.to ⟨il, trivial⟩) (fun W hW => y_loadBR ha20 hW (i := 20) rfl rfl Try.underlying34 rfl sz34yD4 (by simp) (by dsimp only [List.drop, List.take] <;> rfl)) ?_
  clear ha20 a19; intro a28 ha28
  refine dh 1 ha28 rfl rfl (m27.to ⟨il, trivial⟩) (fun W hW => y_loadBR ha28 hW (i := 20) rfl rfl Try.underlying34 rfl sz34yD4 (by simp) (by dsimp only [List.drop, List.take] <;> rfl)) ?_
  clear ha28 a28; intro a29 ha29
  refine dyn 3 ha29 rfl rfl (m27.to ⟨il, trivial⟩) (fun W => y_fieldAddr ha29 (off := 8) rfl Try.underlying34 rfl (s := 0) (by kernel_rfl) rfl) ?_
  clear ha29 a29; intro a30 ha30
  refine dh 4 ha30 rfl rfl (m27.to ⟨il, trivial⟩) (fun W hW => y_loadB1 ha30 hW (i := 20) rfl rfl rfl Try.underlying2 rfl) ?_
  clear ha30 a30; intro a31 ha31
  refine dyn 5 ha31 rfl rfl (m27.to ⟨il, trivial⟩) (fun W => y_fieldAddr ha31 (off := 6) rfl Try.underlying34 rfl (s := 0) (by kernel_rfl) rfl) ?_
  clear ha31 a31; intro a32 ha32
  refine dh 6 ha32 rfl rfl (m27.to ⟨il, trivial⟩) (fun W hW => y_loadB1 ha32 hW (i := 20) rfl rfl rfl Try.underlying3 rfl) ?_
  clear ha32 a32; intro a33 ha33
  refine stepE_only 2 rfl (by kernel_rfl) rfl (fun K hK => ?_)
  refine e_call ha33 Try.func20 rfl rfl rfl rfl (vlen_any _ _ _ _ _ _ _ _ _ _ _ _ _ _ _ _ _ _) ?_
  rintro e w34 ⟨rfl, hb34⟩
  have m35 := m27.later hb34
  clear m27
  clear hb34
  refine ⟨_, rfl, fun a36 ha36 => ?_⟩; clear ha33 a33
  refine hK _ _ (m35.to ⟨il, trivial⟩) ?_; clear hK K
  refine dyn 7 ha36 rfl rfl (m35.to ⟨il, trivial⟩) (fun W => y_build ha36 rfl zc45yD4 fl45yD4 rfl (by dsimp only [setL, List.set] <;> rfl)) ?_
  clear ha36 a36; intro a37 ha37
  refine stepE_only 8 rfl (by kernel_rfl) rfl (fun K hK => ?_)
  refine e_storeW ha37 m35 22 rfl rfl rfl rfl rfl sz34yD4 ?_
  clear m35; intro w38 m38 hB38
  clear hB38
  refine hK _ _ (m38.to ⟨il, trivial⟩) ?_; clear hK K
  refine stepE_only 9 rfl (by kernel_rfl) rfl (fun K hK => ?_)
  refine e_storeW ha37 m38 23 rfl rfl rfl rfl rfl sz45yD4 ?_
  clear m38; intro w39 m39 hB39
  clear hB39
  refine hK _ _ (m39.to ⟨il, trivial⟩) ?_; clear hK K
  refine wpAnyE_done (by kernel_rfl) ?_ _
  refine hK6 _ _ ?_; clear hK6; try clear K6
  refine wp_ret ?_
  try dsimp only [Exit.then, Exit.inBlock]
  refine (retCC (fn := Try.f16) ha37 m39 (i := 22) (i2 := 23) rfl rfl rfl rfl rfl Try.underlying34 rfl sz34yD4 Try.underlying45 rfl sz45yD4 ?_)
  obtain rfl : e1 = 0 := by first | assumption | (simp_all; done) | omega
  exact ⟨pins1, 0, ws.length, fl, ne, _, _, _, _, _, _, by rw [List.length_map], hR, .inr ⟨rfl, rfl, rfl, rfl⟩, m39.ren [(1, 1), (2, 2), (3, 3), (5, 24), (6, 25), (7, 26)] (by decide)⟩
theorem yDo5 (X : Cx) (vo bl sz pe to ne fl : Int) (hi : Bool) (place pins : List Int) (ws : List (Int × List (Int × List Int))) (pp pn pw : Option Addr) (cp cn9 cw : Nat) (v1 v2 v3 v4 v5 at0 v6 : Int) (q1 : Option Addr) (n1 c1 : Nat) (q2 : Option Addr) (n2 c2 : Nat) (w0 : World) (hn : place.length ≤ 1000000) (hp : pins.length ≤ 900000) (hl : ws.length ≤ 900000) (hok : WrsOk ws) (m0 : MemOk X w0 [(1, .dat (.slice pp place.length cp) (.ns .i64 place)), (2, .dat (.slice pn pins.length cn9) (.ns .i64 pins)), (3, .dat (.slice pw (ws.map wrD).length cw) (.l 2 (ws.map wrD)))] w0) :
   Calls Try.prog 16 #[.agg #[.int .i64 vo, .int .i64 bl, .int .i64 sz, .int .i64 pe, .slice pp place.length cp, .int .i64 to, .int .i64 ne, .bool hi, .int .i64 fl, .slice pn pins.length cn9, .slice pw (ws.map wrD).length cw], .agg #[.int .i64 5, .int .i64 v1, .int .i64 v2, .int .i64 v3, .int .i64 v4, .slice q1 n1 c1, .int .i64 v5, .int .i64 at0, .int .i64 v6, .slice q2 n2 c2]] w0 fun e w' => ∃ (pins' : List Int) (e9 rl rf rn : Int) (p1' : Option Addr) (d1' : Nat) (p2' : Option Addr) (d2' : Nat) (p3' : Option Addr) (d3' : Nat), e = .returned (.tuple #[.agg #[.int .i64 vo, .int .i64 bl, .int .i64 sz, .int .i64 pe, .slice p1' place.length d1', .int .i64 to, .int .i64 ne, .bool hi, .int .i64 fl, .slice p2' pins'.length d2', .slice p3' (ws.map wrD).length d3'], .agg #[.int .i64 e9, .int .i64 rl, .int .i64 rf, .int .i64 rn, .slice none 0 0]]) ∧ unpinR hi at0 pins = (pins', e9) ∧ ((e9 ≠ 0 ∧ rl = 0 ∧ rf = 0 ∧ rn = 0) ∨ (e9 = 0 ∧ rl = ws.length ∧ rf = fl ∧ rn = ne)) ∧ MemOk X w0 [(1, .dat (.slice pp place.length cp) (.ns .i64 place)), (2, .dat (.slice pn pins.length cn9) (.ns .i64 pins)), (3, .dat (.slice pw (ws.map wrD).length cw) (.l 2 (ws.map wrD))), (5, .dat (.slice p1' place.length d1') (.ns .i64 place)), (6, .seg (.slice p2' pins'.length d2') 2 1 (pins'.map nD)), (7, .seg (.slice p3' (ws.map wrD).length d3') 55 2 (ws.map wrD))] w' := by
 refine enter (fn := Try.f16) Try.func16 rfl Try.ntmps16 rfl (fun a0 ha0 => ?_)
 simp only [List.zipIdx_cons, List.zipIdx_nil, List.map_cons, List.map_nil, Nat.reduceAdd, Nat.zero_add] at ha0
 refine wp_seq_k (fun K0 hK0 => ?_)
 refine wp_region_lit ?_
 refine wpList_plain rfl (fun K hK => ?_)
 refine e_box ha0 m0 20 (cs := [_, _, _, _, _, _, _, _, _, _, _]) rfl rfl rfl ?_
 clear ha0 a0 m0; intro g1 a2 w2 ha2 m2 hB2 hg2
 clear hB2 hg2
 refine hK _ _ ?_; clear hK K
 refine wpList_plain rfl (fun K hK => ?_)
 refine e_box ha2 m2 21 (cs := [_, _, _, _, _, _, _, _, _, _]) rfl rfl rfl ?_
 clear ha2 a2 m2; intro g3 a4 w4 ha4 m4 hB4 hg4
 clear hB4 hg4
 refine hK _ _ ?_; clear hK K
 refine wpList_plain rfl (fun K hK => ?_)
 refine e_alloc ha4 m4 22 zc34yD5 rfl ?_
 clear ha4 a4 m4; intro g5 a6 w6 ha6 m6 hB6 hg6
 clear hB6 hg6
 refine hK _ _ ?_; clear hK K
 refine wpList_plain rfl (fun K hK => ?_)
 refine e_alloc ha6 m6 23 zc45yD5 rfl ?_
 clear ha6 a6 m6; intro g7 a8 w8 ha8 m8 hB8 hg8
 clear hB8 hg8
 refine hK _ _ ?_; clear hK K
 refine wpList_nil ?_
 refine hK0 _ _ ?_; clear hK0; try clear K0
 refine wp_seq_k (fun K1 hK1 => ?_)
 refine wp_region_lit ?_
 refine st_y ha8 rfl (y_loadBR ha8 m8 (i := 20) rfl rfl Try.underlying34 rfl sz34yD5 (by simp) (by dsimp only [List.drop, List.take] <;> rfl)) ?_
 clear ha8 a8; intro a9 ha9
 refine wpList_plain rfl (fun K hK => ?_)
 refine e_call ha9 Try.func42 rfl rfl rfl rfl (volcopy_fp _ _ _ _ _ _ _ _ _ place pins ws _ _ _ _ _ _ _ hn hp (by omega) hok (m8.into [(1, 1), (2, 2), (3, 3)] (by decide) rfl)) ?_
 rintro e w10 ⟨p110, c110, p210, c210, p310, c310, rfl, hm10⟩
 have mx10 := m8.back hm10 [(1, 1), (2, 2), (3, 3), (24, 4), (25, 5), (26, 6)] (by decide); clear hm10 m8
 have m10 : MemOk _ _ [(1, _), (2, _), (3, _), (24, _), (25, _), (26, _), (20, _), (21, _), (22, _), (23, _)] _ := mx10.only [1, 2, 3, 24, 25, 26, 20, 21, 22, 23]; clear mx10
 refine ⟨_, rfl, fun a11 ha11 => ?_⟩; clear ha9 a9
 refine hK _ _ ?_; clear hK K
 refine wpList_plain rfl (fun K hK => ?_)
 refine e_storeW ha11 m10 20 rfl rfl rfl rfl rfl sz34yD5 ?_
 clear m10; intro w12 m12 hB12
 clear hB12
 refine hK _ _ ?_; clear hK K
 refine wpList_nil ?_
 refine hK1 _ _ ?_; clear hK1; try clear K1
 refine wp_seq_k (fun K2 hK2 => ?_)
 refine wp_seq_k (fun K3 hK3 => ?_)
 refine wp_region_lit ?_
 refine st_y ha11 rfl (y_loadBR ha11 m12 (i := 21) rfl rfl Try.underlying25 rfl sz25yD5 (by simp) (by dsimp only [List.drop, List.take] <;> rfl)) ?_
 clear ha11 a11; intro a13 ha13
 refine wpList_plain rfl (fun K hK => ?_)
 refine e_call ha13 Try.func43 rfl rfl rfl rfl (ydo5 _ _ _ _ _ _ _ _ _ _ place pins ws _ _ _ _ _ _ _ _ _ _ _ _ _ _ _ _ _ _ _ _ hp (m12.into [(1, 20), (4, 25)] (by decide) rfl)) ?_
 rintro e w14 ⟨pins1, e1, pn14, cn14, rfl, hR, hm14⟩
 have mx14 := m12.back hm14 [(20, 1), (25, 4)] (by decide); clear hm14 m12
 have m14 : MemOk _ _ [(20, _), (25, _), (1, _), (2, _), (3, _), (21, _), (22, _), (23, _), (24, _), (26, _)] _ := mx14.only [20, 25, 1, 2, 3, 21, 22, 23, 24, 26]; clear mx14
 refine ⟨_, rfl, fun a15 ha15 => ?_⟩; clear ha13 a13
 refine hK _ _ ?_; clear hK K
 refine st_y ha15 rfl (y_assign ha15 rfl) ?_
 clear ha15 a15; intro a16 ha16
 refine wpList_nil ?_
 refine hK3 _ _ ?_; clear hK3; try clear K3
 refine wp_seq_k (fun K4 hK4 => ?_)
 have ha17 : Has 24 [(2, _), (4, _), (5, _), (6, _)] a16 := ha16.only [2, 4, 5, 6]; clear ha16
 refine wp_region_lit ?_
 refine st_y ha17 rfl (y_move ha17 rfl) ?_
 clear ha17 a16; intro a18 ha18
 refine st_y ha18 rfl (y_neq ha18 rfl rfl) ?_
 clear ha18 a18; intro a19 ha19
 refine wpList_nil ?_
 refine hK4 _ _ ?_; clear hK4; try clear K4
 refine bool_cases ha19 (t := 12) rfl (fun hb20 ha20 => ?_) (fun hb20 ha20 => ?_)
 ·
  clear ha19
  try simp only [Q1x, Q2x, Q3x, Q4x, Q5x, Q6x, Q7x, Q8x, Q9x, Q0x, Qax, Qbx] at hb20
  refine wp_cond_true (ha20.ev (x := .tmp 12) rfl) ?_
  refine wp_seq_k (fun K5 hK5 => ?_)
  refine wp_region_lit ?_
  refine st_y ha20 rfl (y_loadBR ha20 m14 (i := 20) rfl rfl Try.underlying34 rfl sz34yD5 (by simp) (by dsimp only [List.drop, List.take] <;> rfl)) ?_
  clear ha20 a19; intro a21 ha21
  refine st_y ha21 rfl (y_move ha21 rfl) ?_
  clear ha21 a21; intro a22 ha22
  refine st_y ha22 rfl (y_build ha22 rfl zc45yD5 fl45yD5 rfl (by dsimp only [setL, List.set] <;> rfl)) ?_
  clear ha22 a22; intro a23 ha23
  refine wpList_plain rfl (fun K hK => ?_)
  refine e_storeW ha23 m14 22 rfl rfl rfl rfl rfl sz34yD5 ?_
  clear m14; intro w24 m24 hB24
  clear hB24
  refine hK _ _ ?_; clear hK K
  refine wpList_plain rfl (fun K hK => ?_)
  refine e_storeW ha23 m24 23 rfl rfl rfl rfl rfl sz45yD5 ?_
  clear m24; intro w25 m25 hB25
  clear hB25
  refine hK _ _ ?_; clear hK K
  refine wpList_nil ?_
  refine hK5 _ _ ?_; clear hK5; try clear K5
  refine wp_ret ?_
  try dsimp only [Exit.then, Exit.inBlock]
  refine (retCC (fn := Try.f16) ha23 m25 (i := 22) (i2 := 23) rfl rfl rfl rfl rfl Try.underlying34 rfl sz34yD5 Try.underlying45 rfl sz45yD5 ?_)
  exact ⟨pins1, e1, 0, 0, 0, _, _, _, _, _, _, rfl, hR, .inl ⟨by assumption, rfl, rfl, rfl⟩, m25.ren [(1, 1), (2, 2), (3, 3), (5, 24), (6, 25), (7, 26)] (by decide)⟩
 ·
  clear ha19
  try simp only [Q1x, Q2x, Q3x, Q4x, Q5x, Q6x, Q7x, Q8x, Q9x, Q0x, Qax, Qbx] at hb20
  refine wp_cond_false (ha20.ev (x := .tmp 12) rfl) ?_
  refine wp_skip ?_
  refine hK2 _ _ ?_; clear hK2; try clear K2
  refine wp_seq_k (fun K6 hK6 => ?_)
  have m26 : MemOk _ _ [(1, _), (2, _), (3, _), (20, _), (21, _), (22, _), (23, _), (24, _), (25, _), (26, _)] _ := m14.only [1, 2, 3, 20, 21, 22, 23, 24, 25, 26]; clear m14
  refine region_m 10 (B := [(20, _)]) (m26.to ⟨il, trivial⟩) m26 (by kernel_rfl) (fun w27 mB27 m27 => ?_); clear m26 mB27
  refine dh 0 ha20 rfl rfl (m27.to ⟨il, trivial⟩) (fun W hW => y_loadBR ha20 hW (i := 20) rfl rfl Try.underlying34 rfl sz34yD5 (by simp) (by dsimp only [List.drop, List.take] <;> rfl)) ?_
  clear ha20 a19; intro a28 ha28
  refine dh 1 ha28 rfl rfl (m27.to ⟨il, trivial⟩) (fun W hW => y_loadBR ha28 hW (i := 20) rfl rfl Try.underlying34 rfl sz34yD5 (by simp) (by dsimp only [List.drop, List.take] <;> rfl)) ?_
  clear ha28 a28; intro a29 ha29
  refine dyn 3 ha29 rfl rfl (m27.to ⟨il, trivial⟩) (fun W => y_fieldAddr ha29 (off := 8) rfl Try.underlying34 rfl (s := 0) (by kernel_rfl) rfl) ?_
  clear ha29 a29; intro a30 ha30
  refine dh 4 ha30 rfl rfl (m27.to ⟨il, trivial⟩) (fun W hW => y_loadB1 ha30 hW (i := 20) rfl rfl rfl Try.underlying2 rfl) ?_
  clear ha30 a30; intro a31 ha31
  refine dyn 5 ha31 rfl rfl (m27.to ⟨il, trivial⟩) (fun W => y_fieldAddr ha31 (off := 6) rfl Try.underlying34 rfl (s := 0) (by kernel_rfl) rfl) ?_
  clear ha31 a31; intro a32 ha32
  refine dh 6 ha32 rfl rfl (m27.to ⟨il, trivial⟩) (fun W hW => y_loadB1 ha32 hW (i := 20) rfl rfl rfl Try.underlying3 rfl) ?_
  clear ha32 a32; intro a33 ha33
  refine stepE_only 2 rfl (by kernel_rfl) rfl (fun K hK => ?_)
  refine e_call ha33 Try.func20 rfl rfl rfl rfl (vlen_any _ _ _ _ _ _ _ _ _ _ _ _ _ _ _ _ _ _) ?_
  rintro e w34 ⟨rfl, hb34⟩
  have m35 := m27.later hb34
  clear m27
  clear hb34
  refine ⟨_, rfl, fun a36 ha36 => ?_⟩; clear ha33 a33
  refine hK _ _ (m35.to ⟨il, trivial⟩) ?_; clear hK K
  refine dyn 7 ha36 rfl rfl (m35.to ⟨il, trivial⟩) (fun W => y_build ha36 rfl zc45yD5 fl45yD5 rfl (by dsimp only [setL, List.set] <;> rfl)) ?_
  clear ha36 a36; intro a37 ha37
  refine stepE_only 8 rfl (by kernel_rfl) rfl (fun K hK => ?_)
  refine e_storeW ha37 m35 22 rfl rfl rfl rfl rfl sz34yD5 ?_
  clear m35; intro w38 m38 hB38
  clear hB38
  refine hK _ _ (m38.to ⟨il, trivial⟩) ?_; clear hK K
  refine stepE_only 9 rfl (by kernel_rfl) rfl (fun K hK => ?_)
  refine e_storeW ha37 m38 23 rfl rfl rfl rfl rfl sz45yD5 ?_
  clear m38; intro w39 m39 hB39
  clear hB39
  refine hK _ _ (m39.to ⟨il, trivial⟩) ?_; clear hK K
  refine wpAnyE_done (by kernel_rfl) ?_ _
  refine hK6 _ _ ?_; clear hK6; try clear K6
  refine wp_ret ?_
  try dsimp only [Exit.then, Exit.inBlock]
  refine (retCC (fn := Try.f16) ha37 m39 (i := 22) (i2 := 23) rfl rfl rfl rfl rfl Try.underlying34 rfl sz34yD5 Try.underlying45 rfl sz45yD5 ?_)
  obtain rfl : e1 = 0 := by first | assumption | (simp_all; done) | omega
  exact ⟨pins1, 0, ws.length, fl, ne, _, _, _, _, _, _, by rw [List.length_map], hR, .inr ⟨rfl, rfl, rfl, rfl⟩, m39.ren [(1, 1), (2, 2), (3, 3), (5, 24), (6, 25), (7, 26)] (by decide)⟩
end Go.Proofs.Ytocfbocdnklllaa.K
