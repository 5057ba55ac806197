/- General laws of walks. -/
import Derived.Test.YtkehgingagggaaaGreatG9
section
namespace Go.Proofs.YtkehgingagggaaaGreat.K
open Go.ChangeShapes Go.WideShapes Go.ChangeAt Go.RowKit Go.Sort
set_option linter.unusedVariables false
set_option linter.unusedSimpArgs false
theorem fl44yD4 : flatS Tryz.prog 44 [.int .i64 0, .int .i64 0, .int .i64 0, .int .i64 0, .slice none 0 0] = true := by kernel_rfl
theorem fl44yD5 : flatS Tryz.prog 44 [.int .i64 0, .int .i64 0, .int .i64 0, .int .i64 0, .slice none 0 0] = true := by kernel_rfl
def sortP (l : List Int) : List Int := l.mergeSort fun x y => decide (x ≤ y)
def pinR (hi : Bool) (fl at0 nd : Int) (pins : List Int) : List Int × Int := if reachR hi fl at0 nd = 0 then (sortP (pins ++ [at0]), 0) else (pins, reachR hi fl at0 nd)
def unpinR (hi : Bool) (at0 : Int) (pins : List Int) : List Int × Int := if hi = true ∨ Lib.idxOf pins at0 < 0 then (pins, 28) else (pins.take (Lib.idxOf pins at0).toNat ++ pins.drop ((Lib.idxOf pins at0).toNat + 1), 0)
theorem idxFrom_lt (x : Int) : ∀ (zs : List Int) (i : Nat), 0 ≤ Lib.idxFrom zs x i → ∃ k : Nat, Lib.idxFrom zs x i = ((i + k : Nat) : Int) ∧ k < zs.length
 | [], i, h => by simp [Lib.idxFrom] at h
 | z :: zs, i, h => by
   unfold Lib.idxFrom at h ⊢
   split at h
   · rename_i e; rw [if_pos e]; exact ⟨0, rfl, by simp⟩
   rename_i e
   rw [if_neg e]
   obtain ⟨k, h1, h2⟩ := idxFrom_lt x zs (i + 1) h
   exact ⟨k + 1, by rw [h1]; congr 1; omega, by simp; omega⟩
theorem idx_lt {zs : List Int} {x : Int} (h : 0 ≤ Lib.idxOf zs x) : ∃ k : Nat, Lib.idxOf zs x = (k : Int) ∧ k < zs.length := by
 obtain ⟨k, h1, h2⟩ := idxFrom_lt x zs 0 h
 exact ⟨k, by rw [Lib.idxOf, h1, Nat.zero_add], h2⟩
set_option maxRecDepth 100000
set_option maxHeartbeats 4000000
theorem index64_any (zs : List Int) (x : Int) (p : Option Addr) (c : Nat) (w : World) (h : Rd (fun _ => True) w (.slice p zs.length c) (.ns .i64 zs)) (hl : zs.length ≤ 1000000) :
   Calls Tryz.prog 172 #[.slice p zs.length c, .int .i64 x] w fun e w' => e = .returned (.int .i64 (Lib.idxOf zs x)) ∧ Below w.heap.size w w' := by
 obtain ⟨a, c2, hv, -, h0 | ⟨b, off, rfl, -, -, hc⟩⟩ := h.ns_out
 · obtain rfl := List.length_eq_zero_iff.1 h0
   refine (AnyG.slices_Index_int_empty Tryz.index64 p c x w).mono ?_
   rintro e w' ⟨rfl, rfl⟩; exact ⟨rfl, Below.refl _ _⟩
 injection hv with h1 h2 h3; subst h1; subst h3
 refine (AnyG.slices_Index_int Tryz.index64 b off zs.length c zs x w (Nat.le_refl _) (by omega) hc).mono ?_
 rintro e w' ⟨rfl, rfl⟩; rw [List.take_length]; exact ⟨rfl, Below.refl _ _⟩
theorem sort64_fr (X : Cx) (p : Option Addr) (c : Nat) (zs : List Int) (w0 : World) (hl : zs.length ≤ 1000000) (m0 : MemOk X w0 [(1, .seg (.slice p zs.length c) 2 1 (zs.map nD))] w0) :
   Calls Tryz.prog 171 #[.slice p zs.length c] w0 fun e w' => e = .returned (.tuple #[]) ∧ MemOk X w0 [(1, .seg (.slice p zs.length c) 2 1 ((zs.mergeSort fun x y => decide (x ≤ y)).map nD))] w' := by
 have hs := (seg_nums (m0.ok 1 _ rfl).1).2
 rcases hs with ⟨e1, h0⟩ | ⟨g, off, cap, cur, e1, -, hb, hnc, hcm, hcs, htk⟩
 · obtain rfl := List.length_eq_zero_iff.1 h0
   refine (AnyG.slices_Sort_int_none Tryz.sort64 p c w0).mono ?_
   rintro e w' ⟨rfl, rfl⟩; exact ⟨rfl, by simpa using m0⟩
 injection e1 with h1 h2 h3; subst h1; subst h3
 refine (AnyG.slices_Sort_int Tryz.sort64 g off c zs w0 (holds_at hb htk (by omega)) (Array.getElem?_eq_some_iff.1 hb).1 (by omega)).mono ?_
 rintro e w' ⟨rfl, n, os, rfl⟩
 exact ⟨rfl, (m0.putN 1 rfl (zs.mergeSort fun x y => decide (x ≤ y)) (by simp) n os).only [1]⟩
theorem delete64_fr (X : Cx) (p : Option Addr) (c : Nat) (zs : List Int) (k : Nat) (w0 : World) (hk : k < zs.length) (hl : zs.length ≤ 1000000) (m0 : MemOk X w0 [(1, .seg (.slice p zs.length c) 2 1 (zs.map nD))] w0) :
   Calls Tryz.prog 173 #[.slice p zs.length c, .int .i64 (k : Int), .int .i64 ((k + 1 : Nat) : Int)] w0 fun e w' => e = .returned (.slice p (zs.take k ++ zs.drop (k + 1)).length c) ∧ MemOk X w0 [(1, .seg (.slice p (zs.take k ++ zs.drop (k + 1)).length c) 2 1 ((zs.take k ++ zs.drop (k + 1)).map nD))] w' := by
 have hs := (seg_nums (m0.ok 1 _ rfl).1).2
 rcases hs with ⟨e1, h0⟩ | ⟨g, off, cap, cur, e1, -, hb, hnc, hcm, hcs, htk⟩
 · omega
 injection e1 with h1 h2 h3; subst h1; subst h3
 refine (AnyG.slices_Delete_int Tryz.delete64 g off c k (k + 1) zs w0 (holds_at hb htk (by omega)) hnc (by unfold maxLen at hcm; omega) (by omega) (by omega)).mono ?_
 rintro e w' ⟨rfl, n, rfl⟩
 have hlen : (zs.take k ++ zs.drop (k + 1)).length = zs.length - (k + 1 - k) := by rw [List.length_append, List.length_take, List.length_drop]; omega
 have h1 := m0.putN 1 rfl (zs.take k ++ zs.drop (k + 1) ++ List.replicate (k + 1 - k) 0) (by rw [List.length_append, List.length_append, List.length_replicate, List.length_take, List.length_drop]; omega) n #[]
 rw [grow_empty] at h1
 have h2 := (h1.takeS 1 rfl (zs.take k ++ zs.drop (k + 1)).length (by simp)).only [1]
 rw [← List.map_take, List.take_left' rfl] at h2
 rw [← hlen]
 exact ⟨rfl, h2⟩
theorem plain64_own (d : List Int) (p0 : Option Addr) (c0 : Nat) (w0 : World) (h0 : Rd (fun _ => True) w0 (.slice p0 d.length c0) (.ns .i64 d)) (hd : d.length ≤ 1000000) :
   Calls Tryz.prog 100 #[.slice p0 d.length c0] w0 fun e w' => ∃ p c, e = .returned (.slice p d.length c) ∧ w'.ownsRow w0.heap.size 2 1 (.slice p d.length c) d.length (d.map (Value.int .i64)) ∧ Below w0.heap.size w0 w' := by
 refine ent1 Tryz.func100 rfl Tryz.ntmps100 fun Az Hz => ?_
 have m0 := MemOk.start (fun _ => False) w0
 refine regS Hz (.assign rfl .nil) fun Az Hz => ?_
 refine zsr fun K0 hK0 => ?_
 refine goCh Hz (.move rfl .nil) fun Az Hz => ?_
 refine plz (e_app0N Hz m0 2 rfl rfl (h0.now' m0 rfl).ns_out.nums U48 fct1 (by decide) (by omega) rfl fun p4 c4 Az w5 Hz m5 => ?_)
 refine gz hK0 Hz (.assign rfl .nil) fun Az Hz => ?_
 refine rt1 Hz ?_
 exact ⟨_, _, rfl, m5.ok 2 _ rfl, m5.below⟩
theorem volcopy_fp (X : Cx) (vo bl sz pe to ne fl : Int) (hi : Bool) (place pins : List Int) (ws : List (Int × List (Int × List Int))) (pp pn pw : Option Addr) (cp cn9 cw : Nat) (w0 : World) (hn : place.length ≤ 1000000) (hp : pins.length ≤ 900000) (hl : ws.length ≤ 1000000) (hok : WrsOk ws) (m0 : MemOk X w0 [(1, .dat (.slice pp place.length cp) (.ns .i64 place)), (2, .dat (.slice pn pins.length cn9) (.ns .i64 pins)), (3, .dat (.slice pw (ws.map wrD).length cw) (.l 2 (ws.map wrD)))] w0) :
   Calls Tryz.prog 52 #[.agg #[.int .i64 vo, .int .i64 bl, .int .i64 sz, .int .i64 pe, .slice pp place.length cp, .int .i64 to, .int .i64 ne, .bool hi, .int .i64 fl, .slice pn pins.length cn9, .slice pw (ws.map wrD).length cw]] w0 fun e w' => ∃ p1 c1 p2 c2 p3 c3, e = .returned (.agg #[.int .i64 vo, .int .i64 bl, .int .i64 sz, .int .i64 pe, .slice p1 place.length c1, .int .i64 to, .int .i64 ne, .bool hi, .int .i64 fl, .slice p2 pins.length c2, .slice p3 (ws.map wrD).length c3]) ∧ MemOk X w0 [(1, .dat (.slice pp place.length cp) (.ns .i64 place)), (2, .dat (.slice pn pins.length cn9) (.ns .i64 pins)), (3, .dat (.slice pw (ws.map wrD).length cw) (.l 2 (ws.map wrD))), (4, .dat (.slice p1 place.length c1) (.ns .i64 place)), (5, .seg (.slice p2 pins.length c2) 2 1 (pins.map nD)), (6, .seg (.slice p3 (ws.map wrD).length c3) 103 2 (ws.map wrD))] w' := by
 refine ent1 Tryz.func52 rfl Tryz.ntmps52 fun Az Hz => ?_
 refine zsr fun K0 hK0 => ?_
 refine plz (e_box Hz m0 20 (cs := [_, _, _, _, _, _, _, _, _, _, _]) rfl rfl rfl fun g1 Az w2 Hz m2 _ _ => ?_)
 refine plz (e_alloc Hz m2 21 fct14 rfl fun g3 Az w4 Hz m4 _ _ => ?_)
 refine znl (hK0 _ _ ?_)
 refine wsk fun K1 hK1 => ?_
 have m5 := m4.oz [1, 2, 3, 20, 21]
 refine region_p 10 (B := [(1, _), (2, _), (3, _), (20, _), (21, _)]) (m5.to ⟨il, il, il, il, il, trivial⟩) m5 (by kernel_rfl) (fun w6 hP6 m6 => ?_); clear m5
 refine goR hP6 [0, 1, 3, 4, 6, 7] [1, 4, 7] 6 0 219 Hz (m6.to ⟨il, il, il, il, il, trivial⟩) (.fa 4 rfl U51 <| .lb hh 20 U35 rfl rfl rfl <| .fa 9 rfl U51 <| .lb hh 20 U48 rfl rfl rfl <| .fa 10 rfl U51 <| .lb hh 20 U49 rfl rfl rfl .nil) fun Az Hz => ?_
 refine so 2 ?_
 refine ecl Hz Tryz.func99 rfl (plainI_any place _ _ _ ((m6.rd (i := 1) rfl).any) hn) ?_
 rintro e w13 ⟨p13, c13, rfl, hd13, hb13⟩
 have m14 := m6.callF 22 rfl hb13 hd13
 refine ⟨_, rfl, ?_⟩; intro Az Hz
 refine ⟨m14.to ⟨il, il, il, il, il, trivial⟩, ?_⟩
 refine goA hP6 [9] 1 223 735 Hz (m14.to ⟨il, il, il, il, il, trivial⟩) (.fa 4 rfl U51 .nil) fun Az Hz => ?_
 refine so 5 ?_
 refine ecl Hz Tryz.func100 rfl (plain64_own pins _ _ _ ((m14.rd (i := 2) rfl).any) (by omega)) ?_
 rintro e w17 ⟨p17, c17, rfl, ho17, hb17⟩
 have m18 := (m14.newN 23 hb17 ho17).numS 23 rfl
 refine ⟨_, rfl, ?_⟩; intro Az Hz
 refine ⟨m18.to ⟨il, il, il, il, il, trivial⟩, ?_⟩
 refine so 8 ?_
 refine ecl Hz Tryz.func101 rfl (listW_own ws _ _ _ _ ((m18.rd (i := 3) rfl).any) hl hok) ?_
 rintro e w20 ⟨p20, c20, rfl, ho20, hb20⟩
 have m21 := m18.callR 24 hb20 (ho20.cast (fun b h => ⟨h.1.elim False.elim .inr, h.2⟩))
 have m22 := m21.rowS 24 rfl
 refine ⟨_, rfl, ?_⟩; intro Az Hz
 refine ⟨m22.to ⟨il, il, il, il, il, trivial⟩, ?_⟩
 refine se 10 ?_
 refine st1 Hz m22 20 fct10 fun w24 m24 _ => ?_
 refine goB hP6 [11] 1 2047 4095 Hz (.fa 9 rfl U51 .nil) fun Az Hz => ?_
 refine se 12 ?_
 refine st1 Hz m24 20 fct11 fun w26 m26 _ => ?_
 refine goB hP6 [13] 1 8191 16383 Hz (.fa 10 rfl U51 .nil) fun Az Hz => ?_
 refine se 14 ?_
 refine st1 Hz m26 20 fct12 fun w28 m28 _ => ?_
 refine wpAnyE_done (by kernel_rfl) ?_ _
 refine hK1 _ _ ?_
 replace Hz := Hz.oz [1, 2]
 refine zsr fun K2 hK2 => ?_
 refine goCh Hz (.loadBR m28 (i := 20) rfl rfl U51 rfl fct13 (by simp) (by dsimp only [List.drop, List.take] <;> rfl) .nil) fun Az Hz => ?_
 refine plz (stw Hz m28 21 fct13 fun w32 m32 _ => ?_)
 refine znl (hK2 _ _ ?_)
 refine rtd (retC (fn := Tryz.f52) Hz m32 (i := 21) rfl rfl rfl U51 rfl fct13 ?_)
 exact ⟨_, _, _, _, _, _, rfl, m32.ren [(1, 1), (2, 2), (3, 3), (4, 22), (5, 23), (6, 24)] (by decide)⟩
theorem ypin (X : Cx) (B : Nat) (vo bl sz pe to ne fl : Int) (hi : Bool) (place pins : List Int) (ws : List (Int × List (Int × List Int))) (pp pn pw : Option Addr) (cp cn9 cw : Nat) (at0 : Int) (w0 : World) (hp : pins.length ≤ 900000) (m0 : MemOk X w0 [(1, .box B 51 [.int .i64 vo, .int .i64 bl, .int .i64 sz, .int .i64 pe, .slice pp place.length cp, .int .i64 to, .int .i64 ne, .bool hi, .int .i64 fl, .slice pn pins.length cn9, .slice pw (ws.map wrD).length cw]), (4, .seg (.slice pn pins.length cn9) 2 1 (pins.map nD))] w0) :
   Calls Tryz.prog 148 #[.pointer (some ⟨B, 0, none⟩), .int .i64 at0] w0 fun e w' => ∃ (pins' : List Int) (e9 : Int) (pn' : Option Addr) (cn' : Nat), e = .returned (.int .i64 e9) ∧ pinR hi fl at0 ws.length pins = (pins', e9) ∧ MemOk X w0 [(1, .box B 51 [.int .i64 vo, .int .i64 bl, .int .i64 sz, .int .i64 pe, .slice pp place.length cp, .int .i64 to, .int .i64 ne, .bool hi, .int .i64 fl, .slice pn' pins'.length cn', .slice pw (ws.map wrD).length cw]), (4, .seg (.slice pn' pins'.length cn') 2 1 (pins'.map nD))] w' := by
 refine ent2 Tryz.func148 rfl Tryz.ntmps148 fun Az Hz => ?_
 refine regS Hz (.assign rfl .nil) fun Az Hz => ?_
 refine zsr fun K0 hK0 => ?_
 refine goCh Hz (.move rfl <| .move rfl <| .move rfl <| .nilCheck rfl <| .loadBR m0 (i := 1) rfl rfl U51 rfl fct13 (by simp) (by dsimp only [List.drop, List.take] <;> rfl) .nil) fun Az Hz => ?_
 refine wpList_plain rfl (fun K hK => ?_)
 refine e_call Hz Tryz.func111 rfl rfl rfl rfl (vlen_any _ _ _ _ _ _ _ _ _ _ _ _ _ _ _ _ _ _) ?_
 rintro e w12 ⟨rfl, hb12⟩
 rw [List.length_map]
 have m13 := m0.later hb12
 refine ⟨_, rfl, ?_⟩; intro Az Hz
 refine hK _ _ ?_; clear hK
 refine plz (ecl Hz Tryz.func169 rfl (xreach _ _ _ _ _ _ _ _ _ _ place pins ws _ _ _ _ _ _ _ _ _ (m13.into [(1, 1)] (by decide) rfl)) ?_)
 rintro e w15 ⟨ex, rfl, hr, hm15⟩
 have mx15 := m13.back hm15 [(1, 1)] (by decide); clear hm15 m13
 have m15 := mx15.oz [1, 4]
 refine ⟨_, rfl, ?_⟩; intro Az Hz
 refine gz hK0 Hz (.assign rfl .nil) fun Az Hz => ?_
 refine wsk fun K1 hK1 => ?_
 replace Hz := Hz.oz [0, 1, 4, 5]
 refine regS Hz (.move rfl <| .eql rfl rfl .nil) fun Az Hz => ?_
 refine bc Hz 14 ?_ ?_
 ·
  intro hb21 Hz; try simp only [QQ, Qax] at hb21
  refine wct Hz ?_
  refine zsr fun K2 hK2 => ?_
  refine goCh Hz (.move rfl <| .move rfl <| .nilCheck rfl <| .fa 9 rfl U51 <| .lb m15 1 U48 rfl rfl rfl <| .move rfl .nil) fun Az Hz => ?_
  refine plz (e_litN Hz m15 20 (k := .i64) rfl rfl U48 fct1 rfl rfl rfl rfl fun g34 Az w35 Hz m35 => ?_)
  have m37 := m35.numS 20 rfl
  refine plz (e_appSA Hz m37 4 rfl rfl rfl (m37.srcS (i := 20) rfl) U48 fct1 rfl rfl (by decide) (by simp; omega) rfl fun p36 c36 Az w38 Hz m38 => ?_)
  refine goCh Hz (.nilCheck rfl <| .fa 9 rfl U51 .nil) fun Az Hz => ?_
  refine plz (st1 Hz m38 1 fct11 fun w41 m41 _ => ?_)
  refine znl (hK2 _ _ ?_)
  replace Hz := Hz.oz [0, 4, 5, 14]
  refine wp_region_lit ?_
  refine goCh Hz (.move rfl <| .nilCheck rfl <| .fa 9 rfl U51 <| .lb m41 1 U48 rfl rfl rfl .nil) fun Az Hz => ?_
  rw [← List.map_append, List.length_map] at m41 Hz
  refine plz (ecl Hz Tryz.func171 rfl (sort64_fr _ _ _ (pins ++ [at0]) _ (by simp; omega) (m41.into [(1, 4)] (by decide) rfl)) ?_)
  rintro e w47 ⟨rfl, hm47⟩
  have mx47 := m41.back hm47 [(4, 1)] (by decide); clear hm47 m41
  have m47 := mx47.oz [4, 1, 20]
  refine ⟨_, rfl, ?_⟩; intro Az Hz
  refine znl (hK1 _ _ ?_)
  replace Hz := Hz.oz [4, 5, 14]
  refine regS Hz (.move rfl <| .assign rfl .nil) fun Az Hz => ?_
  refine rt1 Hz ?_
  have hl9 : (pins ++ [at0]).length = (sortP (pins ++ [at0])).length := by simp [sortP]
  rw [show List.mergeSort (pins ++ [at0]) (fun x y => decide (x ≤ y)) = sortP (pins ++ [at0]) from rfl, hl9] at m47
  exact ⟨sortP (pins ++ [at0]), 0, _, _, by simp_all, by rw [pinR, if_pos (by rw [hr]; assumption)], m47.only [1, 4]⟩
 intro hb21 Hz; try simp only [QQ, Qax] at hb21
 refine wcf Hz ?_
 refine zss (hK1 _ _ ?_)
 refine regS Hz (.move rfl <| .assign rfl .nil) fun Az Hz => ?_
 refine rt1 Hz ?_
 exact ⟨pins, ex, _, _, rfl, by rw [pinR, if_neg (by rw [hr]; assumption), hr], m15.only [1, 4]⟩
theorem yunpin (X : Cx) (B : Nat) (vo bl sz pe to ne fl : Int) (hi : Bool) (place pins : List Int) (ws : List (Int × List (Int × List Int))) (pp pn pw : Option Addr) (cp cn9 cw : Nat) (at0 : Int) (w0 : World) (hp : pins.length ≤ 900000) (m0 : MemOk X w0 [(1, .box B 51 [.int .i64 vo, .int .i64 bl, .int .i64 sz, .int .i64 pe, .slice pp place.length cp, .int .i64 to, .int .i64 ne, .bool hi, .int .i64 fl, .slice pn pins.length cn9, .slice pw (ws.map wrD).length cw]), (4, .seg (.slice pn pins.length cn9) 2 1 (pins.map nD))] w0) :
   Calls Tryz.prog 149 #[.pointer (some ⟨B, 0, none⟩), .int .i64 at0] w0 fun e w' => ∃ (pins' : List Int) (e9 : Int) (pn' : Option Addr) (cn' : Nat), e = .returned (.int .i64 e9) ∧ unpinR hi at0 pins = (pins', e9) ∧ MemOk X w0 [(1, .box B 51 [.int .i64 vo, .int .i64 bl, .int .i64 sz, .int .i64 pe, .slice pp place.length cp, .int .i64 to, .int .i64 ne, .bool hi, .int .i64 fl, .slice pn' pins'.length cn', .slice pw (ws.map wrD).length cw]), (4, .seg (.slice pn' pins'.length cn') 2 1 (pins'.map nD))] w' := by
 refine ent2 Tryz.func149 rfl Tryz.ntmps149 fun Az Hz => ?_
 refine regS Hz (.assign rfl .nil) fun Az Hz => ?_
 refine zsr fun K0 hK0 => ?_
 refine goCh Hz (.move rfl <| .nilCheck rfl <| .fa 9 rfl U51 <| .lb m0 1 U48 rfl rfl rfl <| .move rfl .nil) fun Az Hz => ?_
 refine plz (ecb Hz Tryz.func172 rfl m0 (index64_any pins at0 _ _ _ (m0.rdN (i := 4) rfl) (by omega)) fun Az w12 Hz m13 => ?_)
 refine gz hK0 Hz (.assign rfl .nil) fun Az Hz => ?_
 refine wsk fun K1 hK1 => ?_
 replace Hz := Hz.oz [0, 4, 5]
 refine zsr fun K2 hK2 => ?_
 refine goCh Hz (.move rfl <| .nilCheck rfl <| .fa 7 rfl U51 <| .lb m13 1 U4 rfl rfl rfl <| .move rfl .nil) fun Az Hz => ?_
 refine bc Hz 16 ?_ ?_
 ·
  intro hb27 Hz; try simp only [QQ, Qax] at hb27
  refine gz hK2 Hz (.sk <| .sk <| .pickT rfl rfl <| .nil) fun Az Hz => ?_
  refine wct Hz ?_
  refine regS Hz (.assign rfl .nil) fun Az Hz => ?_
  refine rt1 Hz ?_
  exact ⟨pins, 28, _, _, rfl, by rw [unpinR, if_pos (by first | (left; assumption) | (right; omega))], m13.only [1, 4]⟩
 intro hb27 Hz; try simp only [QQ, Qax] at hb27
 refine gz hK2 Hz (.moveZ rfl <| .lssZ rfl rfl <| .pickF rfl rfl <| .nil) fun Az Hz => ?_
 refine bc Hz 19 ?_ ?_
 ·
  intro hb35 Hz; try simp only [QQ, Qax] at hb35
  refine wct Hz ?_
  refine regS Hz (.assign rfl .nil) fun Az Hz => ?_
  refine rt1 Hz ?_
  exact ⟨pins, 28, _, _, rfl, by rw [unpinR, if_pos (by first | (left; assumption) | (right; omega))], m13.only [1, 4]⟩
 intro hb35 Hz; try simp only [QQ, Qax] at hb35
 obtain ⟨k, hk, hk2⟩ := idx_lt (zs := pins) (x := at0) (by omega)
 rw [hk] at Hz
 refine wcf Hz ?_
 refine zss (hK1 _ _ ?_)
 refine zsr fun K3 hK3 => ?_
 refine goCh Hz (.move rfl <| .move rfl <| .nilCheck rfl <| .fa 9 rfl U51 <| .lb m13 1 U48 rfl rfl rfl <| .move rfl <| .move rfl <| .inc (k + 1) .nil) fun Az Hz => ?_
 refine plz (ecl Hz Tryz.func173 rfl (delete64_fr _ _ _ pins k _ hk2 (by omega) (m13.into [(1, 4)] (by decide) rfl)) ?_)
 rintro e w53 ⟨rfl, hm53⟩
 have mx53 := m13.back hm53 [(4, 1)] (by decide); clear hm53 m13
 have m53 := mx53.oz [4, 1]
 refine ⟨_, rfl, ?_⟩; intro Az Hz
 refine plz (ecl Hz Tryz.func100 rfl (plain64_own (pins.take k ++ pins.drop (k + 1)) _ _ _ ((m53.rdN (i := 4) rfl)) (by simp; omega)) ?_)
 rintro e w55 ⟨p55, c55, rfl, ho55, hb55⟩
 have m56 := (m53.newN 20 hb55 ho55).numS 20 rfl
 refine ⟨_, rfl, ?_⟩; intro Az Hz
 refine goCh Hz (.nilCheck rfl <| .fa 9 rfl U51 .nil) fun Az Hz => ?_
 refine plz (st1 Hz m56 1 fct11 fun w60 m60 _ => ?_)
 refine znl (hK3 _ _ ?_)
 replace Hz := Hz.oz [4, 15, 16, 19]
 refine regS Hz (.assign rfl .nil) fun Az Hz => ?_
 refine rt1 Hz ?_
 exact ⟨pins.take k ++ pins.drop (k + 1), 0, _, _, rfl, by rw [unpinR, if_neg (by rintro (h | h) <;> first | omega | simp_all), hk]; simp, m60.ren [(1, 1), (4, 20)] (by decide)⟩
theorem ydo4 (X : Cx) (B : Nat) (vo bl sz pe to ne fl : Int) (hi : Bool) (place pins : List Int) (ws : List (Int × List (Int × List Int))) (pp pn pw : Option Addr) (cp cn9 cw : Nat) (v1 v2 v3 v4 v5 at0 v6 : Int) (q1 : Option Addr) (n1 c1 : Nat) (q2 : Option Addr) (n2 c2 : Nat) (w0 : World) (hp : pins.length ≤ 900000) (m0 : MemOk X w0 [(1, .box B 51 [.int .i64 vo, .int .i64 bl, .int .i64 sz, .int .i64 pe, .slice pp place.length cp, .int .i64 to, .int .i64 ne, .bool hi, .int .i64 fl, .slice pn pins.length cn9, .slice pw (ws.map wrD).length cw]), (4, .seg (.slice pn pins.length cn9) 2 1 (pins.map nD))] w0) :
   Calls Tryz.prog 133 #[.pointer (some ⟨B, 0, none⟩), .agg #[.int .i64 4, .int .i64 v1, .int .i64 v2, .int .i64 v3, .int .i64 v4, .slice q1 n1 c1, .int .i64 v5, .int .i64 at0, .int .i64 v6, .slice q2 n2 c2]] w0 fun e w' => ∃ (pins' : List Int) (e9 : Int) (pn' : Option Addr) (cn' : Nat), e = .returned (.int .i64 e9) ∧ pinR hi fl at0 ws.length pins = (pins', e9) ∧ MemOk X w0 [(1, .box B 51 [.int .i64 vo, .int .i64 bl, .int .i64 sz, .int .i64 pe, .slice pp place.length cp, .int .i64 to, .int .i64 ne, .bool hi, .int .i64 fl, .slice pn' pins'.length cn', .slice pw (ws.map wrD).length cw]), (4, .seg (.slice pn' pins'.length cn') 2 1 (pins'.map nD))] w' := by
 refine ent2 Tryz.func133 rfl Tryz.ntmps133 fun Az Hz => ?_
 refine zsr fun K0 hK0 => ?_
 refine plz (e_box Hz m0 20 (cs := [_, _, _, _, _, _, _, _, _, _]) rfl rfl rfl fun g1 Az w2 Hz m2 _ _ => ?_)
 refine gz hK0 Hz (.assign rfl .nil) fun Az Hz => ?_
 refine wsk fun K1 hK1 => ?_
 refine regS Hz (.fa 0 rfl U38 <| .lb m2 20 U3 rfl rfl rfl .nil) fun Az Hz => ?_
 refine wp_block ?_
 refine regS Hz (.eql rfl rfl <| .assign rfl .nil) fun Az Hz => ?_
 refine bc Hz 7 ?_ ?_
 · intro hb _; exact absurd hb (by simp)
 clear Hz; intro _ Hz
 refine wcf Hz ?_
 refine regS Hz (.eql rfl rfl <| .assign rfl .nil) fun Az Hz => ?_
 refine bc Hz 13 ?_ ?_
 · intro hb _; exact absurd hb (by simp)
 clear Hz; intro _ Hz
 refine wcf Hz ?_
 replace Hz := Hz.oz [0, 3, 4, 6]
 refine regS Hz (.eql rfl rfl <| .assign rfl .nil) fun Az Hz => ?_
 refine bc Hz 19 ?_ ?_
 rotate_left
 · intro hb _; exact absurd hb (by simp)
 clear Hz; intro _ Hz
 refine wct Hz ?_
 refine zsr fun K2 hK2 => ?_
 refine goCh Hz (.move rfl <| .fa 7 rfl U38 <| .lb m2 20 U2 rfl rfl rfl .nil) fun Az Hz => ?_
 refine plz (ecl Hz Tryz.func148 rfl (ypin _ _ _ _ _ _ _ _ _ _ place pins ws _ _ _ _ _ _ _ _ hp (m2.into [(1, 1), (4, 4)] (by decide) rfl)) ?_)
 rintro e w22 ⟨pins1, e1, pn22, cn22, rfl, hR, hm22⟩
 have mx22 := m2.back hm22 [(1, 1), (4, 4)] (by decide); clear hm22 m2
 have m22 := mx22.oz [1, 4, 20]
 refine ⟨_, rfl, ?_⟩; intro Az Hz
 refine gz hK2 Hz (.assign rfl .nil) fun Az Hz => ?_
 refine rt1 Hz ?_
 exact ⟨pins1, e1, _, _, rfl, hR, m22.only [1, 4]⟩
theorem ydo5 (X : Cx) (B : Nat) (vo bl sz pe to ne fl : Int) (hi : Bool) (place pins : List Int) (ws : List (Int × List (Int × List Int))) (pp pn pw : Option Addr) (cp cn9 cw : Nat) (v1 v2 v3 v4 v5 at0 v6 : Int) (q1 : Option Addr) (n1 c1 : Nat) (q2 : Option Addr) (n2 c2 : Nat) (w0 : World) (hp : pins.length ≤ 900000) (m0 : MemOk X w0 [(1, .box B 51 [.int .i64 vo, .int .i64 bl, .int .i64 sz, .int .i64 pe, .slice pp place.length cp, .int .i64 to, .int .i64 ne, .bool hi, .int .i64 fl, .slice pn pins.length cn9, .slice pw (ws.map wrD).length cw]), (4, .seg (.slice pn pins.length cn9) 2 1 (pins.map nD))] w0) :
   Calls Tryz.prog 133 #[.pointer (some ⟨B, 0, none⟩), .agg #[.int .i64 5, .int .i64 v1, .int .i64 v2, .int .i64 v3, .int .i64 v4, .slice q1 n1 c1, .int .i64 v5, .int .i64 at0, .int .i64 v6, .slice q2 n2 c2]] w0 fun e w' => ∃ (pins' : List Int) (e9 : Int) (pn' : Option Addr) (cn' : Nat), e = .returned (.int .i64 e9) ∧ unpinR hi at0 pins = (pins', e9) ∧ MemOk X w0 [(1, .box B 51 [.int .i64 vo, .int .i64 bl, .int .i64 sz, .int .i64 pe, .slice pp place.length cp, .int .i64 to, .int .i64 ne, .bool hi, .int .i64 fl, .slice pn' pins'.length cn', .slice pw (ws.map wrD).length cw]), (4, .seg (.slice pn' pins'.length cn') 2 1 (pins'.map nD))] w' := by
 refine ent2 Tryz.func133 rfl Tryz.ntmps133 fun Az Hz => ?_
 refine zsr fun K0 hK0 => ?_
 refine plz (e_box Hz m0 20 (cs := [_, _, _, _, _, _, _, _, _, _]) rfl rfl rfl fun g1 Az w2 Hz m2 _ _ => ?_)
 refine gz hK0 Hz (.assign rfl .nil) fun Az Hz => ?_
 refine wsk fun K1 hK1 => ?_
 refine regS Hz (.fa 0 rfl U38 <| .lb m2 20 U3 rfl rfl rfl .nil) fun Az Hz => ?_
 refine wp_block ?_
 refine regS Hz (.eql rfl rfl <| .assign rfl .nil) fun Az Hz => ?_
 refine bc Hz 7 ?_ ?_
 · intro hb _; exact absurd hb (by simp)
 clear Hz; intro _ Hz
 refine wcf Hz ?_
 refine regS Hz (.eql rfl rfl <| .assign rfl .nil) fun Az Hz => ?_
 refine bc Hz 13 ?_ ?_
 · intro hb _; exact absurd hb (by simp)
 clear Hz; intro _ Hz
 refine wcf Hz ?_
 replace Hz := Hz.oz [0, 3, 4, 6]
 refine regS Hz (.eql rfl rfl <| .assign rfl .nil) fun Az Hz => ?_
 refine bc Hz 19 ?_ ?_
 · intro hb _; exact absurd hb (by simp)
 clear Hz; intro _ Hz
 refine wcf Hz ?_
 refine regS Hz (.eql rfl rfl <| .assign rfl .nil) fun Az Hz => ?_
 refine bc Hz 25 ?_ ?_
 rotate_left
 · intro hb _; exact absurd hb (by simp)
 clear Hz; intro _ Hz
 refine wct Hz ?_
 refine zsr fun K2 hK2 => ?_
 refine goCh Hz (.move rfl <| .fa 7 rfl U38 <| .lb m2 20 U2 rfl rfl rfl .nil) fun Az Hz => ?_
 refine plz (ecl Hz Tryz.func149 rfl (yunpin _ _ _ _ _ _ _ _ _ _ place pins ws _ _ _ _ _ _ _ _ hp (m2.into [(1, 1), (4, 4)] (by decide) rfl)) ?_)
 rintro e w25 ⟨pins1, e1, pn25, cn25, rfl, hR, hm25⟩
 have mx25 := m2.back hm25 [(1, 1), (4, 4)] (by decide); clear hm25 m2
 have m25 := mx25.oz [1, 4, 20]
 refine ⟨_, rfl, ?_⟩; intro Az Hz
 refine gz hK2 Hz (.assign rfl .nil) fun Az Hz => ?_
 refine rt1 Hz ?_
 exact ⟨pins1, e1, _, _, rfl, hR, m25.only [1, 4]⟩
theorem yDo4 (X : Cx) (vo bl sz pe to ne fl : Int) (hi : Bool) (place pins : List Int) (ws : List (Int × List (Int × List Int))) (pp pn pw : Option Addr) (cp cn9 cw : Nat) (v1 v2 v3 v4 v5 at0 v6 : Int) (q1 : Option Addr) (n1 c1 : Nat) (q2 : Option Addr) (n2 c2 : Nat) (w0 : World) (hn : place.length ≤ 1000000) (hp : pins.length ≤ 900000) (hl : ws.length ≤ 900000) (hok : WrsOk ws) (m0 : MemOk X w0 [(1, .dat (.slice pp place.length cp) (.ns .i64 place)), (2, .dat (.slice pn pins.length cn9) (.ns .i64 pins)), (3, .dat (.slice pw (ws.map wrD).length cw) (.l 2 (ws.map wrD)))] w0) :
   Calls Tryz.prog 96 #[.agg #[.int .i64 vo, .int .i64 bl, .int .i64 sz, .int .i64 pe, .slice pp place.length cp, .int .i64 to, .int .i64 ne, .bool hi, .int .i64 fl, .slice pn pins.length cn9, .slice pw (ws.map wrD).length cw], .agg #[.int .i64 4, .int .i64 v1, .int .i64 v2, .int .i64 v3, .int .i64 v4, .slice q1 n1 c1, .int .i64 v5, .int .i64 at0, .int .i64 v6, .slice q2 n2 c2]] w0 fun e w' => ∃ (pins' : List Int) (e9 rl rf rn : Int) (p1' : Option Addr) (d1' : Nat) (p2' : Option Addr) (d2' : Nat) (p3' : Option Addr) (d3' : Nat), e = .returned (.tuple #[.agg #[.int .i64 vo, .int .i64 bl, .int .i64 sz, .int .i64 pe, .slice p1' place.length d1', .int .i64 to, .int .i64 ne, .bool hi, .int .i64 fl, .slice p2' pins'.length d2', .slice p3' (ws.map wrD).length d3'], .agg #[.int .i64 e9, .int .i64 rl, .int .i64 rf, .int .i64 rn, .slice none 0 0]]) ∧ pinR hi fl at0 ws.length pins = (pins', e9) ∧ ((e9 ≠ 0 ∧ rl = 0 ∧ rf = 0 ∧ rn = 0) ∨ (e9 = 0 ∧ rl = ws.length ∧ rf = fl ∧ rn = ne)) ∧ MemOk X w0 [(1, .dat (.slice pp place.length cp) (.ns .i64 place)), (2, .dat (.slice pn pins.length cn9) (.ns .i64 pins)), (3, .dat (.slice pw (ws.map wrD).length cw) (.l 2 (ws.map wrD))), (5, .dat (.slice p1' place.length d1') (.ns .i64 place)), (6, .seg (.slice p2' pins'.length d2') 2 1 (pins'.map nD)), (7, .seg (.slice p3' (ws.map wrD).length d3') 103 2 (ws.map wrD))] w' := by
 refine ent2 Tryz.func96 rfl Tryz.ntmps96 fun Az Hz => ?_
 refine zsr fun K0 hK0 => ?_
 refine plz (e_box Hz m0 20 (cs := [_, _, _, _, _, _, _, _, _, _, _]) rfl rfl rfl fun g1 Az w2 Hz m2 _ _ => ?_)
 refine plz (e_box Hz m2 21 (cs := [_, _, _, _, _, _, _, _, _, _]) rfl rfl rfl fun g3 Az w4 Hz m4 _ _ => ?_)
 refine plz (e_alloc Hz m4 22 fct14 rfl fun g5 Az w6 Hz m6 _ _ => ?_)
 refine plz (e_alloc Hz m6 23 fct29 rfl fun g7 Az w8 Hz m8 _ _ => ?_)
 refine znl (hK0 _ _ ?_)
 refine zsr fun K1 hK1 => ?_
 refine goCh Hz (.loadBR m8 (i := 20) rfl rfl U51 rfl fct13 (by simp) (by dsimp only [List.drop, List.take] <;> rfl) .nil) fun Az Hz => ?_
 refine plz (ecl Hz Tryz.func52 rfl (volcopy_fp _ _ _ _ _ _ _ _ _ place pins ws _ _ _ _ _ _ _ hn hp (by omega) hok (m8.into [(1, 1), (2, 2), (3, 3)] (by decide) rfl)) ?_)
 rintro e w11 ⟨p111, c111, p211, c211, p311, c311, rfl, hm11⟩
 have mx11 := m8.back hm11 [(1, 1), (2, 2), (3, 3), (24, 4), (25, 5), (26, 6)] (by decide); clear hm11 m8
 have m11 := mx11.oz [1, 2, 3, 24, 25, 26, 20, 21, 22, 23]
 refine ⟨_, rfl, ?_⟩; intro Az Hz
 refine plz (stw Hz m11 20 fct13 fun w13 m13 _ => ?_)
 refine znl (hK1 _ _ ?_)
 refine wsk fun K2 hK2 => ?_
 refine zsr fun K3 hK3 => ?_
 refine goCh Hz (.loadBR m13 (i := 21) rfl rfl U38 rfl fct19 (by simp) (by dsimp only [List.drop, List.take] <;> rfl) .nil) fun Az Hz => ?_
 refine plz (ecl Hz Tryz.func133 rfl (ydo4 _ _ _ _ _ _ _ _ _ _ place pins ws _ _ _ _ _ _ _ _ _ _ _ _ _ _ _ _ _ _ _ _ hp (m13.into [(1, 20), (4, 25)] (by decide) rfl)) ?_)
 rintro e w16 ⟨pins1, e1, pn16, cn16, rfl, hR, hm16⟩
 have mx16 := m13.back hm16 [(20, 1), (25, 4)] (by decide); clear hm16 m13
 have m16 := mx16.oz [20, 25, 1, 2, 3, 21, 22, 23, 24, 26]
 refine ⟨_, rfl, ?_⟩; intro Az Hz
 refine gz hK3 Hz (.assign rfl .nil) fun Az Hz => ?_
 replace Hz := Hz.oz [2, 4, 5, 6]
 refine regS Hz (.move rfl <| .neq rfl rfl .nil) fun Az Hz => ?_
 refine bc Hz 12 ?_ ?_
 ·
  intro hb22 Hz; try simp only [QQ, Qax] at hb22
  refine wct Hz ?_
  refine zsr fun K4 hK4 => ?_
  refine goCh Hz (.loadBR m16 (i := 20) rfl rfl U51 rfl fct13 (by simp) (by dsimp only [List.drop, List.take] <;> rfl) <| .move rfl <| .build rfl fct29 fl44yD4 rfl (by dsimp only [setL, List.set] <;> rfl) .nil) fun Az Hz => ?_
  refine plz (stw Hz m16 22 fct13 fun w29 m29 _ => ?_)
  refine plz (stw Hz m29 23 fct28 fun w30 m30 _ => ?_)
  refine znl (hK4 _ _ ?_)
  refine rtd (retCC (fn := Tryz.f96) Hz m30 (i := 22) (i2 := 23) rfl rfl rfl rfl rfl U51 rfl fct13 U44 rfl fct28 ?_)
  exact ⟨pins1, e1, 0, 0, 0, _, _, _, _, _, _, rfl, hR, .inl ⟨by assumption, rfl, rfl, rfl⟩, m30.ren [(1, 1), (2, 2), (3, 3), (5, 24), (6, 25), (7, 26)] (by decide)⟩
 intro hb22 Hz; try simp only [QQ, Qax] at hb22
 refine wcf Hz ?_
 refine zss (hK2 _ _ ?_)
 refine wsk fun K5 hK5 => ?_
 have m31 := m16.oz [1, 2, 3, 20, 21, 22, 23, 24, 25, 26]
 refine region_p 10 (B := [(20, _)]) (m31.to ⟨il, trivial⟩) m31 (by kernel_rfl) (fun w32 hP32 m32 => ?_); clear m31
 refine goR hP32 [0, 1, 3, 4, 5, 6] [0, 1, 4, 6] 6 0 123 Hz (m32.to ⟨il, trivial⟩) (.loadBR hh (i := 20) rfl rfl U51 rfl fct13 (by simp) (by dsimp only [List.drop, List.take] <;> rfl) <| .loadBR hh (i := 20) rfl rfl U51 rfl fct13 (by simp) (by dsimp only [List.drop, List.take] <;> rfl) <| .fa 8 rfl U51 <| .lb hh 20 U2 rfl rfl rfl <| .fa 6 rfl U51 <| .lb hh 20 U3 rfl rfl rfl .nil) fun Az Hz => ?_
 refine so 2 ?_
 refine ecb Hz Tryz.func111 rfl m32 (vlen_any _ _ _ _ _ _ _ _ _ _ _ _ _ _ _ _ _ _) fun Az w39 Hz m40 => ?_
 refine ⟨m40.to ⟨il, trivial⟩, ?_⟩
 refine goA hP32 [7] 1 127 255 Hz (m40.to ⟨il, trivial⟩) (.build rfl fct29 fl44yD4 rfl (by dsimp only [setL, List.set] <;> rfl) .nil) fun Az Hz => ?_
 refine so 8 ?_
 refine stw Hz m40 22 fct13 fun w43 m43 _ => ?_
 refine ⟨m43.to ⟨il, trivial⟩, ?_⟩
 refine so 9 ?_
 refine stw Hz m43 23 fct28 fun w44 m44 _ => ?_
 refine ⟨m44.to ⟨il, trivial⟩, ?_⟩
 refine wpAnyE_done (by kernel_rfl) ?_ _
 refine hK5 _ _ ?_
 refine rtd (retCC (fn := Tryz.f96) Hz m44 (i := 22) (i2 := 23) rfl rfl rfl rfl rfl U51 rfl fct13 U44 rfl fct28 ?_)
 revert Hz
 obtain rfl : e1 = 0 := by first | assumption | (simp_all; done) | omega
 intro Hz
 exact ⟨pins1, 0, ws.length, fl, ne, _, _, _, _, _, _, by rw [List.length_map], hR, .inr ⟨rfl, rfl, rfl, rfl⟩, m44.ren [(1, 1), (2, 2), (3, 3), (5, 24), (6, 25), (7, 26)] (by decide)⟩
theorem yDo5 (X : Cx) (vo bl sz pe to ne fl : Int) (hi : Bool) (place pins : List Int) (ws : List (Int × List (Int × List Int))) (pp pn pw : Option Addr) (cp cn9 cw : Nat) (v1 v2 v3 v4 v5 at0 v6 : Int) (q1 : Option Addr) (n1 c1 : Nat) (q2 : Option Addr) (n2 c2 : Nat) (w0 : World) (hn : place.length ≤ 1000000) (hp : pins.length ≤ 900000) (hl : ws.length ≤ 900000) (hok : WrsOk ws) (m0 : MemOk X w0 [(1, .dat (.slice pp place.length cp) (.ns .i64 place)), (2, .dat (.slice pn pins.length cn9) (.ns .i64 pins)), (3, .dat (.slice pw (ws.map wrD).length cw) (.l 2 (ws.map wrD)))] w0) :
   Calls Tryz.prog 96 #[.agg #[.int .i64 vo, .int .i64 bl, .int .i64 sz, .int .i64 pe, .slice pp place.length cp, .int .i64 to, .int .i64 ne, .bool hi, .int .i64 fl, .slice pn pins.length cn9, .slice pw (ws.map wrD).length cw], .agg #[.int .i64 5, .int .i64 v1, .int .i64 v2, .int .i64 v3, .int .i64 v4, .slice q1 n1 c1, .int .i64 v5, .int .i64 at0, .int .i64 v6, .slice q2 n2 c2]] w0 fun e w' => ∃ (pins' : List Int) (e9 rl rf rn : Int) (p1' : Option Addr) (d1' : Nat) (p2' : Option Addr) (d2' : Nat) (p3' : Option Addr) (d3' : Nat), e = .returned (.tuple #[.agg #[.int .i64 vo, .int .i64 bl, .int .i64 sz, .int .i64 pe, .slice p1' place.length d1', .int .i64 to, .int .i64 ne, .bool hi, .int .i64 fl, .slice p2' pins'.length d2', .slice p3' (ws.map wrD).length d3'], .agg #[.int .i64 e9, .int .i64 rl, .int .i64 rf, .int .i64 rn, .slice none 0 0]]) ∧ unpinR hi at0 pins = (pins', e9) ∧ ((e9 ≠ 0 ∧ rl = 0 ∧ rf = 0 ∧ rn = 0) ∨ (e9 = 0 ∧ rl = ws.length ∧ rf = fl ∧ rn = ne)) ∧ MemOk X w0 [(1, .dat (.slice pp place.length cp) (.ns .i64 place)), (2, .dat (.slice pn pins.length cn9) (.ns .i64 pins)), (3, .dat (.slice pw (ws.map wrD).length cw) (.l 2 (ws.map wrD))), (5, .dat (.slice p1' place.length d1') (.ns .i64 place)), (6, .seg (.slice p2' pins'.length d2') 2 1 (pins'.map nD)), (7, .seg (.slice p3' (ws.map wrD).length d3') 103 2 (ws.map wrD))] w' := by
 refine ent2 Tryz.func96 rfl Tryz.ntmps96 fun Az Hz => ?_
 refine zsr fun K0 hK0 => ?_
 refine plz (e_box Hz m0 20 (cs := [_, _, _, _, _, _, _, _, _, _, _]) rfl rfl rfl fun g1 Az w2 Hz m2 _ _ => ?_)
 refine plz (e_box Hz m2 21 (cs := [_, _, _, _, _, _, _, _, _, _]) rfl rfl rfl fun g3 Az w4 Hz m4 _ _ => ?_)
 refine plz (e_alloc Hz m4 22 fct14 rfl fun g5 Az w6 Hz m6 _ _ => ?_)
 refine plz (e_alloc Hz m6 23 fct29 rfl fun g7 Az w8 Hz m8 _ _ => ?_)
 refine znl (hK0 _ _ ?_)
 refine zsr fun K1 hK1 => ?_
 refine goCh Hz (.loadBR m8 (i := 20) rfl rfl U51 rfl fct13 (by simp) (by dsimp only [List.drop, List.take] <;> rfl) .nil) fun Az Hz => ?_
 refine plz (ecl Hz Tryz.func52 rfl (volcopy_fp _ _ _ _ _ _ _ _ _ place pins ws _ _ _ _ _ _ _ hn hp (by omega) hok (m8.into [(1, 1), (2, 2), (3, 3)] (by decide) rfl)) ?_)
 rintro e w11 ⟨p111, c111, p211, c211, p311, c311, rfl, hm11⟩
 have mx11 := m8.back hm11 [(1, 1), (2, 2), (3, 3), (24, 4), (25, 5), (26, 6)] (by decide); clear hm11 m8
 have m11 := mx11.oz [1, 2, 3, 24, 25, 26, 20, 21, 22, 23]
 refine ⟨_, rfl, ?_⟩; intro Az Hz
 refine plz (stw Hz m11 20 fct13 fun w13 m13 _ => ?_)
 refine znl (hK1 _ _ ?_)
 refine wsk fun K2 hK2 => ?_
 refine zsr fun K3 hK3 => ?_
 refine goCh Hz (.loadBR m13 (i := 21) rfl rfl U38 rfl fct19 (by simp) (by dsimp only [List.drop, List.take] <;> rfl) .nil) fun Az Hz => ?_
 refine plz (ecl Hz Tryz.func133 rfl (ydo5 _ _ _ _ _ _ _ _ _ _ place pins ws _ _ _ _ _ _ _ _ _ _ _ _ _ _ _ _ _ _ _ _ hp (m13.into [(1, 20), (4, 25)] (by decide) rfl)) ?_)
 rintro e w16 ⟨pins1, e1, pn16, cn16, rfl, hR, hm16⟩
 have mx16 := m13.back hm16 [(20, 1), (25, 4)] (by decide); clear hm16 m13
 have m16 := mx16.oz [20, 25, 1, 2, 3, 21, 22, 23, 24, 26]
 refine ⟨_, rfl, ?_⟩; intro Az Hz
 refine gz hK3 Hz (.assign rfl .nil) fun Az Hz => ?_
 replace Hz := Hz.oz [2, 4, 5, 6]
 refine regS Hz (.move rfl <| .neq rfl rfl .nil) fun Az Hz => ?_
 refine bc Hz 12 ?_ ?_
 ·
  intro hb22 Hz; try simp only [QQ, Qax] at hb22
  refine wct Hz ?_
  refine zsr fun K4 hK4 => ?_
  refine goCh Hz (.loadBR m16 (i := 20) rfl rfl U51 rfl fct13 (by simp) (by dsimp only [List.drop, List.take] <;> rfl) <| .move rfl <| .build rfl fct29 fl44yD5 rfl (by dsimp only [setL, List.set] <;> rfl) .nil) fun Az Hz => ?_
  refine plz (stw Hz m16 22 fct13 fun w29 m29 _ => ?_)
  refine plz (stw Hz m29 23 fct28 fun w30 m30 _ => ?_)
  refine znl (hK4 _ _ ?_)
  refine rtd (retCC (fn := Tryz.f96) Hz m30 (i := 22) (i2 := 23) rfl rfl rfl rfl rfl U51 rfl fct13 U44 rfl fct28 ?_)
  exact ⟨pins1, e1, 0, 0, 0, _, _, _, _, _, _, rfl, hR, .inl ⟨by assumption, rfl, rfl, rfl⟩, m30.ren [(1, 1), (2, 2), (3, 3), (5, 24), (6, 25), (7, 26)] (by decide)⟩
 intro hb22 Hz; try simp only [QQ, Qax] at hb22
 refine wcf Hz ?_
 refine zss (hK2 _ _ ?_)
 refine wsk fun K5 hK5 => ?_
 have m31 := m16.oz [1, 2, 3, 20, 21, 22, 23, 24, 25, 26]
 refine region_p 10 (B := [(20, _)]) (m31.to ⟨il, trivial⟩) m31 (by kernel_rfl) (fun w32 hP32 m32 => ?_); clear m31
 refine goR hP32 [0, 1, 3, 4, 5, 6] [0, 1, 4, 6] 6 0 123 Hz (m32.to ⟨il, trivial⟩) (.loadBR hh (i := 20) rfl rfl U51 rfl fct13 (by simp) (by dsimp only [List.drop, List.take] <;> rfl) <| .loadBR hh (i := 20) rfl rfl U51 rfl fct13 (by simp) (by dsimp only [List.drop, List.take] <;> rfl) <| .fa 8 rfl U51 <| .lb hh 20 U2 rfl rfl rfl <| .fa 6 rfl U51 <| .lb hh 20 U3 rfl rfl rfl .nil) fun Az Hz => ?_
 refine so 2 ?_
 refine ecb Hz Tryz.func111 rfl m32 (vlen_any _ _ _ _ _ _ _ _ _ _ _ _ _ _ _ _ _ _) fun Az w39 Hz m40 => ?_
 refine ⟨m40.to ⟨il, trivial⟩, ?_⟩
 refine goA hP32 [7] 1 127 255 Hz (m40.to ⟨il, trivial⟩) (.build rfl fct29 fl44yD5 rfl (by dsimp only [setL, List.set] <;> rfl) .nil) fun Az Hz => ?_
 refine so 8 ?_
 refine stw Hz m40 22 fct13 fun w43 m43 _ => ?_
 refine ⟨m43.to ⟨il, trivial⟩, ?_⟩
 refine so 9 ?_
 refine stw Hz m43 23 fct28 fun w44 m44 _ => ?_
 refine ⟨m44.to ⟨il, trivial⟩, ?_⟩
 refine wpAnyE_done (by kernel_rfl) ?_ _
 refine hK5 _ _ ?_
 refine rtd (retCC (fn := Tryz.f96) Hz m44 (i := 22) (i2 := 23) rfl rfl rfl rfl rfl U51 rfl fct13 U44 rfl fct28 ?_)
 revert Hz
 obtain rfl : e1 = 0 := by first | assumption | (simp_all; done) | omega
 intro Hz
 exact ⟨pins1, 0, ws.length, fl, ne, _, _, _, _, _, _, by rw [List.length_map], hR, .inr ⟨rfl, rfl, rfl, rfl⟩, m44.ren [(1, 1), (2, 2), (3, 3), (5, 24), (6, 25), (7, 26)] (by decide)⟩
end Go.Proofs.YtkehgingagggaaaGreat.K
end
namespace Go.Proofs.YtkehgingagggaaaGreat.K
open Go.ChangeShapes Go.WideShapes Go.ChangeAt Go.RowKit
set_option linter.unusedVariables false
set_option linter.unusedSimpArgs false
section
theorem fl59ro : flatS Tryz.prog 59 [.int .i64 0, .slice none 0 0] = true := by kernel_rfl
theorem fl103rr : flatS Tryz.prog 103 [.int .i64 0, .slice none 0 0] = true := by kernel_rfl
theorem notin_take {l : List (Int × List Int)} {k : Nat} {xb : Int} (h : ∀ i, i < k → (l.getD i i0).1 ≠ xb) (hk : k ≤ l.length) : ¬ ∃ e ∈ l.take k, e.1 = xb := fun ⟨e, h1, h2⟩ => by
 obtain ⟨j, hj, rfl⟩ := List.getElem_of_mem h1
 have hj2 : j < k := by rw [List.length_take] at hj; omega
 have h3 := h j hj2
 rw [List.getD, List.getElem?_eq_getElem (by omega)] at h3
 rw [List.getElem_take] at h2
 exact h3 h2
set_option maxRecDepth 100000
set_option maxHeartbeats 4000000
theorem ritems_any (bl sz : Int) (l : List (Int × List Int)) (p : Option Addr) (nn c : Nat) (w0 : World) (h0 : Rd (fun _ => True) w0 (.slice p nn c) (.l 2 (l.map itD))) (hl : l.length ≤ 1000000) :
   Calls Tryz.prog 115 #[.int .i64 bl, .int .i64 sz, .slice p nn c] w0 fun e w' => ∃ b : Bool, e = .returned (.bool b) ∧ (b = true ↔ ItemsR bl sz l) ∧ Below w0.heap.size w0 w' := by
 obtain rfl : nn = l.length := by obtain ⟨pq, cq, hv, _⟩ := h0.l_shape; injection hv with _ e2 _; rw [List.length_map] at e2; exact e2
 refine ent3 Tryz.func115 rfl Tryz.ntmps115 fun Az Hz => ?_
 have m0 := MemOk.start (fun _ => False) w0
 refine regS Hz (.assign rfl .nil) fun Az Hz => ?_
 refine wsk fun K0 hK0 => ?_
 refine zsr fun K1 hK1 => ?_
 refine goCh Hz (.move rfl <| .len rfl U36 <| .lss rfl rfl <| .move rfl .nil) fun Az Hz => ?_
 refine bc Hz 12 ?_ ?_
 ·
  intro hb10 Hz; try simp only [QQ, Qax] at hb10
  refine gz hK1 Hz (.sk <| .sk <| .sk <| .pickT rfl rfl <| .nil) fun Az Hz => ?_
  refine wct Hz ?_
  replace Hz := Hz.oz [0, 1, 2, 6, 12, 16]
  refine regS Hz (.assign rfl .nil) fun Az Hz => ?_
  refine rt1 Hz ?_
  exact ⟨false, rfl, iff_of_false (by simp) (fun h => by have h8 := h.1; have h9 := h.2.1; omega), m0.below⟩
 intro hb10 Hz; try simp only [QQ, Qax] at hb10
 refine gz hK1 Hz (.moveZ rfl <| .lenZ rfl U36 <| .gtrZ rfl rfl <| .pickF rfl rfl <| .nil) fun Az Hz => ?_
 refine bc Hz 16 ?_ ?_
 ·
  intro hb21 Hz; try simp only [QQ, Qax] at hb21
  refine wct Hz ?_
  replace Hz := Hz.oz [0, 1, 2, 6, 12, 16]
  refine regS Hz (.assign rfl .nil) fun Az Hz => ?_
  refine rt1 Hz ?_
  exact ⟨false, rfl, iff_of_false (by simp) (fun h => by have h8 := h.1; have h9 := h.2.1; omega), m0.below⟩
 intro hb21 Hz; try simp only [QQ, Qax] at hb21
 refine wcf Hz ?_
 refine zss (hK0 _ _ ?_)
 refine wsk fun K2 hK2 => ?_
 replace Hz := Hz.oz [0, 1, 2, 6, 12, 16]
 refine regS Hz (.assign rfl .nil) fun Az Hz => ?_
 refine wp_block ?_
 refine wp_loop_ghost (fun g a w => ∃ k : Nat, k ≤ l.length ∧ g = l.length - k ∧ ItPre bl sz l k ∧ Has 64 [(0, .int .i64 bl), (1, .int .i64 sz), (2, .slice p l.length c), (7, .int .i64 k)] a ∧ MemOk (cn w0) w0 [] w) (l.length) ?_ ?_
 · exact ⟨0, Nat.zero_le _, rfl, (fun j hj => by omega), Hz.only [0, 1, 2, 7], m0.only []⟩
 clear Hz m0
 rintro g Az w26 ⟨k, hkl, hg, hall, Hz, m26⟩
 refine wsk fun K3 hK3 => ?_
 refine regS Hz (.move rfl <| .move rfl <| .len rfl U36 <| .lss rfl rfl .nil) fun Az Hz => ?_
 refine bc Hz 20 ?_ ?_
 ·
  intro hb31 Hz; try simp only [QQ, Qax] at hb31
  have hk : k < l.length := by omega
  obtain ⟨⟨xb, xd⟩, hes⟩ : ∃ e, l[k]? = some e := ⟨_, List.getElem?_eq_getElem hk⟩
  refine wct Hz ?_
  refine zss (hK3 _ _ ?_)
  refine wsk fun K4 hK4 => ?_
  refine wp_block ?_
  refine wsk fun K5 hK5 => ?_
  refine zsr fun K6 hK6 => ?_
  refine goCh Hz (.move rfl <| .move rfl .nil) fun Az Hz => ?_
  obtain ⟨gx37, ox37, vx37, hp37, hl37, hR37, hrg37⟩ := h0.extA (k) (r := [.v (.int .i64 xb), .ns .u8 xd]) (itD_get hes)
  revert Hz
  cases hp37
  rcases hR37 with _ | ⟨hd37_0, _ | ⟨hd37_1, _ | _⟩⟩
  obtain rfl := hd37_0.v_out
  clear hd37_0
  obtain ⟨p38, c38, hv38, hw38⟩ := hd37_1.ns_shape; subst hv38
  intro Hz
  refine goCh Hz (.c rfl (fun _ h_ => y_idx h_ rfl rfl U36 fct3 (k) rfl hk) <| .fieldAddrQ 0 rfl U59 rfl (s := 0) (by kernel_rfl) rfl <| .loadAt1 (hrg37 m26 rfl) (q := 0) rfl rfl rfl U3 rfl <| .lss rfl rfl <| .move rfl .nil) fun Az Hz => ?_
  refine bc Hz 29 ?_ ?_
  ·
   intro hb44 Hz; try simp only [QQ, Qax] at hb44
   refine gz hK6 Hz (.sk <| .sk <| .sk <| .sk <| .sk <| .sk <| .sk <| .pickT rfl rfl <| .move rfl <| .sk <| .sk <| .sk <| .sk <| .sk <| .sk <| .sk <| .sk <| .pickT rfl rfl <| .nil) fun Az Hz => ?_
   refine wct Hz ?_
   replace Hz := Hz.oz [0, 1, 2, 7, 20, 29, 38, 47]
   refine regS Hz (.assign rfl .nil) fun Az Hz => ?_
   refine rt1 Hz ?_
   exact ⟨false, rfl, iff_of_false (by simp) (fun h => by have h9 := h.2.2 k hk; rw [getI hes] at h9; dsimp only at h9; omega), m26.below⟩
  intro hb44 Hz; try simp only [QQ, Qax] at hb44
  refine goCh Hz (.moveZ rfl <| .moveZ rfl .nil) fun Az Hz => ?_
  obtain ⟨gx67, ox67, vx67, hp67, hl67, hR67, hrg67⟩ := h0.extA (k) (r := [.v (.int .i64 xb), .ns .u8 xd]) (itD_get hes)
  revert Hz
  cases hp67
  rcases hR67 with _ | ⟨hd67_0, _ | ⟨hd67_1, _ | _⟩⟩
  obtain rfl := hd67_0.v_out
  clear hd67_0
  obtain ⟨p68, c68, hv68, hw68⟩ := hd67_1.ns_shape; subst hv68
  intro Hz
  refine goCh Hz (.g rfl rfl rfl rfl (fun _ h_ => y_idx h_ rfl rfl U36 fct3 (k) rfl hk) <| .fieldAddrQZ 0 rfl U59 rfl (s := 0) (by kernel_rfl) rfl <| .loadAt1Z (hrg67 m26 rfl) (q := 0) rfl rfl rfl U3 rfl <| .moveZ rfl <| .geqZ rfl rfl <| .pickF rfl rfl <| .move rfl .nil) fun Az Hz => ?_
  refine bc Hz 38 ?_ ?_
  ·
   intro hb76 Hz; try simp only [QQ, Qax] at hb76
   refine gz hK6 Hz (.sk <| .sk <| .sk <| .sk <| .sk <| .sk <| .sk <| .sk <| .pickT rfl rfl <| .nil) fun Az Hz => ?_
   refine wct Hz ?_
   replace Hz := Hz.oz [0, 1, 2, 7, 20, 29, 38, 47]
   refine regS Hz (.assign rfl .nil) fun Az Hz => ?_
   refine rt1 Hz ?_
   exact ⟨false, rfl, iff_of_false (by simp) (fun h => by have h9 := h.2.2 k hk; rw [getI hes] at h9; dsimp only at h9; omega), m26.below⟩
  intro hb76 Hz; try simp only [QQ, Qax] at hb76
  refine goCh Hz (.moveZ rfl <| .moveZ rfl .nil) fun Az Hz => ?_
  obtain ⟨gx90, ox90, vx90, hp90, hl90, hR90, hrg90⟩ := h0.extA (k) (r := [.v (.int .i64 xb), .ns .u8 xd]) (itD_get hes)
  revert Hz
  cases hp90
  rcases hR90 with _ | ⟨hd90_0, _ | ⟨hd90_1, _ | _⟩⟩
  obtain rfl := hd90_0.v_out
  clear hd90_0
  obtain ⟨p91, c91, hv91, hw91⟩ := hd90_1.ns_shape; subst hv91
  intro Hz
  refine gz hK6 Hz (.g rfl rfl rfl rfl (fun _ h_ => y_idx h_ rfl rfl U36 fct3 (k) rfl hk) <| .fieldAddrQZ 1 rfl U59 rfl (s := 0) (by kernel_rfl) rfl <| .loadAt1Z (hrg90 m26 rfl) (q := 1) rfl rfl rfl U22 rfl <| .lenZ rfl U22 <| .moveZ rfl <| .neqZ rfl rfl <| .pickF rfl rfl <| .nil) fun Az Hz => ?_
  refine bc Hz 47 ?_ ?_
  ·
   intro hb99 Hz; try simp only [QQ, Qax] at hb99
   refine wct Hz ?_
   replace Hz := Hz.oz [0, 1, 2, 7, 20, 29, 38, 47]
   refine regS Hz (.assign rfl .nil) fun Az Hz => ?_
   refine rt1 Hz ?_
   exact ⟨false, rfl, iff_of_false (by simp) (fun h => by have h9 := h.2.2 k hk; rw [getI hes] at h9; dsimp only at h9; omega), m26.below⟩
  intro hb99 Hz; try simp only [QQ, Qax] at hb99
  refine wcf Hz ?_
  refine zss (hK5 _ _ ?_)
  replace Hz := Hz.oz [0, 1, 2, 7, 20, 29, 38, 47]
  refine regS Hz (.assign rfl .nil) fun Az Hz => ?_
  refine wp_block ?_
  refine wp_loop_ghost (fun g a w => ∃ j : Nat, j ≤ k ∧ g = k - j ∧ (∀ i, i < j → (l.getD i i0).1 ≠ xb) ∧ Has 64 [(0, .int .i64 bl), (1, .int .i64 sz), (2, .slice (some ⟨gx37, ox37, none⟩) l.length c), (7, .int .i64 k), (8, .int .i64 j)] a ∧ MemOk (cn w0) w0 [] w) (k) ?_ ?_
  · exact ⟨0, Nat.zero_le _, rfl, (fun i hi => by omega), Hz.only [0, 1, 2, 7, 8], m26.only []⟩
  clear Hz m26
  rintro g Az w104 ⟨j, hjk, hg2, hall2, Hz, m104⟩
  refine wsk fun K7 hK7 => ?_
  refine regS Hz (.move rfl <| .move rfl <| .lss rfl rfl .nil) fun Az Hz => ?_
  refine bc Hz 50 ?_ ?_
  ·
   intro hb108 Hz; try simp only [QQ, Qax] at hb108
   have hj : j < k := by omega
   obtain ⟨⟨yb, yd⟩, hej⟩ : ∃ e, l[j]? = some e := ⟨_, List.getElem?_eq_getElem (by omega)⟩
   refine wct Hz ?_
   refine zss (hK7 _ _ ?_)
   refine wsk fun K8 hK8 => ?_
   refine wp_block ?_
   refine wsk fun K9 hK9 => ?_
   obtain ⟨gx110, ox110, vx110, hp110, hl110, hR110, hrg110⟩ := h0.extA (j) (r := [.v (.int .i64 yb), .ns .u8 yd]) (itD_get hej)
   revert Hz
   cases hp110
   rcases hR110 with _ | ⟨hd110_0, _ | ⟨hd110_1, _ | _⟩⟩
   obtain rfl := hd110_0.v_out
   clear hd110_0
   obtain ⟨p111, c111, hv111, hw111⟩ := hd110_1.ns_shape; subst hv111
   intro Hz
   obtain ⟨gx113, ox113, vx113, hp113, hl113, hR113, hrg113⟩ := h0.extA (k) (r := [.v (.int .i64 xb), .ns .u8 xd]) (itD_get hes)
   revert Hz
   cases hp113
   rcases hR113 with _ | ⟨hd113_0, _ | ⟨hd113_1, _ | _⟩⟩
   obtain rfl := hd113_0.v_out
   clear hd113_0
   obtain ⟨p114, c114, hv114, hw114⟩ := hd113_1.ns_shape; subst hv114
   intro Hz
   have m115 : MemOk _ _ [] _ := m104.only []; clear m104
   refine region_p 11 (B := []) (m115.to trivial) m115 (by kernel_rfl) (fun w116 hP116 m116 => ?_); clear m115
   refine goR hP116 [0, 1, 2, 3, 4, 5, 6, 7, 8, 9, 10] [4, 9] 11 0 2047 Hz (m116.to trivial) (.move rfl <| .move rfl <| .p (fun _ _ h_ => y_idx h_ rfl rfl U36 fct3 (j) rfl (by omega)) <| .fieldAddrQ 0 rfl U59 rfl (s := 0) (by kernel_rfl) rfl <| .loadAt1 (fun _ h_ => (hrg110 h_ rfl)) (q := 0) rfl rfl rfl U3 rfl <| .move rfl <| .move rfl <| .p (fun _ _ h_ => y_idx h_ rfl rfl U36 fct3 (k) rfl hk) <| .fieldAddrQ 0 rfl U59 rfl (s := 0) (by kernel_rfl) rfl <| .loadAt1 (fun _ h_ => (hrg113 h_ rfl)) (q := 0) rfl rfl rfl U3 rfl <| .eql rfl rfl .nil) fun Az Hz => ?_
   refine wpAnyE_done (by kernel_rfl) ?_ _
   refine hK9 _ _ ?_
   refine bc Hz 63 ?_ ?_
   ·
    intro hb128 Hz; try simp only [QQ, Qax] at hb128
    refine wct Hz ?_
    replace Hz := Hz.oz [0, 1, 2, 7, 8, 63]
    refine regS Hz (.assign rfl .nil) fun Az Hz => ?_
    refine rt1 Hz ?_
    exact ⟨false, rfl, iff_of_false (by simp) (fun h => by have h9 := (h.2.2 k hk).2.2.2; rw [getI hes] at h9; exact h9 ⟨_, List.mem_of_getElem? (i := j) (by rw [List.getElem?_take_of_lt hj]; exact hej), hb128⟩), m116.below⟩
   intro hb128 Hz; try simp only [QQ, Qax] at hb128
   refine wcf Hz ?_
   refine zss (hK8 _ _ ?_)
   replace Hz := Hz.oz [0, 1, 2, 7, 8, 63]
   refine wp_region_lit ?_
   refine goCh Hz (.move rfl <| .inc (j + 1) <| .assign rfl .nil) fun Az Hz => ?_
   refine wpList_nil ?_
   show ∃ n', n' < _ ∧ _
   exact ⟨k - (j + 1), by omega, j + 1, by omega, rfl, ne_snoc hall2 hej hb128, Hz.only [0, 1, 2, 7, 8], m116.only []⟩
  intro hb108 Hz; try simp only [QQ, Qax] at hb108
  have hjk2 : j = k := by omega
  rw [hjk2] at hall2
  refine wcf Hz ?_
  refine wp_exit ?_
  refine hK4 _ _ ?_
  refine wp_region_lit ?_
  refine goCh Hz (.move rfl <| .inc (k + 1) <| .assign rfl .nil) fun Az Hz => ?_
  refine wpList_nil ?_
  show ∃ n', n' < _ ∧ _
  exact ⟨l.length - (k + 1), by omega, k + 1, by omega, rfl, itpre_snoc hall hes (by omega) (by omega) (notin_take hall2 (by omega)), Hz.only [0, 1, 2, 7], m104.only []⟩
 intro hb31 Hz; try simp only [QQ, Qax] at hb31
 revert Hz
 obtain rfl : k = l.length := by omega
 intro Hz
 refine wcf Hz ?_
 refine wp_exit ?_
 refine hK2 _ _ ?_
 refine regS Hz (.assign rfl .nil) fun Az Hz => ?_
 refine rt1 Hz ?_
 exact ⟨true, rfl, iff_of_true rfl ⟨by omega, by omega, hall⟩, m26.below⟩
theorem rlen_any (vo bl sz pe to ne fl : Int) (hi : Bool) (pp pn pw : Option Addr) (np cp nn cn nw cw : Nat) (w0 : World) :
   Calls Tryz.prog 39 #[.agg #[.int .i64 vo, .int .i64 bl, .int .i64 sz, .int .i64 pe, .slice pp np cp, .int .i64 to, .int .i64 ne, .bool hi, .int .i64 fl, .slice pn nn cn, .slice pw nw cw]] w0 fun e w' => e = .returned (.int .i64 (nw : Int)) ∧ Below w0.heap.size w0 w' := by
 refine ent1 Tryz.func39 rfl Tryz.ntmps39 fun Az Hz => ?_
 have m0 := MemOk.start (fun _ => False) w0
 refine zsr fun K0 hK0 => ?_
 refine plz (e_box Hz m0 4 (cs := [_, _, _, _, _, _, _, _, _, _, _]) rfl rfl rfl fun g1 Az w2 Hz m2 _ _ => ?_)
 refine gz hK0 Hz (.assign rfl .nil) fun Az Hz => ?_
 refine regS Hz (.fa 10 rfl U51 <| .lb m2 4 U49 rfl rfl rfl <| .len rfl U49 <| .assign rfl .nil) fun Az Hz => ?_
 refine rt1 Hz ?_
 exact ⟨rfl, m2.below⟩
theorem rlow_any (vo bl sz pe to ne fl : Int) (hi : Bool) (pins : List Int) (pp pn pw : Option Addr) (np cp cn9 nw cw : Nat) (w0 : World) (h1 : Rd (fun _ => True) w0 (.slice pn pins.length cn9) (.ns .i64 pins)) (hp : pins.length ≤ 1000000) :
   Calls Tryz.prog 130 #[.agg #[.int .i64 vo, .int .i64 bl, .int .i64 sz, .int .i64 pe, .slice pp np cp, .int .i64 to, .int .i64 ne, .bool hi, .int .i64 fl, .slice pn pins.length cn9, .slice pw nw cw]] w0 fun e w' => e = .returned (.int .i64 (lowL nw pins)) ∧ Below w0.heap.size w0 w' := by
 refine ent1 Tryz.func130 rfl Tryz.ntmps130 fun Az Hz => ?_
 have m0 := MemOk.start (fun _ => False) w0
 refine zsr fun K0 hK0 => ?_
 refine plz (e_box Hz m0 20 (cs := [_, _, _, _, _, _, _, _, _, _, _]) rfl rfl rfl fun g1 Az w2 Hz m2 _ _ => ?_)
 refine gz hK0 Hz (.assign rfl .nil) fun Az Hz => ?_
 refine zsr fun K1 hK1 => ?_
 refine goCh Hz (.loadBR m2 (i := 20) rfl rfl U51 rfl fct13 (by simp) (by dsimp only [List.drop, List.take] <;> rfl) .nil) fun Az Hz => ?_
 refine plz (ecb Hz Tryz.func39 rfl m2 (rlen_any _ _ _ _ _ _ _ _ _ _ _ _ _ _ _ _ _ _) fun Az w6 Hz m7 => ?_)
 refine gz hK1 Hz (.assign rfl .nil) fun Az Hz => ?_
 refine wsk fun K2 hK2 => ?_
 refine regS Hz (.assign rfl .nil) fun Az Hz => ?_
 refine wp_block ?_
 refine wp_loop_ghost (fun g a w => ∃ (k B : Nat), k ≤ pins.length ∧ g = pins.length - k ∧ Has 22 [(1, .pointer (some ⟨B, 0, none⟩)), (3, .int .i64 (lowL nw (pins.take k))), (4, .int .i64 k)] a ∧ MemOk (cn w0) w0 [(9, .box B 51 [.int .i64 vo, .int .i64 bl, .int .i64 sz, .int .i64 pe, .slice pp np cp, .int .i64 to, .int .i64 ne, .bool hi, .int .i64 fl, .slice pn pins.length cn9, .slice pw nw cw])] w) (pins.length) ?_ ?_
 · exact ⟨0, _, Nat.zero_le _, rfl, Hz.only [1, 3, 4], m7.ren [(9, 20)] (by decide)⟩
 clear Hz m7
 rintro g Az w11 ⟨k, B, hkl, hg, Hz, m11⟩
 refine wsk fun K3 hK3 => ?_
 refine regS Hz (.move rfl <| .fa 9 rfl U51 <| .lb m11 9 U48 rfl rfl rfl <| .len rfl U48 <| .lss rfl rfl .nil) fun Az Hz => ?_
 refine bc Hz 11 ?_ ?_
 ·
  intro hb17 Hz; try simp only [QQ, Qax] at hb17
  have hk : k < pins.length := by omega
  refine wct Hz ?_
  refine zss (hK3 _ _ ?_)
  refine wsk fun K4 hK4 => ?_
  refine wp_block ?_
  refine wp_region_lit ?_
  refine goCh Hz (.move rfl <| .fa 9 rfl U51 <| .lb m11 9 U48 rfl rfl rfl <| .move rfl .nil) fun Az Hz => ?_
  obtain ⟨gx22, ox22, hp22, hl22, hrg22⟩ := h1.extN (k) hk
  revert Hz
  cases hp22
  intro Hz
  refine gz hK4 Hz (.c rfl (fun _ h_ => y_idx h_ rfl rfl U48 fct18 (k) rfl hk) <| .loadAt1 (hrg22 m11 rfl) (q := 0) rfl rfl rfl U2 rfl <| .c rfl (fun _ h_ => y_min h_ rfl rfl rfl) <| .assign rfl <| .nil) fun Az Hz => ?_
  replace Hz := Hz.oz [1, 3, 4]
  refine wp_region_lit ?_
  refine goCh Hz (.move rfl <| .inc (k + 1) <| .assign rfl .nil) fun Az Hz => ?_
  refine wpList_nil ?_
  show ∃ n', n' < _ ∧ _
  rw [low_snoc hk] at Hz
  exact ⟨pins.length - (k + 1), by omega, k + 1, _, by omega, rfl, Hz.only [1, 3, 4], m11.only [9]⟩
 intro hb17 Hz; try simp only [QQ, Qax] at hb17
 revert Hz
 obtain rfl : k = pins.length := by omega
 intro Hz
 refine wcf Hz ?_
 refine wp_exit ?_
 refine hK2 _ _ ?_
 refine regS Hz (.move rfl <| .assign rfl .nil) fun Az Hz => ?_
 refine rt1 Hz ?_
 exact ⟨by rw [List.take_length], m11.below⟩
theorem rown_any (es : List (Int × List Int)) (p0 : Option Addr) (c0 nn : Nat) (w0 : World) (h0 : Rd (fun _ => True) w0 (.slice p0 nn c0) (.l 2 (es.map itD))) (hl : es.length ≤ 1000000) (hok : ItsOk es) :
   Calls Tryz.prog 145 #[.slice p0 nn c0] w0 fun e w' => ∃ p c, e = .returned (.slice p (es.map itD).length c) ∧ Rd (New w0) w' (.slice p (es.map itD).length c) (.l 2 (es.map itD)) ∧ Below w0.heap.size w0 w' := by
 obtain rfl : nn = es.length := by obtain ⟨pq, cq, hv, _⟩ := h0.l_shape; injection hv with _ e2 _; rw [List.length_map] at e2; exact e2
 refine ent1 Tryz.func145 rfl Tryz.ntmps145 fun Az Hz => ?_
 have m0 := MemOk.start (fun _ => False) w0
 refine regS Hz (.assign rfl .nil) fun Az Hz => ?_
 refine regS Hz (.assign rfl .nil) fun Az Hz => ?_
 refine wsk fun K0 hK0 => ?_
 refine regS Hz (.assign rfl .nil) fun Az Hz => ?_
 refine wp_block ?_
 refine wp_loop_ghost (fun g a w => ∃ (k : Nat) (p : Option Addr) (c : Nat), k ≤ es.length ∧ g = es.length - k ∧ Has 27 [(0, .slice p0 es.length c0), (3, .slice p ((es.take k).map itD).length c), (4, .int .i64 k)] a ∧ MemOk (cn w0) w0 [(9, .row (.slice p ((es.take k).map itD).length c) 59 2 ((es.take k).map itD))] w) (es.length) ?_ ?_
 · have mz := m0.nilR 9 59 2
   exact ⟨0, _, _, Nat.zero_le _, rfl, Hz.only [0, 3, 4], mz.only [9]⟩
 clear Hz m0
 rintro g Az w4 ⟨k, p, c, hkl, hg, Hz, m4⟩
 refine wsk fun K1 hK1 => ?_
 refine regS Hz (.move rfl <| .move rfl <| .len rfl U36 <| .lss rfl rfl .nil) fun Az Hz => ?_
 refine bc Hz 8 ?_ ?_
 ·
  intro hb9 Hz; try simp only [QQ, Qax] at hb9
  have hk : k < es.length := by omega
  obtain ⟨⟨xb, xd⟩, hes⟩ : ∃ e, es[k]? = some e := ⟨_, List.getElem?_eq_getElem hk⟩
  have hed := hok _ (List.mem_of_getElem? hes)
  dsimp only at hed
  refine wct Hz ?_
  refine zss (hK1 _ _ ?_)
  refine wsk fun K2 hK2 => ?_
  refine wp_block ?_
  obtain ⟨gx11, ox11, vx11, hp11, hl11, hR11, hrg11⟩ := h0.extA (k) (r := [.v (.int .i64 xb), .ns .u8 xd]) (itD_get hes)
  revert Hz
  cases hp11
  rcases hR11 with _ | ⟨hd11_0, _ | ⟨hd11_1, _ | _⟩⟩
  obtain rfl := hd11_0.v_out
  clear hd11_0
  obtain ⟨p12, c12, hv12, hw12⟩ := hd11_1.ns_shape; subst hv12
  intro Hz
  obtain ⟨gx14, ox14, vx14, hp14, hl14, hR14, hrg14⟩ := h0.extA (k) (r := [.v (.int .i64 xb), .ns .u8 xd]) (itD_get hes)
  revert Hz
  cases hp14
  rcases hR14 with _ | ⟨hd14_0, _ | ⟨hd14_1, _ | _⟩⟩
  obtain rfl := hd14_0.v_out
  clear hd14_0
  obtain ⟨p15, c15, hv15, hw15⟩ := hd14_1.ns_shape; subst hv15
  intro Hz
  have m16 := m4.oz [9]
  refine region_p 14 (B := [(9, _)]) (m16.to ⟨il, trivial⟩) m16 (by kernel_rfl) (fun w17 hP17 m17 => ?_); clear m16
  refine goR hP17 [0, 1, 2, 3, 4, 5, 6, 7, 8, 9, 10] [5, 10] 11 0 2047 Hz (m17.to ⟨il, trivial⟩) (.move rfl <| .move rfl <| .move rfl <| .p (fun _ _ h_ => y_idx h_ rfl rfl U36 fct3 (k) rfl hk) <| .fieldAddrQ 0 rfl U59 rfl (s := 0) (by kernel_rfl) rfl <| .loadAt1 (fun _ h_ => (hrg11 h_ rfl)) (q := 0) rfl rfl rfl U3 rfl <| .move rfl <| .move rfl <| .p (fun _ _ h_ => y_idx h_ rfl rfl U36 fct3 (k) rfl hk) <| .fieldAddrQ 1 rfl U59 rfl (s := 0) (by kernel_rfl) rfl <| .loadAt1 (fun _ h_ => (hrg14 h_ rfl)) (q := 1) rfl rfl rfl U22 rfl .nil) fun Az Hz => ?_
  refine so 11 ?_
  refine e_app0M Hz m17 102 rfl rfl (hd14_1.now' m17 rfl).ns_out.nums U22 fct0 (by decide) (by omega) rfl fun p29 c29 Az w30 Hz m30 => ?_
  refine ⟨m30.to ⟨il, trivial⟩, ?_⟩
  refine goA hP17 [12] 1 4095 8191 Hz (m30.to ⟨il, trivial⟩) (.build rfl fct4 fl59ro rfl (by dsimp only [setL, List.set] <;> rfl) .nil) fun Az Hz => ?_
  have m33 := m30.freezeN 102 rfl
  refine so 13 ?_
  refine e_litR Hz m33 103 (mm := 2) rfl (.cons rfl rfl (.cons (.v _) (.cons (m33.rd (i := 102) rfl) .nil)) .nil) U36 fct5 rfl rfl rfl rfl rfl fun g32 Az w34 Hz m34 => ?_
  refine ⟨m34.to ⟨il, trivial⟩, ?_⟩
  have m36 := m34.freezeR 103 rfl
  refine se 14 ?_
  refine e_appR Hz m36 9 rfl rfl rfl (m36.rd (i := 103) rfl) U36 fct5 rfl rfl (by decide) (by simp; omega) rfl fun p35 c35 Az w37 Hz m37 => ?_
  refine goB hP17 [15] 1 32767 65535 Hz (.assign rfl .nil) fun Az Hz => ?_
  refine wpAnyE_done (by kernel_rfl) ?_ _
  refine hK2 _ _ ?_
  replace Hz := Hz.oz [0, 3, 4]
  refine wp_region_lit ?_
  refine goCh Hz (.move rfl <| .inc (k + 1) <| .assign rfl .nil) fun Az Hz => ?_
  refine wpList_nil ?_
  show ∃ n', n' < _ ∧ _
  have hE : (es.take k).map itD ++ [[D.v (.int .i64 xb), .ns .u8 xd]] = (es.take (k + 1)).map itD := by rw [take_snoc hes, List.map_append]; rfl
  rw [hE] at m37 Hz
  exact ⟨es.length - (k + 1), by omega, k + 1, _, _, by omega, rfl, Hz.only [0, 3, 4], m37.only [9]⟩
 intro hb9 Hz; try simp only [QQ, Qax] at hb9
 revert Hz
 obtain rfl : k = es.length := by omega
 intro Hz
 refine wcf Hz ?_
 refine wp_exit ?_
 refine hK0 _ _ ?_
 refine regS Hz (.move rfl <| .assign rfl .nil) fun Az Hz => ?_
 refine rt1 Hz ?_
 rw [List.take_length] at *
 have m45 := m4.freezeR 9 rfl
 exact ⟨_, _, rfl, m45.outF (i := 9) rfl, m45.below⟩
theorem rwrite_fr (X : Cx) (vo bl sz pe to ne fl : Int) (hi : Bool) (place pins : List Int) (ws : List (Int × List (Int × List Int))) (items : List (Int × List Int)) (pp pn pw : Option Addr) (cp cn9 cw : Nat) (pi : Option Addr) (ci : Nat) (w0 : World) (hl : ws.length ≤ 900000) (hil : items.length ≤ 1000000) (hio : ItsOk items) (m0 : MemOk X w0 [(1, .dat (.slice pp place.length cp) (.ns .i64 place)), (2, .dat (.slice pn pins.length cn9) (.ns .i64 pins)), (3, .dat (.slice pw (ws.map wrD).length cw) (.l 2 (ws.map wrD))), (4, .dat (.slice pi items.length ci) (.l 2 (items.map itD)))] w0) :
   Calls Tryz.prog 129 #[.agg #[.int .i64 vo, .int .i64 bl, .int .i64 sz, .int .i64 pe, .slice pp place.length cp, .int .i64 to, .int .i64 ne, .bool hi, .int .i64 fl, .slice pn pins.length cn9, .slice pw (ws.map wrD).length cw], .slice pi items.length ci] w0 fun e w' => ∃ p c, e = .returned (.agg #[.int .i64 vo, .int .i64 bl, .int .i64 sz, .int .i64 pe, .slice pp place.length cp, .int .i64 to, .int .i64 ne, .bool hi, .int .i64 fl, .slice pn pins.length cn9, .slice p ((ws ++ [((ws.length : Int) + 1, items)]).map wrD).length c]) ∧ MemOk X w0 [(1, .dat (.slice pp place.length cp) (.ns .i64 place)), (2, .dat (.slice pn pins.length cn9) (.ns .i64 pins)), (3, .dat (.slice pw (ws.map wrD).length cw) (.l 2 (ws.map wrD))), (4, .dat (.slice pi items.length ci) (.l 2 (items.map itD))), (7, .dat (.slice p ((ws ++ [((ws.length : Int) + 1, items)]).map wrD).length c) (.l 2 ((ws ++ [((ws.length : Int) + 1, items)]).map wrD)))] w' := by
 refine ent2 Tryz.func129 rfl Tryz.ntmps129 fun Az Hz => ?_
 refine zsr fun K0 hK0 => ?_
 refine plz (e_box Hz m0 20 (cs := [_, _, _, _, _, _, _, _, _, _, _]) rfl rfl rfl fun g1 Az w2 Hz m2 _ _ => ?_)
 refine plz (e_alloc Hz m2 21 fct14 rfl fun g3 Az w4 Hz m4 _ _ => ?_)
 refine znl (hK0 _ _ ?_)
 refine wsk fun K1 hK1 => ?_
 have m5 := m4.oz [1, 2, 3, 4, 20, 21]
 refine region_p 12 (B := [(1, _), (2, _), (3, _), (4, _), (20, _), (21, _)]) (m5.to ⟨il, il, il, il, il, il, trivial⟩) m5 (by kernel_rfl) (fun w6 hP6 m6 => ?_); clear m5
 refine goR hP6 [0, 1, 3, 6] [1, 3] 4 0 75 Hz (m6.to ⟨il, il, il, il, il, il, trivial⟩) (.fa 10 rfl U51 <| .lb hh 20 U49 rfl rfl rfl <| .loadBR hh (i := 20) rfl rfl U51 rfl fct13 (by simp) (by dsimp only [List.drop, List.take] <;> rfl) <| .move rfl .nil) fun Az Hz => ?_
 have m11 := m6.nilR 22 103 2
 refine so 2 ?_
 refine e_appR Hz m11 22 rfl rfl rfl (m11.rd (i := 3) rfl) U49 fct9 rfl rfl (by decide) (by simp; omega) rfl fun p12 c12 Az w13 Hz m13 => ?_
 refine ⟨m13.to ⟨il, il, il, il, il, il, trivial⟩, ?_⟩
 refine so 4 ?_
 refine ecb Hz Tryz.func39 rfl m13 (rlen_any _ _ _ _ _ _ _ _ _ _ _ _ _ _ _ _ _ _) fun Az w14 Hz m15 => ?_
 refine ⟨m15.to ⟨il, il, il, il, il, il, trivial⟩, ?_⟩
 refine goA hP6 [5] 1 95 127 Hz (m15.to ⟨il, il, il, il, il, il, trivial⟩) (.add rfl rfl (r := (ws.length : Int) + 1) (by rw [List.length_map]; exact IntWalk.i64_in _ (by omega)) .nil) fun Az Hz => ?_
 refine so 7 ?_
 refine ecl Hz Tryz.func145 rfl (rown_any items _ _ _ _ ((m15.rd (i := 4) rfl).any) hil hio) ?_
 rintro e w18 ⟨p18, c18, rfl, hd18, hb18⟩
 have m19 := m15.callF 23 rfl hb18 hd18
 refine ⟨_, rfl, ?_⟩; intro Az Hz
 refine ⟨m19.to ⟨il, il, il, il, il, il, trivial⟩, ?_⟩
 refine goA hP6 [8] 1 255 511 Hz (m19.to ⟨il, il, il, il, il, il, trivial⟩) (.build rfl fct8 fl103rr rfl (by dsimp only [setL, List.set] <;> rfl) .nil) fun Az Hz => ?_
 refine so 9 ?_
 refine e_litR Hz m19 24 (mm := 2) rfl (.cons rfl rfl (.cons (.v _) (.cons (m19.rd (i := 23) rfl) .nil)) .nil) U49 fct9 rfl rfl rfl rfl rfl fun g22 Az w23 Hz m23 => ?_
 refine ⟨m23.to ⟨il, il, il, il, il, il, trivial⟩, ?_⟩
 have m25 := m23.freezeR 24 rfl
 refine so 10 ?_
 refine e_appR Hz m25 22 rfl rfl rfl (m25.rd (i := 24) rfl) U49 fct9 rfl rfl (by decide) (by simp; omega) rfl fun p24 c24 Az w26 Hz m26 => ?_
 refine ⟨m26.to ⟨il, il, il, il, il, il, trivial⟩, ?_⟩
 refine goA hP6 [11] 1 2047 4095 Hz (m26.to ⟨il, il, il, il, il, il, trivial⟩) (.fa 10 rfl U51 .nil) fun Az Hz => ?_
 refine se 12 ?_
 refine st1 Hz m26 20 fct12 fun w28 m28 _ => ?_
 refine wpAnyE_done (by kernel_rfl) ?_ _
 refine hK1 _ _ ?_
 replace Hz := Hz.oz [2, 4]
 refine zsr fun K2 hK2 => ?_
 refine goCh Hz (.loadBR m28 (i := 20) rfl rfl U51 rfl fct13 (by simp) (by dsimp only [List.drop, List.take] <;> rfl) .nil) fun Az Hz => ?_
 refine plz (stw Hz m28 21 fct13 fun w32 m32 _ => ?_)
 refine znl (hK2 _ _ ?_)
 refine rtd (retC (fn := Tryz.f129) Hz m32 (i := 21) rfl rfl rfl U51 rfl fct13 ?_)
 have hE : [] ++ ws.map wrD ++ [[D.v (.int .i64 ((ws.length : Int) + 1)), .l 2 (items.map itD)]] = (ws ++ [((ws.length : Int) + 1, items)]).map wrD := by rw [List.map_append]; rfl
 rw [hE] at m32 ⊢
 have m33 := m32.freezeR 22 rfl
 exact ⟨_, _, rfl, m33.ren [(1, 1), (2, 2), (3, 3), (4, 4), (7, 22)] (by decide)⟩
end
section
set_option maxRecDepth 100000
set_option maxHeartbeats 4000000
end
section
set_option maxRecDepth 100000
set_option maxHeartbeats 4000000
end
section
set_option maxRecDepth 100000
set_option maxHeartbeats 4000000
end
section
set_option maxRecDepth 100000
set_option maxHeartbeats 4000000
end
section
set_option maxRecDepth 100000
set_option maxHeartbeats 4000000
end
section
def ItsS (es : List (Int × List Int)) : Prop := ∀ e ∈ es, e.2.length ≤ 1000 ∧ BytesL e.2
set_option maxRecDepth 100000
set_option maxHeartbeats 4000000
end
section
set_option maxRecDepth 100000
set_option maxHeartbeats 4000000
end
end Go.Proofs.YtkehgingagggaaaGreat.K
