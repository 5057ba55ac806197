/- volume: what a call does. -/
import Derived.Test.YtocfbocdnklllaaVol11
namespace Go.Proofs.Ytocfbocdnklllaa.K
open Go.ChangeShapes Go.WideShapes Go.ChangeAt Go.RowKit
set_option linter.unusedVariables false
set_option linter.unusedSimpArgs false

theorem fl55xw : flatS Try.prog 55 [.int .i64 0, .slice none 0 0] = true := by kernel_rfl
theorem inf55xw : (Try.prog.info? 55).map (fun i => (i.zero, i.size, i.bytes)) = some (some (.agg #[.int .i64 0, .slice none 0 0]), 2, 32) := by kernel_rfl
theorem sz32xw : (Try.prog.info? 32).map (·.size) = some 1 := by kernel_rfl
theorem sz34xw : (Try.prog.info? 34).map (·.size) = some 11 := by kernel_rfl
theorem zc55xw : ((Try.prog.info? 55).bind (·.zero)).map (·.cells.toList) = some [.int .i64 0, .slice none 0 0] := by kernel_rfl


theorem sz2xq : (Try.prog.info? 2).map (·.size) = some 1 := by kernel_rfl
theorem sz34xq : (Try.prog.info? 34).map (·.size) = some 11 := by kernel_rfl
theorem sz3xt : (Try.prog.info? 3).map (·.size) = some 1 := by kernel_rfl
theorem sz2xb : (Try.prog.info? 2).map (·.size) = some 1 := by kernel_rfl
theorem sz4xb : (Try.prog.info? 4).map (·.size) = some 1 := by kernel_rfl
theorem sz34xb : (Try.prog.info? 34).map (·.size) = some 11 := by kernel_rfl

theorem fl45xD : flatS Try.prog 45 [.int .i64 0, .int .i64 0, .int .i64 0, .int .i64 0, .slice none 0 0] = true := by kernel_rfl
theorem sz25xD : (Try.prog.info? 25).map (·.size) = some 10 := by kernel_rfl
theorem sz34xD : (Try.prog.info? 34).map (·.size) = some 11 := by kernel_rfl
theorem sz45xD : (Try.prog.info? 45).map (·.size) = some 5 := by kernel_rfl
theorem zc34xD : ((Try.prog.info? 34).bind (·.zero)).map (·.cells.toList) = some [.int .i64 0, .int .i64 0, .int .i64 0, .int .i64 0, .slice none 0 0, .int .i64 0, .int .i64 0, .bool false, .int .i64 0, .slice none 0 0, .slice none 0 0] := by kernel_rfl
theorem zc45xD : ((Try.prog.info? 45).bind (·.zero)).map (·.cells.toList) = some [.int .i64 0, .int .i64 0, .int .i64 0, .int .i64 0, .slice none 0 0] := by kernel_rfl

open Classical in
noncomputable def wrR (bl sz : Int) (ws : List (Int × List (Int × List Int))) (it : List (Int × List Int)) : List (Int × List (Int × List Int)) × Int := if ItemsR bl sz it then (ws ++ [((ws.length : Int) + 1, it)], 0) else (ws, 23)
abbrev VolO := Int × Bool × Int × List (Int × List (Int × List Int)) × Int
noncomputable def putR (bl sz ne fl : Int) (hi : Bool) (ws : List (Int × List (Int × List Int))) (it : List (Int × List Int)) : VolO := if hi = true then (ne, hi, fl, ws, 28) else (ne, hi, fl, (wrR bl sz ws it).1, (wrR bl sz ws it).2)
def reachR (hi : Bool) (fl at0 nd : Int) : Int := if hi = true then 28 else if at0 < fl then 30 else if nd < at0 then 31 else 0
def pruneR (ne fl : Int) (hi : Bool) (pins : List Int) (ws : List (Int × List (Int × List Int))) (at0 : Int) : VolO := if reachR hi fl at0 (lowL ws.length pins) = 0 then (ne, hi, at0, ws, 0) else (ne, hi, fl, ws, reachR hi fl at0 (lowL ws.length pins))
noncomputable def takeR (bl sz to ne fl : Int) (hi : Bool) (ws : List (Int × List (Int × List Int))) (ix : Int) (it : List (Int × List Int)) : VolO :=
 if hi = false then (ne, hi, fl, ws, 33) else if 0 ≤ ix ∧ ix ≤ ne - 1 then (ne, hi, fl, ws, 0) else if ix ≠ ne ∨ ne = to then (ne, hi, fl, ws, 33)
 else if (wrR bl sz ws it).2 = 0 then (ne + 1, hi, fl, (wrR bl sz ws it).1, 0) else (ne, hi, fl, (wrR bl sz ws it).1, (wrR bl sz ws it).2)
def publishR (to ne fl : Int) (hi : Bool) (ws : List (Int × List (Int × List Int))) : VolO := if hi = false ∨ ne ≠ to then (ne, hi, fl, ws, 33) else (ne, false, (ws.length : Int), ws, 0)
noncomputable def doR (bl sz to ne fl : Int) (hi : Bool) (pins : List Int) (ws : List (Int × List (Int × List Int))) (kd at0 ix : Int) (it : List (Int × List Int)) : VolO :=
 if kd = 2 then putR bl sz ne fl hi ws it else if kd = 3 then pruneR ne fl hi pins ws at0 else if kd = 6 then takeR bl sz to ne fl hi ws ix it
 else if kd = 7 then publishR to ne fl hi ws else if kd = 8 then (ne, hi, fl, ws, 0) else (ne, hi, fl, ws, 23)
set_option maxRecDepth 100000
set_option maxHeartbeats 4000000
theorem low_nn (vo bl sz pe to ne fl : Int) (hi : Bool) (place pins : List Int) (ws : List (Int × List (Int × List Int))) (pp pn pw : Option Addr) (cp cn9 cw : Nat) (nn : Nat) (w0 : World) (h1 : Rd (fun _ => True) w0 (.slice pn pins.length cn9) (.ns .i64 pins)) (hp : pins.length ≤ 1000000) (hnn : nn = ws.length := by simp) :
   Calls Try.prog 22 #[.agg #[.int .i64 vo, .int .i64 bl, .int .i64 sz, .int .i64 pe, .slice pp place.length cp, .int .i64 to, .int .i64 ne, .bool hi, .int .i64 fl, .slice pn pins.length cn9, .slice pw nn cw]] w0 fun e w' => e = .returned (.int .i64 (lowL ws.length pins)) ∧ Below w0.heap.size w0 w' := by
 subst hnn; exact low_any vo bl sz pe to ne fl hi place pins ws pp pn pw cp cn9 cw w0 h1 hp
theorem xwrite (X : Cx) (B : Nat) (vo bl sz pe to ne fl : Int) (hi : Bool) (place pins : List Int) (ws : List (Int × List (Int × List Int))) (items : List (Int × List Int)) (pp pn pw : Option Addr) (cp cn9 cw : Nat) (pi : Option Addr) (ci : Nat) (w0 : World) (hl : ws.length ≤ 900000) (hil : items.length ≤ 1000000) (hio : ItsOk items) (m0 : MemOk X w0 [(1, .box B 34 [.int .i64 vo, .int .i64 bl, .int .i64 sz, .int .i64 pe, .slice pp place.length cp, .int .i64 to, .int .i64 ne, .bool hi, .int .i64 fl, .slice pn pins.length cn9, .slice pw (ws.map wrD).length cw]), (2, .seg (.slice pw (ws.map wrD).length cw) 55 2 (ws.map wrD)), (3, .dat (.slice pi items.length ci) (.l 2 (items.map itD)))] w0) :
   Calls Try.prog 76 #[.pointer (some ⟨B, 0, none⟩), .slice pi items.length ci] w0 fun e w' => ∃ (ws' : List (Int × List (Int × List Int))) (e9 : Int) (pw' : Option Addr) (cw' : Nat), e = .returned (.int .i64 e9) ∧ wrR bl sz ws items = (ws', e9) ∧ MemOk X w0 [(1, .box B 34 [.int .i64 vo, .int .i64 bl, .int .i64 sz, .int .i64 pe, .slice pp place.length cp, .int .i64 to, .int .i64 ne, .bool hi, .int .i64 fl, .slice pn pins.length cn9, .slice pw' (ws'.map wrD).length cw']), (2, .seg (.slice pw' (ws'.map wrD).length cw') 55 2 (ws'.map wrD)), (3, .dat (.slice pi items.length ci) (.l 2 (items.map itD)))] w' := by
 refine enter (fn := Try.f76) Try.func76 rfl Try.ntmps76 rfl (fun a0 ha0 => ?_)
 simp only [List.zipIdx_cons, List.zipIdx_nil, List.map_cons, List.map_nil, Nat.reduceAdd, Nat.zero_add] at ha0
 refine wp_seq_k (fun K0 hK0 => ?_)
 refine wp_region_lit ?_
 refine st_y ha0 rfl (y_assign ha0 rfl) ?_
 clear ha0 a0; intro a1 ha1
 refine wpList_nil ?_
 refine hK0 _ _ ?_; clear hK0; try clear K0
 refine wp_seq_k (fun K1 hK1 => ?_)
 refine wp_seq_k (fun K2 hK2 => ?_)
 have m2 : MemOk _ _ [(1, _), (2, _), (3, _)] _ := m0.only [1, 2, 3]; clear m0
 refine region_m 11 (B := [(1, _), (2, _), (3, _)]) (m2.to ⟨il, il, il, trivial⟩) m2 (by kernel_rfl) (fun w3 mB3 m3 => ?_); clear m2 mB3
 refine dyn 0 ha1 rfl rfl (m3.to ⟨il, il, il, trivial⟩) (fun W => y_move ha1 rfl) ?_
 clear ha1 a1; intro a4 ha4
 refine dyn 1 ha4 rfl rfl (m3.to ⟨il, il, il, trivial⟩) (fun W => y_nilCheck ha4 rfl) ?_
 clear ha4 a4; intro a5 ha5
 refine dyn 2 ha5 rfl rfl (m3.to ⟨il, il, il, trivial⟩) (fun W => y_fieldAddr ha5 (off := 1) rfl Try.underlying34 rfl (s := 0) (by kernel_rfl) rfl) ?_
 clear ha5 a5; intro a6 ha6
 refine dh 3 ha6 rfl rfl (m3.to ⟨il, il, il, trivial⟩) (fun W hW => y_loadB1 ha6 hW (i := 1) rfl rfl rfl Try.underlying3 rfl) ?_
 clear ha6 a6; intro a7 ha7
 refine dyn 4 ha7 rfl rfl (m3.to ⟨il, il, il, trivial⟩) (fun W => y_move ha7 rfl) ?_
 clear ha7 a7; intro a8 ha8
 refine dyn 5 ha8 rfl rfl (m3.to ⟨il, il, il, trivial⟩) (fun W => y_nilCheck ha8 rfl) ?_
 clear ha8 a8; intro a9 ha9
 refine dyn 6 ha9 rfl rfl (m3.to ⟨il, il, il, trivial⟩) (fun W => y_fieldAddr ha9 (off := 2) rfl Try.underlying34 rfl (s := 0) (by kernel_rfl) rfl) ?_
 clear ha9 a9; intro a10 ha10
 refine dh 7 ha10 rfl rfl (m3.to ⟨il, il, il, trivial⟩) (fun W hW => y_loadB1 ha10 hW (i := 1) rfl rfl rfl Try.underlying3 rfl) ?_
 clear ha10 a10; intro a11 ha11
 refine dyn 8 ha11 rfl rfl (m3.to ⟨il, il, il, trivial⟩) (fun W => y_move ha11 rfl) ?_
 clear ha11 a11; intro a12 ha12
 refine stepE_only 9 rfl (by kernel_rfl) rfl (fun K hK => ?_)
 refine e_call ha12 Try.func28 rfl rfl rfl rfl (vitems_nn _ _ items _ _ _ _ ((m3.rd (i := 3) rfl).any) hil) ?_
 rintro e w13 ⟨ib, rfl, hib, hb13⟩
 have m14 := m3.later hb13
 clear m3
 clear hb13
 refine ⟨_, rfl, fun a15 ha15 => ?_⟩; clear ha12 a12
 refine hK _ _ (m14.to ⟨il, il, il, trivial⟩) ?_; clear hK K
 refine dyn 10 ha15 rfl rfl (m14.to ⟨il, il, il, trivial⟩) (fun W => y_not ha15 rfl) ?_
 clear ha15 a15; intro a16 ha16
 refine wpAnyE_done (by kernel_rfl) ?_ _
 refine hK2 _ _ ?_; clear hK2; try clear K2
 refine bool_cases ha16 (t := 15) rfl (fun hb17 ha17 => ?_) (fun hb17 ha17 => ?_)
 ·
  clear ha16
  try simp only [Q1x, Q2x, Q3x, Q4x, Q5x, Q6x, Q7x, Q8x, Q9x, Q0x, Qax, Qbx] at hb17
  refine wp_cond_true (ha17.ev (x := .tmp 15) rfl) ?_
  refine wp_seq_k (fun K3 hK3 => ?_)
  have ha18 : Has 33 [(0, _), (1, _), (4, _), (15, _)] a16 := ha17.only [0, 1, 4, 15]; clear ha17
  refine wp_region_lit ?_
  refine st_y ha18 rfl (y_assign ha18 rfl) ?_
  clear ha18 a16; intro a19 ha19
  refine wpList_nil ?_
  refine hK3 _ _ ?_; clear hK3; try clear K3
  refine wp_ret ?_
  try dsimp only [Exit.then, Exit.inBlock]
  refine (ret1 (fn := Try.f76) ha19 rfl rfl ?_)
  exact ⟨ws, 23, _, _, rfl, by rw [wrR, if_neg (fun h => by have h9 := hib.2 h; simp_all)], m14.only [1, 2, 3]⟩
 ·
  clear ha16
  try simp only [Q1x, Q2x, Q3x, Q4x, Q5x, Q6x, Q7x, Q8x, Q9x, Q0x, Qax, Qbx] at hb17
  refine wp_cond_false (ha17.ev (x := .tmp 15) rfl) ?_
  refine wp_skip ?_
  refine hK1 _ _ ?_; clear hK1; try clear K1
  refine wp_seq_k (fun K4 hK4 => ?_)
  have ha20 : Has 33 [(0, _), (1, _), (4, _), (15, _)] a16 := ha17.only [0, 1, 4, 15]; clear ha17
  have m21 : MemOk _ _ [(1, _), (2, _), (3, _)] _ := m14.only [1, 2, 3]; clear m14
  refine region_m 14 (B := [(1, _), (2, _), (3, _)]) (m21.to ⟨il, il, il, trivial⟩) m21 (by kernel_rfl) (fun w22 mB22 m22 => ?_); clear m21 mB22
  refine dyn 0 ha20 rfl rfl (m22.to ⟨il, il, il, trivial⟩) (fun W => y_move ha20 rfl) ?_
  clear ha20 a16; intro a23 ha23
  refine dyn 1 ha23 rfl rfl (m22.to ⟨il, il, il, trivial⟩) (fun W => y_move ha23 rfl) ?_
  clear ha23 a23; intro a24 ha24
  refine dyn 2 ha24 rfl rfl (m22.to ⟨il, il, il, trivial⟩) (fun W => y_nilCheck ha24 rfl) ?_
  clear ha24 a24; intro a25 ha25
  refine dyn 3 ha25 rfl rfl (m22.to ⟨il, il, il, trivial⟩) (fun W => y_fieldAddr ha25 (off := 10) rfl Try.underlying34 rfl (s := 0) (by kernel_rfl) rfl) ?_
  clear ha25 a25; intro a26 ha26
  refine dr 4 ha26 rfl rfl (m22.to ⟨il, il, il, trivial⟩) (fun W hW => y_loadB1 ha26 hW (i := 1) rfl rfl rfl Try.underlying32 rfl) ?_
  clear ha26 a26; intro a27 ha27
  refine dyn 5 ha27 rfl rfl (m22.to ⟨il, il, il, trivial⟩) (fun W => y_move ha27 rfl) ?_
  clear ha27 a27; intro a28 ha28
  refine dyn 6 ha28 rfl rfl (m22.to ⟨il, il, il, trivial⟩) (fun W => y_nilCheck ha28 rfl) ?_
  clear ha28 a28; intro a29 ha29
  refine dr 7 ha29 rfl rfl (m22.to ⟨il, il, il, trivial⟩) (fun W hW => y_loadBR ha29 hW (i := 1) rfl rfl Try.underlying34 rfl sz34xw (by simp) (by dsimp only [List.drop, List.take] <;> rfl)) ?_
  clear ha29 a29; intro a30 ha30
  refine dyn 10 ha30 rfl rfl (m22.to ⟨il, il, il, trivial⟩) (fun W => y_move ha30 rfl) ?_
  clear ha30 a30; intro a31 ha31
  refine stepE_only 8 rfl (by kernel_rfl) rfl (fun K hK => ?_)
  refine e_call ha31 Try.func20 rfl rfl rfl rfl (vlen_any _ _ _ _ _ _ _ _ _ _ _ _ _ _ _ _ _ _) ?_
  rintro e w32 ⟨rfl, hb32⟩
  have m33 := m22.later hb32
  clear m22
  clear hb32
  refine ⟨_, rfl, fun a34 ha34 => ?_⟩; clear ha31 a31
  refine hK _ _ (m33.to ⟨il, il, il, trivial⟩) ?_; clear hK K
  refine dyn 9 ha34 rfl rfl (m33.to ⟨il, il, il, trivial⟩) (fun W => y_add ha34 rfl rfl (r := (ws.length : Int) + 1) (by rw [List.length_map]; exact IntWalk.i64_in _ (by omega))) ?_
  clear ha34 a34; intro a35 ha35
  refine stepE_only 11 rfl (by kernel_rfl) rfl (fun K hK => ?_)
  refine e_call ha35 Try.func75 rfl rfl rfl rfl (items_any items _ _ _ _ ((m33.rd (i := 3) rfl).any) hil hio) ?_
  rintro e w36 ⟨p36, c36, rfl, hd36, hb36⟩
  have m37 := m33.callF 20 rfl hb36 hd36
  clear m33
  clear hb36 hd36
  refine ⟨_, rfl, fun a38 ha38 => ?_⟩; clear ha35 a35
  refine hK _ _ (m37.to ⟨il, il, il, trivial⟩) ?_; clear hK K
  refine dyn 12 ha38 rfl rfl (m37.to ⟨il, il, il, trivial⟩) (fun W => y_build ha38 rfl zc55xw fl55xw rfl (by dsimp only [setL, List.set] <;> rfl)) ?_
  clear ha38 a38; intro a39 ha39
  refine stepE_only 13 rfl (by kernel_rfl) rfl (fun K hK => ?_)
  refine e_litR ha39 m37 21 (mm := 2) rfl (.cons rfl rfl (.cons (.v _) (.cons (m37.rd (i := 20) rfl) .nil)) <| .nil) Try.underlying32 inf55xw rfl rfl rfl rfl rfl ?_
  clear ha39 a39 m37; intro g40 a41 w41 ha41 m41
  refine hK _ _ (m41.to ⟨il, il, il, trivial⟩) ?_; clear hK K
  have m43 := m41.freezeR 21 rfl; clear m41
  refine stepE_end 14 rfl (by kernel_rfl) rfl (by rfl) (fun K hK => ?_)
  refine e_appSA ha41 m43 2 rfl rfl rfl (m43.rd (i := 21) rfl).cells Try.underlying32 inf55xw rfl rfl (by decide) (by simp; omega) rfl ?_
  clear ha41 a41 m43; intro p42 c42 a44 w44 ha44 m44
  refine hK _ _ ?_; clear hK K
  refine dyp 15 ha44 rfl rfl (fun W => y_nilCheck ha44 rfl) ?_
  clear ha44 a44; intro a45 ha45
  refine dyp 16 ha45 rfl rfl (fun W => y_fieldAddr ha45 (off := 10) rfl Try.underlying34 rfl (s := 0) (by kernel_rfl) rfl) ?_
  clear ha45 a45; intro a46 ha46
  refine stepE_end 17 rfl (by kernel_rfl) rfl (by rfl) (fun K hK => ?_)
  refine e_store1 ha46 m44 1 rfl rfl rfl rfl rfl sz32xw (by dsimp only [List.set] <;> rfl) ?_
  clear m44; intro w47 m47 hB47
  clear hB47
  refine hK _ _ ?_; clear hK K
  refine wpAnyE_done (by kernel_rfl) ?_ _
  refine hK4 _ _ ?_; clear hK4; try clear K4
  refine wp_seq_k (fun K5 hK5 => ?_)
  have ha48 : Has 33 [(4, _), (15, _)] a46 := ha46.only [4, 15]; clear ha46
  refine wp_region_lit ?_
  refine st_y ha48 rfl (y_assign ha48 rfl) ?_
  clear ha48 a46; intro a49 ha49
  refine wpList_nil ?_
  refine hK5 _ _ ?_; clear hK5; try clear K5
  refine wp_ret ?_
  try dsimp only [Exit.then, Exit.inBlock]
  refine (ret1 (fn := Try.f76) ha49 rfl rfl ?_)
  have hE : ws.map wrD ++ [[D.v (.int .i64 ((ws.length : Int) + 1)), .l 2 (items.map itD)]] = (ws ++ [((ws.length : Int) + 1, items)]).map wrD := by rw [List.map_append]; rfl
  rw [hE] at m47
  exact ⟨(ws ++ [((ws.length : Int) + 1, items)]), 0, _, _, rfl, by rw [wrR, if_pos (hib.1 (by simp_all))], m47.only [1, 2, 3]⟩
theorem xput (X : Cx) (B : Nat) (vo bl sz pe to ne fl : Int) (hi : Bool) (place pins : List Int) (ws : List (Int × List (Int × List Int))) (items : List (Int × List Int)) (pp pn pw : Option Addr) (cp cn9 cw : Nat) (pi : Option Addr) (ci : Nat) (w0 : World) (hl : ws.length ≤ 900000) (hil : items.length ≤ 1000000) (hio : ItsOk items) (m0 : MemOk X w0 [(1, .box B 34 [.int .i64 vo, .int .i64 bl, .int .i64 sz, .int .i64 pe, .slice pp place.length cp, .int .i64 to, .int .i64 ne, .bool hi, .int .i64 fl, .slice pn pins.length cn9, .slice pw (ws.map wrD).length cw]), (2, .seg (.slice pw (ws.map wrD).length cw) 55 2 (ws.map wrD)), (3, .dat (.slice pi items.length ci) (.l 2 (items.map itD)))] w0) :
   Calls Try.prog 59 #[.pointer (some ⟨B, 0, none⟩), .slice pi items.length ci] w0 fun e w' => ∃ (ne' : Int) (hi' : Bool) (fl' : Int) (ws' : List (Int × List (Int × List Int))) (e9 : Int) (pw' : Option Addr) (cw' : Nat), e = .returned (.int .i64 e9) ∧ putR bl sz ne fl hi ws items = (ne', hi', fl', ws', e9) ∧ MemOk X w0 [(1, .box B 34 [.int .i64 vo, .int .i64 bl, .int .i64 sz, .int .i64 pe, .slice pp place.length cp, .int .i64 to, .int .i64 ne', .bool hi', .int .i64 fl', .slice pn pins.length cn9, .slice pw' (ws'.map wrD).length cw']), (2, .seg (.slice pw' (ws'.map wrD).length cw') 55 2 (ws'.map wrD)), (3, .dat (.slice pi items.length ci) (.l 2 (items.map itD)))] w' := by
 refine enter (fn := Try.f59) Try.func59 rfl Try.ntmps59 rfl (fun a0 ha0 => ?_)
 simp only [List.zipIdx_cons, List.zipIdx_nil, List.map_cons, List.map_nil, Nat.reduceAdd, Nat.zero_add] at ha0
 refine wp_seq_k (fun K0 hK0 => ?_)
 refine wp_region_lit ?_
 refine st_y ha0 rfl (y_assign ha0 rfl) ?_
 clear ha0 a0; intro a1 ha1
 refine wpList_nil ?_
 refine hK0 _ _ ?_; clear hK0; try clear K0
 refine wp_seq_k (fun K1 hK1 => ?_)
 refine wp_seq_k (fun K2 hK2 => ?_)
 refine wp_region_lit ?_
 refine st_y ha1 rfl (y_move ha1 rfl) ?_
 clear ha1 a1; intro a2 ha2
 refine st_y ha2 rfl (y_nilCheck ha2 rfl) ?_
 clear ha2 a2; intro a3 ha3
 refine st_y ha3 rfl (y_fieldAddr ha3 (off := 7) rfl Try.underlying34 rfl (s := 0) (by kernel_rfl) rfl) ?_
 clear ha3 a3; intro a4 ha4
 refine st_y ha4 rfl (y_loadB1 ha4 m0 (i := 1) rfl rfl rfl Try.underlying4 rfl) ?_
 clear ha4 a4; intro a5 ha5
 refine wpList_nil ?_
 refine hK2 _ _ ?_; clear hK2; try clear K2
 refine bool_cases ha5 (t := 8) rfl (fun hb6 ha6 => ?_) (fun hb6 ha6 => ?_)
 ·
  clear ha5
  try simp only [Q1x, Q2x, Q3x, Q4x, Q5x, Q6x, Q7x, Q8x, Q9x, Q0x, Qax, Qbx] at hb6
  refine wp_cond_true (ha6.ev (x := .tmp 8) rfl) ?_
  refine wp_seq_k (fun K3 hK3 => ?_)
  refine wp_region_lit ?_
  refine st_y ha6 rfl (y_assign ha6 rfl) ?_
  clear ha6 a5; intro a7 ha7
  refine wpList_nil ?_
  refine hK3 _ _ ?_; clear hK3; try clear K3
  refine wp_ret ?_
  try dsimp only [Exit.then, Exit.inBlock]
  refine (ret1 (fn := Try.f59) ha7 rfl rfl ?_)
  exact ⟨ne, hi, fl, ws, 28, _, _, rfl, by rw [putR, if_pos (by assumption)], m0.only [1, 2, 3]⟩
 ·
  clear ha5
  try simp only [Q1x, Q2x, Q3x, Q4x, Q5x, Q6x, Q7x, Q8x, Q9x, Q0x, Qax, Qbx] at hb6
  refine wp_cond_false (ha6.ev (x := .tmp 8) rfl) ?_
  refine wp_skip ?_
  refine hK1 _ _ ?_; clear hK1; try clear K1
  refine wp_seq_k (fun K4 hK4 => ?_)
  refine wp_region_lit ?_
  refine st_y ha6 rfl (y_move ha6 rfl) ?_
  clear ha6 a5; intro a8 ha8
  refine st_y ha8 rfl (y_move ha8 rfl) ?_
  clear ha8 a8; intro a9 ha9
  refine wpList_plain rfl (fun K hK => ?_)
  refine e_call ha9 Try.func76 rfl rfl rfl rfl (xwrite _ _ _ _ _ _ _ _ _ _ place pins ws items _ _ _ _ _ _ _ _ _ hl hil hio (m0.into [(1, 1), (2, 2), (3, 3)] (by decide) rfl)) ?_
  rintro e w10 ⟨wx, ex, pw10, cw10, rfl, hw, hm10⟩
  have mx10 := m0.back hm10 [(1, 1), (2, 2), (3, 3)] (by decide); clear hm10 m0
  have m10 : MemOk _ _ [(1, _), (2, _), (3, _)] _ := mx10.only [1, 2, 3]; clear mx10
  refine ⟨_, rfl, fun a11 ha11 => ?_⟩; clear ha9 a9
  refine hK _ _ ?_; clear hK K
  refine st_y ha11 rfl (y_assign ha11 rfl) ?_
  clear ha11 a11; intro a12 ha12
  refine wpList_nil ?_
  refine hK4 _ _ ?_; clear hK4; try clear K4
  refine wp_ret ?_
  try dsimp only [Exit.then, Exit.inBlock]
  refine (ret1 (fn := Try.f59) ha12 rfl rfl ?_)
  exact ⟨ne, hi, fl, wx, ex, _, _, rfl, by rw [putR, if_neg (by simp_all), hw], m10.only [1, 2, 3]⟩
theorem xreach (X : Cx) (B : Nat) (vo bl sz pe to ne fl : Int) (hi : Bool) (place pins : List Int) (ws : List (Int × List (Int × List Int))) (pp pn pw : Option Addr) (cp cn9 cw : Nat) (at0 nd : Int) (w0 : World) (m0 : MemOk X w0 [(1, .box B 34 [.int .i64 vo, .int .i64 bl, .int .i64 sz, .int .i64 pe, .slice pp place.length cp, .int .i64 to, .int .i64 ne, .bool hi, .int .i64 fl, .slice pn pins.length cn9, .slice pw (ws.map wrD).length cw])] w0) :
   Calls Try.prog 77 #[.pointer (some ⟨B, 0, none⟩), .int .i64 at0, .int .i64 nd] w0 fun e w' => ∃ e9 : Int, e = .returned (.int .i64 e9) ∧ reachR hi fl at0 nd = e9 ∧ MemOk X w0 [(1, .box B 34 [.int .i64 vo, .int .i64 bl, .int .i64 sz, .int .i64 pe, .slice pp place.length cp, .int .i64 to, .int .i64 ne, .bool hi, .int .i64 fl, .slice pn pins.length cn9, .slice pw (ws.map wrD).length cw])] w' := by
 refine enter (fn := Try.f77) Try.func77 rfl Try.ntmps77 rfl (fun a0 ha0 => ?_)
 simp only [List.zipIdx_cons, List.zipIdx_nil, List.map_cons, List.map_nil, Nat.reduceAdd, Nat.zero_add] at ha0
 refine wp_seq_k (fun K0 hK0 => ?_)
 refine wp_region_lit ?_
 refine st_y ha0 rfl (y_assign ha0 rfl) ?_
 clear ha0 a0; intro a1 ha1
 refine wpList_nil ?_
 refine hK0 _ _ ?_; clear hK0; try clear K0
 refine wp_seq_k (fun K1 hK1 => ?_)
 refine wp_block ?_
 refine wp_seq_k (fun K2 hK2 => ?_)
 refine wp_region_lit ?_
 refine st_y ha1 rfl (y_move ha1 rfl) ?_
 clear ha1 a1; intro a2 ha2
 refine st_y ha2 rfl (y_nilCheck ha2 rfl) ?_
 clear ha2 a2; intro a3 ha3
 refine st_y ha3 rfl (y_fieldAddr ha3 (off := 7) rfl Try.underlying34 rfl (s := 0) (by kernel_rfl) rfl) ?_
 clear ha3 a3; intro a4 ha4
 refine st_y ha4 rfl (y_loadB1 ha4 m0 (i := 1) rfl rfl rfl Try.underlying4 rfl) ?_
 clear ha4 a4; intro a5 ha5
 refine st_y ha5 rfl (y_assign ha5 rfl) ?_
 clear ha5 a5; intro a6 ha6
 refine wpList_nil ?_
 refine hK2 _ _ ?_; clear hK2; try clear K2
 refine bool_cases ha6 (t := 7) rfl (fun hb7 ha7 => ?_) (fun hb7 ha7 => ?_)
 ·
  clear ha6
  try simp only [Q1x, Q2x, Q3x, Q4x, Q5x, Q6x, Q7x, Q8x, Q9x, Q0x, Qax, Qbx] at hb7
  refine wp_cond_true (ha7.ev (x := .tmp 7) rfl) ?_
  refine wp_seq_k (fun K3 hK3 => ?_)
  refine wp_region_lit ?_
  refine st_y ha7 rfl (y_assign ha7 rfl) ?_
  clear ha7 a6; intro a8 ha8
  refine wpList_nil ?_
  refine hK3 _ _ ?_; clear hK3; try clear K3
  refine wp_ret ?_
  try dsimp only [Exit.then, Exit.inBlock]
  refine (ret1 (fn := Try.f77) ha8 rfl rfl ?_)
  exact ⟨_, rfl, by rw [reachR, if_pos (by assumption)], m0.only [1]⟩
 ·
  clear ha6
  try simp only [Q1x, Q2x, Q3x, Q4x, Q5x, Q6x, Q7x, Q8x, Q9x, Q0x, Qax, Qbx] at hb7
  refine wp_cond_false (ha7.ev (x := .tmp 7) rfl) ?_
  refine wp_seq_k (fun K4 hK4 => ?_)
  refine wp_region_lit ?_
  refine st_y ha7 rfl (y_move ha7 rfl) ?_
  clear ha7 a6; intro a9 ha9
  refine st_y ha9 rfl (y_move ha9 rfl) ?_
  clear ha9 a9; intro a10 ha10
  refine st_y ha10 rfl (y_nilCheck ha10 rfl) ?_
  clear ha10 a10; intro a11 ha11
  refine st_y ha11 rfl (y_fieldAddr ha11 (off := 8) rfl Try.underlying34 rfl (s := 0) (by kernel_rfl) rfl) ?_
  clear ha11 a11; intro a12 ha12
  refine st_y ha12 rfl (y_loadB1 ha12 m0 (i := 1) rfl rfl rfl Try.underlying2 rfl) ?_
  clear ha12 a12; intro a13 ha13
  refine st_y ha13 rfl (y_lss ha13 rfl rfl) ?_
  clear ha13 a13; intro a14 ha14
  refine st_y ha14 rfl (y_assign ha14 rfl) ?_
  clear ha14 a14; intro a15 ha15
  refine wpList_nil ?_
  refine hK4 _ _ ?_; clear hK4; try clear K4
  refine bool_cases ha15 (t := 12) rfl (fun hb16 ha16 => ?_) (fun hb16 ha16 => ?_)
  ·
   clear ha15
   try simp only [Q1x, Q2x, Q3x, Q4x, Q5x, Q6x, Q7x, Q8x, Q9x, Q0x, Qax, Qbx] at hb16
   refine wp_cond_true (ha16.ev (x := .tmp 12) rfl) ?_
   refine wp_seq_k (fun K5 hK5 => ?_)
   have ha17 : Has 23 [(1, _), (2, _), (6, _), (7, _), (12, _)] a15 := ha16.only [1, 2, 6, 7, 12]; clear ha16
   refine wp_region_lit ?_
   refine st_y ha17 rfl (y_assign ha17 rfl) ?_
   clear ha17 a15; intro a18 ha18
   refine wpList_nil ?_
   refine hK5 _ _ ?_; clear hK5; try clear K5
   refine wp_ret ?_
   try dsimp only [Exit.then, Exit.inBlock]
   refine (ret1 (fn := Try.f77) ha18 rfl rfl ?_)
   exact ⟨_, rfl, by rw [reachR, if_neg (by simp_all), if_pos (by assumption)], m0.only [1]⟩
  ·
   clear ha15
   try simp only [Q1x, Q2x, Q3x, Q4x, Q5x, Q6x, Q7x, Q8x, Q9x, Q0x, Qax, Qbx] at hb16
   refine wp_cond_false (ha16.ev (x := .tmp 12) rfl) ?_
   refine wp_seq_k (fun K6 hK6 => ?_)
   have ha19 : Has 23 [(1, _), (2, _), (6, _), (7, _), (12, _)] a15 := ha16.only [1, 2, 6, 7, 12]; clear ha16
   refine wp_region_lit ?_
   refine st_y ha19 rfl (y_move ha19 rfl) ?_
   clear ha19 a15; intro a20 ha20
   refine st_y ha20 rfl (y_move ha20 rfl) ?_
   clear ha20 a20; intro a21 ha21
   refine st_y ha21 rfl (y_gtr ha21 rfl rfl) ?_
   clear ha21 a21; intro a22 ha22
   refine st_y ha22 rfl (y_assign ha22 rfl) ?_
   clear ha22 a22; intro a23 ha23
   refine wpList_nil ?_
   refine hK6 _ _ ?_; clear hK6; try clear K6
   refine bool_cases ha23 (t := 19) rfl (fun hb24 ha24 => ?_) (fun hb24 ha24 => ?_)
   ·
    clear ha23
    try simp only [Q1x, Q2x, Q3x, Q4x, Q5x, Q6x, Q7x, Q8x, Q9x, Q0x, Qax, Qbx] at hb24
    refine wp_cond_true (ha24.ev (x := .tmp 19) rfl) ?_
    refine wp_seq_k (fun K7 hK7 => ?_)
    refine wp_region_lit ?_
    refine st_y ha24 rfl (y_assign ha24 rfl) ?_
    clear ha24 a23; intro a25 ha25
    refine wpList_nil ?_
    refine hK7 _ _ ?_; clear hK7; try clear K7
    refine wp_ret ?_
    try dsimp only [Exit.then, Exit.inBlock]
    refine (ret1 (fn := Try.f77) ha25 rfl rfl ?_)
    exact ⟨_, rfl, by rw [reachR, if_neg (by simp_all), if_neg (by omega), if_pos (by assumption)], m0.only [1]⟩
   ·
    clear ha23
    try simp only [Q1x, Q2x, Q3x, Q4x, Q5x, Q6x, Q7x, Q8x, Q9x, Q0x, Qax, Qbx] at hb24
    refine wp_cond_false (ha24.ev (x := .tmp 19) rfl) ?_
    refine wp_skip ?_
    refine hK1 _ _ ?_; clear hK1; try clear K1
    refine wp_seq_k (fun K8 hK8 => ?_)
    refine wp_region_lit ?_
    refine st_y ha24 rfl (y_assign ha24 rfl) ?_
    clear ha24 a23; intro a26 ha26
    refine wpList_nil ?_
    refine hK8 _ _ ?_; clear hK8; try clear K8
    refine wp_ret ?_
    try dsimp only [Exit.then, Exit.inBlock]
    refine (ret1 (fn := Try.f77) ha26 rfl rfl ?_)
    exact ⟨_, rfl, by rw [reachR, if_neg (by simp_all), if_neg (by omega), if_neg (by omega)], m0.only [1]⟩
theorem xprune (X : Cx) (B : Nat) (vo bl sz pe to ne fl : Int) (hi : Bool) (place pins : List Int) (ws : List (Int × List (Int × List Int))) (pp pn pw : Option Addr) (cp cn9 cw : Nat) (at0 : Int) (w0 : World) (hp : pins.length ≤ 1000000) (m0 : MemOk X w0 [(1, .box B 34 [.int .i64 vo, .int .i64 bl, .int .i64 sz, .int .i64 pe, .slice pp place.length cp, .int .i64 to, .int .i64 ne, .bool hi, .int .i64 fl, .slice pn pins.length cn9, .slice pw (ws.map wrD).length cw]), (2, .seg (.slice pw (ws.map wrD).length cw) 55 2 (ws.map wrD)), (4, .dat (.slice pn pins.length cn9) (.ns .i64 pins))] w0) :
   Calls Try.prog 60 #[.pointer (some ⟨B, 0, none⟩), .int .i64 at0] w0 fun e w' => ∃ (ne' : Int) (hi' : Bool) (fl' : Int) (ws' : List (Int × List (Int × List Int))) (e9 : Int) (pw' : Option Addr) (cw' : Nat), e = .returned (.int .i64 e9) ∧ pruneR ne fl hi pins ws at0 = (ne', hi', fl', ws', e9) ∧ MemOk X w0 [(1, .box B 34 [.int .i64 vo, .int .i64 bl, .int .i64 sz, .int .i64 pe, .slice pp place.length cp, .int .i64 to, .int .i64 ne', .bool hi', .int .i64 fl', .slice pn pins.length cn9, .slice pw' (ws'.map wrD).length cw']), (2, .seg (.slice pw' (ws'.map wrD).length cw') 55 2 (ws'.map wrD)), (4, .dat (.slice pn pins.length cn9) (.ns .i64 pins))] w' := by
 refine enter (fn := Try.f60) Try.func60 rfl Try.ntmps60 rfl (fun a0 ha0 => ?_)
 simp only [List.zipIdx_cons, List.zipIdx_nil, List.map_cons, List.map_nil, Nat.reduceAdd, Nat.zero_add] at ha0
 refine wp_seq_k (fun K0 hK0 => ?_)
 refine wp_region_lit ?_
 refine st_y ha0 rfl (y_assign ha0 rfl) ?_
 clear ha0 a0; intro a1 ha1
 refine wpList_nil ?_
 refine hK0 _ _ ?_; clear hK0; try clear K0
 refine wp_seq_k (fun K1 hK1 => ?_)
 refine wp_region_lit ?_
 refine st_y ha1 rfl (y_move ha1 rfl) ?_
 clear ha1 a1; intro a2 ha2
 refine st_y ha2 rfl (y_move ha2 rfl) ?_
 clear ha2 a2; intro a3 ha3
 refine st_y ha3 rfl (y_move ha3 rfl) ?_
 clear ha3 a3; intro a4 ha4
 refine st_y ha4 rfl (y_nilCheck ha4 rfl) ?_
 clear ha4 a4; intro a5 ha5
 refine st_y ha5 rfl (y_loadBR ha5 m0 (i := 1) rfl rfl Try.underlying34 rfl sz34xq (by simp) (by dsimp only [List.drop, List.take] <;> rfl)) ?_
 clear ha5 a5; intro a6 ha6
 refine wpList_plain rfl (fun K hK => ?_)
 refine e_call ha6 Try.func22 rfl rfl rfl rfl (low_nn _ _ _ _ _ _ _ _ place pins ws _ _ _ _ _ _ _ _ ((m0.rd (i := 4) rfl).any) hp) ?_
 rintro e w7 ⟨rfl, hb7⟩
 have m8 := m0.later hb7
 clear m0
 clear hb7
 refine ⟨_, rfl, fun a9 ha9 => ?_⟩; clear ha6 a6
 refine hK _ _ ?_; clear hK K
 refine wpList_plain rfl (fun K hK => ?_)
 refine e_call ha9 Try.func77 rfl rfl rfl rfl (xreach _ _ _ _ _ _ _ _ _ _ place pins ws _ _ _ _ _ _ _ _ _ (m8.into [(1, 1)] (by decide) rfl)) ?_
 rintro e w10 ⟨ex, rfl, hr, hm10⟩
 have mx10 := m8.back hm10 [(1, 1)] (by decide); clear hm10 m8
 have m10 : MemOk _ _ [(1, _), (2, _), (4, _)] _ := mx10.only [1, 2, 4]; clear mx10
 refine ⟨_, rfl, fun a11 ha11 => ?_⟩; clear ha9 a9
 refine hK _ _ ?_; clear hK K
 refine st_y ha11 rfl (y_assign ha11 rfl) ?_
 clear ha11 a11; intro a12 ha12
 refine wpList_nil ?_
 refine hK1 _ _ ?_; clear hK1; try clear K1
 refine wp_seq_k (fun K2 hK2 => ?_)
 refine wp_seq_k (fun K3 hK3 => ?_)
 have ha13 : Has 20 [(0, _), (1, _), (4, _), (5, _)] a12 := ha12.only [0, 1, 4, 5]; clear ha12
 refine wp_region_lit ?_
 refine st_y ha13 rfl (y_move ha13 rfl) ?_
 clear ha13 a12; intro a14 ha14
 refine st_y ha14 rfl (y_eql ha14 rfl rfl) ?_
 clear ha14 a14; intro a15 ha15
 refine wpList_nil ?_
 refine hK3 _ _ ?_; clear hK3; try clear K3
 refine bool_cases ha15 (t := 14) rfl (fun hb16 ha16 => ?_) (fun hb16 ha16 => ?_)
 ·
  clear ha15
  try simp only [Q1x, Q2x, Q3x, Q4x, Q5x, Q6x, Q7x, Q8x, Q9x, Q0x, Qax, Qbx] at hb16
  refine wp_cond_true (ha16.ev (x := .tmp 14) rfl) ?_
  refine wp_region_lit ?_
  refine st_y ha16 rfl (y_move ha16 rfl) ?_
  clear ha16 a15; intro a17 ha17
  refine st_y ha17 rfl (y_move ha17 rfl) ?_
  clear ha17 a17; intro a18 ha18
  refine st_y ha18 rfl (y_nilCheck ha18 rfl) ?_
  clear ha18 a18; intro a19 ha19
  refine st_y ha19 rfl (y_fieldAddr ha19 (off := 8) rfl Try.underlying34 rfl (s := 0) (by kernel_rfl) rfl) ?_
  clear ha19 a19; intro a20 ha20
  refine wpList_plain rfl (fun K hK => ?_)
  refine e_store1 ha20 m10 1 rfl rfl rfl rfl rfl sz2xq (by dsimp only [List.set] <;> rfl) ?_
  clear m10; intro w21 m21 hB21
  clear hB21
  refine hK _ _ ?_; clear hK K
  refine wpList_nil ?_
  refine hK2 _ _ ?_; clear hK2; try clear K2
  refine wp_seq_k (fun K4 hK4 => ?_)
  have ha22 : Has 20 [(4, _), (5, _), (14, _)] a20 := ha20.only [4, 5, 14]; clear ha20
  refine wp_region_lit ?_
  refine st_y ha22 rfl (y_move ha22 rfl) ?_
  clear ha22 a20; intro a23 ha23
  refine st_y ha23 rfl (y_assign ha23 rfl) ?_
  clear ha23 a23; intro a24 ha24
  refine wpList_nil ?_
  refine hK4 _ _ ?_; clear hK4; try clear K4
  refine wp_ret ?_
  try dsimp only [Exit.then, Exit.inBlock]
  refine (ret1 (fn := Try.f60) ha24 rfl rfl ?_)
  exact ⟨ne, hi, at0, ws, 0, _, _, by simp_all, by rw [pruneR, if_pos (by rw [hr]; assumption)], m21.only [1, 2, 4]⟩
 ·
  clear ha15
  try simp only [Q1x, Q2x, Q3x, Q4x, Q5x, Q6x, Q7x, Q8x, Q9x, Q0x, Qax, Qbx] at hb16
  refine wp_cond_false (ha16.ev (x := .tmp 14) rfl) ?_
  refine wp_skip ?_
  refine hK2 _ _ ?_; clear hK2; try clear K2
  refine wp_seq_k (fun K5 hK5 => ?_)
  refine wp_region_lit ?_
  refine st_y ha16 rfl (y_move ha16 rfl) ?_
  clear ha16 a15; intro a25 ha25
  refine st_y ha25 rfl (y_assign ha25 rfl) ?_
  clear ha25 a25; intro a26 ha26
  refine wpList_nil ?_
  refine hK5 _ _ ?_; clear hK5; try clear K5
  refine wp_ret ?_
  try dsimp only [Exit.then, Exit.inBlock]
  refine (ret1 (fn := Try.f60) ha26 rfl rfl ?_)
  exact ⟨ne, hi, fl, ws, ex, _, _, rfl, by rw [pruneR, if_neg (by rw [hr]; assumption), hr], m10.only [1, 2, 4]⟩
theorem xtake (X : Cx) (B : Nat) (vo bl sz pe to ne fl : Int) (hi : Bool) (place pins : List Int) (ws : List (Int × List (Int × List Int))) (items : List (Int × List Int)) (pp pn pw : Option Addr) (cp cn9 cw : Nat) (pi : Option Addr) (ci : Nat) (ix : Int) (w0 : World) (hne : -1000000000000000 ≤ ne ∧ ne ≤ 1000000000000000) (hl : ws.length ≤ 900000) (hil : items.length ≤ 1000000) (hio : ItsOk items) (m0 : MemOk X w0 [(1, .box B 34 [.int .i64 vo, .int .i64 bl, .int .i64 sz, .int .i64 pe, .slice pp place.length cp, .int .i64 to, .int .i64 ne, .bool hi, .int .i64 fl, .slice pn pins.length cn9, .slice pw (ws.map wrD).length cw]), (2, .seg (.slice pw (ws.map wrD).length cw) 55 2 (ws.map wrD)), (3, .dat (.slice pi items.length ci) (.l 2 (items.map itD)))] w0) :
   Calls Try.prog 63 #[.pointer (some ⟨B, 0, none⟩), .int .i64 ix, .slice pi items.length ci] w0 fun e w' => ∃ (ne' : Int) (hi' : Bool) (fl' : Int) (ws' : List (Int × List (Int × List Int))) (e9 : Int) (pw' : Option Addr) (cw' : Nat), e = .returned (.int .i64 e9) ∧ takeR bl sz to ne fl hi ws ix items = (ne', hi', fl', ws', e9) ∧ MemOk X w0 [(1, .box B 34 [.int .i64 vo, .int .i64 bl, .int .i64 sz, .int .i64 pe, .slice pp place.length cp, .int .i64 to, .int .i64 ne', .bool hi', .int .i64 fl', .slice pn pins.length cn9, .slice pw' (ws'.map wrD).length cw']), (2, .seg (.slice pw' (ws'.map wrD).length cw') 55 2 (ws'.map wrD)), (3, .dat (.slice pi items.length ci) (.l 2 (items.map itD)))] w' := by
 refine enter (fn := Try.f63) Try.func63 rfl Try.ntmps63 rfl (fun a0 ha0 => ?_)
 simp only [List.zipIdx_cons, List.zipIdx_nil, List.map_cons, List.map_nil, Nat.reduceAdd, Nat.zero_add] at ha0
 refine wp_seq_k (fun K0 hK0 => ?_)
 refine wp_region_lit ?_
 refine st_y ha0 rfl (y_assign ha0 rfl) ?_
 clear ha0 a0; intro a1 ha1
 refine wpList_nil ?_
 refine hK0 _ _ ?_; clear hK0; try clear K0
 refine wp_seq_k (fun K1 hK1 => ?_)
 refine wp_seq_k (fun K2 hK2 => ?_)
 refine wp_region_lit ?_
 refine st_y ha1 rfl (y_move ha1 rfl) ?_
 clear ha1 a1; intro a2 ha2
 refine st_y ha2 rfl (y_nilCheck ha2 rfl) ?_
 clear ha2 a2; intro a3 ha3
 refine st_y ha3 rfl (y_fieldAddr ha3 (off := 7) rfl Try.underlying34 rfl (s := 0) (by kernel_rfl) rfl) ?_
 clear ha3 a3; intro a4 ha4
 refine st_y ha4 rfl (y_loadB1 ha4 m0 (i := 1) rfl rfl rfl Try.underlying4 rfl) ?_
 clear ha4 a4; intro a5 ha5
 refine st_y ha5 rfl (y_not ha5 rfl) ?_
 clear ha5 a5; intro a6 ha6
 refine wpList_nil ?_
 refine hK2 _ _ ?_; clear hK2; try clear K2
 refine bool_cases ha6 (t := 12) rfl (fun hb7 ha7 => ?_) (fun hb7 ha7 => ?_)
 ·
  clear ha6
  try simp only [Q1x, Q2x, Q3x, Q4x, Q5x, Q6x, Q7x, Q8x, Q9x, Q0x, Qax, Qbx] at hb7
  refine wp_cond_true (ha7.ev (x := .tmp 12) rfl) ?_
  refine wp_seq_k (fun K3 hK3 => ?_)
  refine wp_region_lit ?_
  refine st_y ha7 rfl (y_assign ha7 rfl) ?_
  clear ha7 a6; intro a8 ha8
  refine wpList_nil ?_
  refine hK3 _ _ ?_; clear hK3; try clear K3
  refine wp_ret ?_
  try dsimp only [Exit.then, Exit.inBlock]
  refine (ret1 (fn := Try.f63) ha8 rfl rfl ?_)
  exact ⟨ne, hi, fl, ws, 33, _, _, rfl, by rw [takeR, if_pos (by simp_all)], m0.only [1, 2, 3]⟩
 ·
  clear ha6
  try simp only [Q1x, Q2x, Q3x, Q4x, Q5x, Q6x, Q7x, Q8x, Q9x, Q0x, Qax, Qbx] at hb7
  refine wp_cond_false (ha7.ev (x := .tmp 12) rfl) ?_
  refine wp_skip ?_
  refine hK1 _ _ ?_; clear hK1; try clear K1
  refine wp_seq_k (fun K4 hK4 => ?_)
  refine wp_seq_k (fun K5 hK5 => ?_)
  refine wp_region_lit ?_
  refine st_y ha7 rfl (y_move ha7 rfl) ?_
  clear ha7 a6; intro a9 ha9
  refine st_y ha9 rfl (y_move ha9 rfl) ?_
  clear ha9 a9; intro a10 ha10
  refine st_y ha10 rfl (y_nilCheck ha10 rfl) ?_
  clear ha10 a10; intro a11 ha11
  refine st_y ha11 rfl (y_fieldAddr ha11 (off := 6) rfl Try.underlying34 rfl (s := 0) (by kernel_rfl) rfl) ?_
  clear ha11 a11; intro a12 ha12
  refine st_y ha12 rfl (y_loadB1 ha12 m0 (i := 1) rfl rfl rfl Try.underlying3 rfl) ?_
  clear ha12 a12; intro a13 ha13
  refine st_y ha13 rfl (y_sub ha13 rfl rfl (r := ne - 1) (IntWalk.i64_in _ (by omega))) ?_
  clear ha13 a13; intro a14 ha14
  refine wpList_plain rfl (fun K hK => ?_)
  refine e_call ha14 Try.func35 rfl rfl rfl rfl (within_any _ _ _ _) ?_
  rintro e w15 ⟨rfl, hb15⟩
  have m16 := m0.later hb15
  clear m0
  clear hb15
  refine ⟨_, rfl, fun a17 ha17 => ?_⟩; clear ha14 a14
  refine hK _ _ ?_; clear hK K
  refine wpList_nil ?_
  refine hK5 _ _ ?_; clear hK5; try clear K5
  refine bool_cases ha17 (t := 19) rfl (fun hb18 ha18 => ?_) (fun hb18 ha18 => ?_)
  ·
   clear ha17
   try simp only [Q1x, Q2x, Q3x, Q4x, Q5x, Q6x, Q7x, Q8x, Q9x, Q0x, Qax, Qbx] at hb18
   refine wp_cond_true (ha18.ev (x := .tmp 19) rfl) ?_
   refine wp_seq_k (fun K6 hK6 => ?_)
   have ha19 : Has 50 [(0, _), (1, _), (2, _), (6, _), (12, _), (19, _)] a17 := ha18.only [0, 1, 2, 6, 12, 19]; clear ha18
   refine wp_region_lit ?_
   refine st_y ha19 rfl (y_assign ha19 rfl) ?_
   clear ha19 a17; intro a20 ha20
   refine wpList_nil ?_
   refine hK6 _ _ ?_; clear hK6; try clear K6
   refine wp_ret ?_
   try dsimp only [Exit.then, Exit.inBlock]
   refine (ret1 (fn := Try.f63) ha20 rfl rfl ?_)
   exact ⟨ne, hi, fl, ws, 0, _, _, rfl, by rw [takeR, if_neg (by simp_all), if_pos (by assumption)], m16.only [1, 2, 3]⟩
  ·
   clear ha17
   try simp only [Q1x, Q2x, Q3x, Q4x, Q5x, Q6x, Q7x, Q8x, Q9x, Q0x, Qax, Qbx] at hb18
   refine wp_cond_false (ha18.ev (x := .tmp 19) rfl) ?_
   refine wp_skip ?_
   refine hK4 _ _ ?_; clear hK4; try clear K4
   refine wp_seq_k (fun K7 hK7 => ?_)
   refine wp_seq_k (fun K8 hK8 => ?_)
   have ha21 : Has 50 [(0, _), (1, _), (2, _), (6, _), (12, _), (19, _)] a17 := ha18.only [0, 1, 2, 6, 12, 19]; clear ha18
   have m22 : MemOk _ _ [(1, _), (2, _), (3, _)] _ := m16.only [1, 2, 3]; clear m16
   refine region_m 17 (B := [(1, _), (2, _), (3, _)]) (m22.to ⟨il, il, il, trivial⟩) m22 (by kernel_rfl) (fun w23 mB23 m23 => ?_); clear m22 mB23
   refine dyn 0 ha21 rfl rfl (m23.to ⟨il, il, il, trivial⟩) (fun W => y_move ha21 rfl) ?_
   clear ha21 a17; intro a24 ha24
   refine dyn 1 ha24 rfl rfl (m23.to ⟨il, il, il, trivial⟩) (fun W => y_move ha24 rfl) ?_
   clear ha24 a24; intro a25 ha25
   refine dyn 2 ha25 rfl rfl (m23.to ⟨il, il, il, trivial⟩) (fun W => y_nilCheck ha25 rfl) ?_
   clear ha25 a25; intro a26 ha26
   refine dyn 3 ha26 rfl rfl (m23.to ⟨il, il, il, trivial⟩) (fun W => y_fieldAddr ha26 (off := 6) rfl Try.underlying34 rfl (s := 0) (by kernel_rfl) rfl) ?_
   clear ha26 a26; intro a27 ha27
   refine dh 4 ha27 rfl rfl (m23.to ⟨il, il, il, trivial⟩) (fun W hW => y_loadB1 ha27 hW (i := 1) rfl rfl rfl Try.underlying3 rfl) ?_
   clear ha27 a27; intro a28 ha28
   refine dyn 5 ha28 rfl rfl (m23.to ⟨il, il, il, trivial⟩) (fun W => y_neq ha28 rfl rfl) ?_
   clear ha28 a28; intro a29 ha29
   refine dyn 6 ha29 rfl rfl (m23.to ⟨il, il, il, trivial⟩) (fun W => y_move ha29 rfl) ?_
   clear ha29 a29; intro a30 ha30
   refine bool_cases ha30 (t := 26) rfl (fun hb31 ha31 => ?_) (fun hb31 ha31 => ?_)
   ·
    clear ha30
    try simp only [Q1x, Q2x, Q3x, Q4x, Q5x, Q6x, Q7x, Q8x, Q9x, Q0x, Qax, Qbx] at hb31
    refine dskipn 7 ha31 rfl rfl rfl rfl rfl (m23.to ⟨il, il, il, trivial⟩) ?_
    clear ha31 a30; intro a32 ha32
    refine dskipn 8 ha32 rfl rfl rfl rfl rfl (m23.to ⟨il, il, il, trivial⟩) ?_
    clear ha32 a32; intro a33 ha33
    refine dskipn 9 ha33 rfl rfl rfl rfl rfl (m23.to ⟨il, il, il, trivial⟩) ?_
    clear ha33 a33; intro a34 ha34
    refine dskipn 10 ha34 rfl rfl rfl rfl rfl (m23.to ⟨il, il, il, trivial⟩) ?_
    clear ha34 a34; intro a35 ha35
    refine dskipn 11 ha35 rfl rfl rfl rfl rfl (m23.to ⟨il, il, il, trivial⟩) ?_
    clear ha35 a35; intro a36 ha36
    refine dskipn 12 ha36 rfl rfl rfl rfl rfl (m23.to ⟨il, il, il, trivial⟩) ?_
    clear ha36 a36; intro a37 ha37
    refine dskipn 13 ha37 rfl rfl rfl rfl rfl (m23.to ⟨il, il, il, trivial⟩) ?_
    clear ha37 a37; intro a38 ha38
    refine dskipn 14 ha38 rfl rfl rfl rfl rfl (m23.to ⟨il, il, il, trivial⟩) ?_
    clear ha38 a38; intro a39 ha39
    refine dskipn 15 ha39 rfl rfl rfl rfl rfl (m23.to ⟨il, il, il, trivial⟩) ?_
    clear ha39 a39; intro a40 ha40
    refine dyn 16 ha40 rfl rfl (m23.to ⟨il, il, il, trivial⟩) (fun W => y_pickT ha40 rfl rfl) ?_
    clear ha40 a40; intro a41 ha41
    refine wpAnyE_done (by kernel_rfl) ?_ _
    refine hK8 _ _ ?_; clear hK8; try clear K8
    refine wp_cond_true (ha41.ev (x := .tmp 36) rfl) ?_
    refine wp_seq_k (fun K9 hK9 => ?_)
    have ha42 : Has 50 [(0, _), (2, _), (6, _), (12, _), (19, _), (26, _), (36, _)] a41 := ha41.only [0, 2, 6, 12, 19, 26, 36]; clear ha41
    refine wp_region_lit ?_
    refine st_y ha42 rfl (y_assign ha42 rfl) ?_
    clear ha42 a41; intro a43 ha43
    refine wpList_nil ?_
    refine hK9 _ _ ?_; clear hK9; try clear K9
    refine wp_ret ?_
    try dsimp only [Exit.then, Exit.inBlock]
    refine (ret1 (fn := Try.f63) ha43 rfl rfl ?_)
    exact ⟨ne, hi, fl, ws, 33, _, _, rfl, by rw [takeR, if_neg (by simp_all), if_neg (by assumption), if_pos (by omega)], m23.only [1, 2, 3]⟩
   ·
    clear ha30
    try simp only [Q1x, Q2x, Q3x, Q4x, Q5x, Q6x, Q7x, Q8x, Q9x, Q0x, Qax, Qbx] at hb31
    refine dygn 7 ha31 rfl rfl rfl rfl rfl (m23.to ⟨il, il, il, trivial⟩) (fun W => y_move ha31 rfl) ?_
    clear ha31 a30; intro a44 ha44
    refine dygn 8 ha44 rfl rfl rfl rfl rfl (m23.to ⟨il, il, il, trivial⟩) (fun W => y_nilCheck ha44 rfl) ?_
    clear ha44 a44; intro a45 ha45
    refine dygn 9 ha45 rfl rfl rfl rfl rfl (m23.to ⟨il, il, il, trivial⟩) (fun W => y_fieldAddr ha45 (off := 6) rfl Try.underlying34 rfl (s := 0) (by kernel_rfl) rfl) ?_
    clear ha45 a45; intro a46 ha46
    refine dhg 10 ha46 rfl rfl rfl rfl rfl (m23.to ⟨il, il, il, trivial⟩) (fun W hW => y_loadB1 ha46 hW (i := 1) rfl rfl rfl Try.underlying3 rfl) ?_
    clear ha46 a46; intro a47 ha47
    refine dygn 11 ha47 rfl rfl rfl rfl rfl (m23.to ⟨il, il, il, trivial⟩) (fun W => y_move ha47 rfl) ?_
    clear ha47 a47; intro a48 ha48
    refine dygn 12 ha48 rfl rfl rfl rfl rfl (m23.to ⟨il, il, il, trivial⟩) (fun W => y_nilCheck ha48 rfl) ?_
    clear ha48 a48; intro a49 ha49
    refine dygn 13 ha49 rfl rfl rfl rfl rfl (m23.to ⟨il, il, il, trivial⟩) (fun W => y_fieldAddr ha49 (off := 5) rfl Try.underlying34 rfl (s := 0) (by kernel_rfl) rfl) ?_
    clear ha49 a49; intro a50 ha50
    refine dhg 14 ha50 rfl rfl rfl rfl rfl (m23.to ⟨il, il, il, trivial⟩) (fun W hW => y_loadB1 ha50 hW (i := 1) rfl rfl rfl Try.underlying3 rfl) ?_
    clear ha50 a50; intro a51 ha51
    refine dygn 15 ha51 rfl rfl rfl rfl rfl (m23.to ⟨il, il, il, trivial⟩) (fun W => y_eql ha51 rfl rfl) ?_
    clear ha51 a51; intro a52 ha52
    refine dyn 16 ha52 rfl rfl (m23.to ⟨il, il, il, trivial⟩) (fun W => y_pickF ha52 rfl rfl) ?_
    clear ha52 a52; intro a53 ha53
    refine wpAnyE_done (by kernel_rfl) ?_ _
    refine hK8 _ _ ?_; clear hK8; try clear K8
    refine bool_cases ha53 (t := 36) rfl (fun hb54 ha54 => ?_) (fun hb54 ha54 => ?_)
    ·
     clear ha53
     try simp only [Q1x, Q2x, Q3x, Q4x, Q5x, Q6x, Q7x, Q8x, Q9x, Q0x, Qax, Qbx] at hb54
     refine wp_cond_true (ha54.ev (x := .tmp 36) rfl) ?_
     refine wp_seq_k (fun K10 hK10 => ?_)
     have ha55 : Has 50 [(0, _), (2, _), (6, _), (12, _), (19, _), (26, _), (36, _)] a53 := ha54.only [0, 2, 6, 12, 19, 26, 36]; clear ha54
     refine wp_region_lit ?_
     refine st_y ha55 rfl (y_assign ha55 rfl) ?_
     clear ha55 a53; intro a56 ha56
     refine wpList_nil ?_
     refine hK10 _ _ ?_; clear hK10; try clear K10
     refine wp_ret ?_
     try dsimp only [Exit.then, Exit.inBlock]
     refine (ret1 (fn := Try.f63) ha56 rfl rfl ?_)
     exact ⟨ne, hi, fl, ws, 33, _, _, rfl, by rw [takeR, if_neg (by simp_all), if_neg (by assumption), if_pos (by omega)], m23.only [1, 2, 3]⟩
    ·
     clear ha53
     try simp only [Q1x, Q2x, Q3x, Q4x, Q5x, Q6x, Q7x, Q8x, Q9x, Q0x, Qax, Qbx] at hb54
     refine wp_cond_false (ha54.ev (x := .tmp 36) rfl) ?_
     refine wp_skip ?_
     refine hK7 _ _ ?_; clear hK7; try clear K7
     refine wp_seq_k (fun K11 hK11 => ?_)
     have ha57 : Has 50 [(0, _), (2, _), (6, _), (12, _), (19, _), (26, _), (36, _)] a53 := ha54.only [0, 2, 6, 12, 19, 26, 36]; clear ha54
     refine wp_region_lit ?_
     refine st_y ha57 rfl (y_move ha57 rfl) ?_
     clear ha57 a53; intro a58 ha58
     refine st_y ha58 rfl (y_move ha58 rfl) ?_
     clear ha58 a58; intro a59 ha59
     refine wpList_plain rfl (fun K hK => ?_)
     refine e_call ha59 Try.func76 rfl rfl rfl rfl (xwrite _ _ _ _ _ _ _ _ _ _ place pins ws items _ _ _ _ _ _ _ _ _ hl hil hio (m23.into [(1, 1), (2, 2), (3, 3)] (by decide) rfl)) ?_
     rintro e w60 ⟨wx, ex, pw60, cw60, rfl, hw, hm60⟩
     have mx60 := m23.back hm60 [(1, 1), (2, 2), (3, 3)] (by decide); clear hm60 m23
     have m60 : MemOk _ _ [(1, _), (2, _), (3, _)] _ := mx60.only [1, 2, 3]; clear mx60
     refine ⟨_, rfl, fun a61 ha61 => ?_⟩; clear ha59 a59
     refine hK _ _ ?_; clear hK K
     refine st_y ha61 rfl (y_assign ha61 rfl) ?_
     clear ha61 a61; intro a62 ha62
     refine wpList_nil ?_
     refine hK11 _ _ ?_; clear hK11; try clear K11
     refine wp_seq_k (fun K12 hK12 => ?_)
     refine wp_seq_k (fun K13 hK13 => ?_)
     refine wp_region_lit ?_
     refine st_y ha62 rfl (y_move ha62 rfl) ?_
     clear ha62 a62; intro a63 ha63
     refine st_y ha63 rfl (y_eql ha63 rfl rfl) ?_
     clear ha63 a63; intro a64 ha64
     refine wpList_nil ?_
     refine hK13 _ _ ?_; clear hK13; try clear K13
     refine bool_cases ha64 (t := 41) rfl (fun hb65 ha65 => ?_) (fun hb65 ha65 => ?_)
     ·
      clear ha64
      try simp only [Q1x, Q2x, Q3x, Q4x, Q5x, Q6x, Q7x, Q8x, Q9x, Q0x, Qax, Qbx] at hb65
      refine wp_cond_true (ha65.ev (x := .tmp 41) rfl) ?_
      refine wp_region_lit ?_
      refine st_y ha65 rfl (y_move ha65 rfl) ?_
      clear ha65 a64; intro a66 ha66
      refine st_y ha66 rfl (y_nilCheck ha66 rfl) ?_
      clear ha66 a66; intro a67 ha67
      refine st_y ha67 rfl (y_fieldAddr ha67 (off := 6) rfl Try.underlying34 rfl (s := 0) (by kernel_rfl) rfl) ?_
      clear ha67 a67; intro a68 ha68
      refine st_y ha68 rfl (y_loadB1 ha68 m60 (i := 1) rfl rfl rfl Try.underlying3 rfl) ?_
      clear ha68 a68; intro a69 ha69
      refine st_y ha69 rfl (y_add ha69 rfl rfl (r := ne + 1) (IntWalk.i64_in _ (by omega))) ?_
      clear ha69 a69; intro a70 ha70
      refine st_y ha70 rfl (y_nilCheck ha70 rfl) ?_
      clear ha70 a70; intro a71 ha71
      refine st_y ha71 rfl (y_fieldAddr ha71 (off := 6) rfl Try.underlying34 rfl (s := 0) (by kernel_rfl) rfl) ?_
      clear ha71 a71; intro a72 ha72
      refine wpList_plain rfl (fun K hK => ?_)
      refine e_store1 ha72 m60 1 rfl rfl rfl rfl rfl sz3xt (by dsimp only [List.set] <;> rfl) ?_
      clear m60; intro w73 m73 hB73
      clear hB73
      refine hK _ _ ?_; clear hK K
      refine wpList_nil ?_
      refine hK12 _ _ ?_; clear hK12; try clear K12
      refine wp_seq_k (fun K14 hK14 => ?_)
      have ha74 : Has 50 [(6, _), (12, _), (19, _), (26, _), (36, _), (7, _), (41, _)] a72 := ha72.only [6, 12, 19, 26, 36, 7, 41]; clear ha72
      refine wp_region_lit ?_
      refine st_y ha74 rfl (y_move ha74 rfl) ?_
      clear ha74 a72; intro a75 ha75
      refine st_y ha75 rfl (y_assign ha75 rfl) ?_
      clear ha75 a75; intro a76 ha76
      refine wpList_nil ?_
      refine hK14 _ _ ?_; clear hK14; try clear K14
      refine wp_ret ?_
      try dsimp only [Exit.then, Exit.inBlock]
      refine (ret1 (fn := Try.f63) ha76 rfl rfl ?_)
      exact ⟨ne + 1, hi, fl, wx, 0, _, _, by simp_all, by rw [takeR, if_neg (by simp_all), if_neg (by assumption), if_neg (by omega), hw, if_pos (by assumption)], m73.only [1, 2, 3]⟩
     ·
      clear ha64
      try simp only [Q1x, Q2x, Q3x, Q4x, Q5x, Q6x, Q7x, Q8x, Q9x, Q0x, Qax, Qbx] at hb65
      refine wp_cond_false (ha65.ev (x := .tmp 41) rfl) ?_
      refine wp_skip ?_
      refine hK12 _ _ ?_; clear hK12; try clear K12
      refine wp_seq_k (fun K15 hK15 => ?_)
      have ha77 : Has 50 [(6, _), (12, _), (19, _), (26, _), (36, _), (7, _), (41, _)] a64 := ha65.only [6, 12, 19, 26, 36, 7, 41]; clear ha65
      refine wp_region_lit ?_
      refine st_y ha77 rfl (y_move ha77 rfl) ?_
      clear ha77 a64; intro a78 ha78
      refine st_y ha78 rfl (y_assign ha78 rfl) ?_
      clear ha78 a78; intro a79 ha79
      refine wpList_nil ?_
      refine hK15 _ _ ?_; clear hK15; try clear K15
      refine wp_ret ?_
      try dsimp only [Exit.then, Exit.inBlock]
      refine (ret1 (fn := Try.f63) ha79 rfl rfl ?_)
      exact ⟨ne, hi, fl, wx, ex, _, _, rfl, by rw [takeR, if_neg (by simp_all), if_neg (by assumption), if_neg (by omega), hw, if_neg (by assumption)], m60.only [1, 2, 3]⟩
theorem xpublish (X : Cx) (B : Nat) (vo bl sz pe to ne fl : Int) (hi : Bool) (place pins : List Int) (ws : List (Int × List (Int × List Int))) (pp pn pw : Option Addr) (cp cn9 cw : Nat) (w0 : World) (m0 : MemOk X w0 [(1, .box B 34 [.int .i64 vo, .int .i64 bl, .int .i64 sz, .int .i64 pe, .slice pp place.length cp, .int .i64 to, .int .i64 ne, .bool hi, .int .i64 fl, .slice pn pins.length cn9, .slice pw (ws.map wrD).length cw]), (2, .seg (.slice pw (ws.map wrD).length cw) 55 2 (ws.map wrD))] w0) :
   Calls Try.prog 64 #[.pointer (some ⟨B, 0, none⟩)] w0 fun e w' => ∃ (ne' : Int) (hi' : Bool) (fl' : Int) (ws' : List (Int × List (Int × List Int))) (e9 : Int) (pw' : Option Addr) (cw' : Nat), e = .returned (.int .i64 e9) ∧ publishR to ne fl hi ws = (ne', hi', fl', ws', e9) ∧ MemOk X w0 [(1, .box B 34 [.int .i64 vo, .int .i64 bl, .int .i64 sz, .int .i64 pe, .slice pp place.length cp, .int .i64 to, .int .i64 ne', .bool hi', .int .i64 fl', .slice pn pins.length cn9, .slice pw' (ws'.map wrD).length cw']), (2, .seg (.slice pw' (ws'.map wrD).length cw') 55 2 (ws'.map wrD))] w' := by
 refine enter (fn := Try.f64) Try.func64 rfl Try.ntmps64 rfl (fun a0 ha0 => ?_)
 simp only [List.zipIdx_cons, List.zipIdx_nil, List.map_cons, List.map_nil, Nat.reduceAdd, Nat.zero_add] at ha0
 refine wp_seq_k (fun K0 hK0 => ?_)
 refine wp_region_lit ?_
 refine st_y ha0 rfl (y_assign ha0 rfl) ?_
 clear ha0 a0; intro a1 ha1
 refine wpList_nil ?_
 refine hK0 _ _ ?_; clear hK0; try clear K0
 refine wp_seq_k (fun K1 hK1 => ?_)
 refine wp_seq_k (fun K2 hK2 => ?_)
 have m2 : MemOk _ _ [(1, _), (2, _)] _ := m0.only [1, 2]; clear m0
 refine region_m 16 (B := [(1, _), (2, _)]) (m2.to ⟨il, il, trivial⟩) m2 (by kernel_rfl) (fun w3 mB3 m3 => ?_); clear m2 mB3
 refine dyn 0 ha1 rfl rfl (m3.to ⟨il, il, trivial⟩) (fun W => y_move ha1 rfl) ?_
 clear ha1 a1; intro a4 ha4
 refine dyn 1 ha4 rfl rfl (m3.to ⟨il, il, trivial⟩) (fun W => y_nilCheck ha4 rfl) ?_
 clear ha4 a4; intro a5 ha5
 refine dyn 2 ha5 rfl rfl (m3.to ⟨il, il, trivial⟩) (fun W => y_fieldAddr ha5 (off := 7) rfl Try.underlying34 rfl (s := 0) (by kernel_rfl) rfl) ?_
 clear ha5 a5; intro a6 ha6
 refine dh 3 ha6 rfl rfl (m3.to ⟨il, il, trivial⟩) (fun W hW => y_loadB1 ha6 hW (i := 1) rfl rfl rfl Try.underlying4 rfl) ?_
 clear ha6 a6; intro a7 ha7
 refine dyn 4 ha7 rfl rfl (m3.to ⟨il, il, trivial⟩) (fun W => y_not ha7 rfl) ?_
 clear ha7 a7; intro a8 ha8
 refine dyn 5 ha8 rfl rfl (m3.to ⟨il, il, trivial⟩) (fun W => y_move ha8 rfl) ?_
 clear ha8 a8; intro a9 ha9
 refine bool_cases ha9 (t := 8) rfl (fun hb10 ha10 => ?_) (fun hb10 ha10 => ?_)
 ·
  clear ha9
  try simp only [Q1x, Q2x, Q3x, Q4x, Q5x, Q6x, Q7x, Q8x, Q9x, Q0x, Qax, Qbx] at hb10
  refine dskipn 6 ha10 rfl rfl rfl rfl rfl (m3.to ⟨il, il, trivial⟩) ?_
  clear ha10 a9; intro a11 ha11
  refine dskipn 7 ha11 rfl rfl rfl rfl rfl (m3.to ⟨il, il, trivial⟩) ?_
  clear ha11 a11; intro a12 ha12
  refine dskipn 8 ha12 rfl rfl rfl rfl rfl (m3.to ⟨il, il, trivial⟩) ?_
  clear ha12 a12; intro a13 ha13
  refine dskipn 9 ha13 rfl rfl rfl rfl rfl (m3.to ⟨il, il, trivial⟩) ?_
  clear ha13 a13; intro a14 ha14
  refine dskipn 10 ha14 rfl rfl rfl rfl rfl (m3.to ⟨il, il, trivial⟩) ?_
  clear ha14 a14; intro a15 ha15
  refine dskipn 11 ha15 rfl rfl rfl rfl rfl (m3.to ⟨il, il, trivial⟩) ?_
  clear ha15 a15; intro a16 ha16
  refine dskipn 12 ha16 rfl rfl rfl rfl rfl (m3.to ⟨il, il, trivial⟩) ?_
  clear ha16 a16; intro a17 ha17
  refine dskipn 13 ha17 rfl rfl rfl rfl rfl (m3.to ⟨il, il, trivial⟩) ?_
  clear ha17 a17; intro a18 ha18
  refine dskipn 14 ha18 rfl rfl rfl rfl rfl (m3.to ⟨il, il, trivial⟩) ?_
  clear ha18 a18; intro a19 ha19
  refine dyn 15 ha19 rfl rfl (m3.to ⟨il, il, trivial⟩) (fun W => y_pickT ha19 rfl rfl) ?_
  clear ha19 a19; intro a20 ha20
  refine wpAnyE_done (by kernel_rfl) ?_ _
  refine hK2 _ _ ?_; clear hK2; try clear K2
  refine wp_cond_true (ha20.ev (x := .tmp 18) rfl) ?_
  refine wp_seq_k (fun K3 hK3 => ?_)
  have ha21 : Has 29 [(0, _), (2, _), (8, _), (18, _)] a20 := ha20.only [0, 2, 8, 18]; clear ha20
  refine wp_region_lit ?_
  refine st_y ha21 rfl (y_assign ha21 rfl) ?_
  clear ha21 a20; intro a22 ha22
  refine wpList_nil ?_
  refine hK3 _ _ ?_; clear hK3; try clear K3
  refine wp_ret ?_
  try dsimp only [Exit.then, Exit.inBlock]
  refine (ret1 (fn := Try.f64) ha22 rfl rfl ?_)
  exact ⟨ne, hi, fl, ws, 33, _, _, rfl, by rw [publishR, if_pos (by first | (left; simp_all; done) | (right; assumption) | omega)], m3.only [1, 2]⟩
 ·
  clear ha9
  try simp only [Q1x, Q2x, Q3x, Q4x, Q5x, Q6x, Q7x, Q8x, Q9x, Q0x, Qax, Qbx] at hb10
  refine dygn 6 ha10 rfl rfl rfl rfl rfl (m3.to ⟨il, il, trivial⟩) (fun W => y_move ha10 rfl) ?_
  clear ha10 a9; intro a23 ha23
  refine dygn 7 ha23 rfl rfl rfl rfl rfl (m3.to ⟨il, il, trivial⟩) (fun W => y_nilCheck ha23 rfl) ?_
  clear ha23 a23; intro a24 ha24
  refine dygn 8 ha24 rfl rfl rfl rfl rfl (m3.to ⟨il, il, trivial⟩) (fun W => y_fieldAddr ha24 (off := 6) rfl Try.underlying34 rfl (s := 0) (by kernel_rfl) rfl) ?_
  clear ha24 a24; intro a25 ha25
  refine dhg 9 ha25 rfl rfl rfl rfl rfl (m3.to ⟨il, il, trivial⟩) (fun W hW => y_loadB1 ha25 hW (i := 1) rfl rfl rfl Try.underlying3 rfl) ?_
  clear ha25 a25; intro a26 ha26
  refine dygn 10 ha26 rfl rfl rfl rfl rfl (m3.to ⟨il, il, trivial⟩) (fun W => y_move ha26 rfl) ?_
  clear ha26 a26; intro a27 ha27
  refine dygn 11 ha27 rfl rfl rfl rfl rfl (m3.to ⟨il, il, trivial⟩) (fun W => y_nilCheck ha27 rfl) ?_
  clear ha27 a27; intro a28 ha28
  refine dygn 12 ha28 rfl rfl rfl rfl rfl (m3.to ⟨il, il, trivial⟩) (fun W => y_fieldAddr ha28 (off := 5) rfl Try.underlying34 rfl (s := 0) (by kernel_rfl) rfl) ?_
  clear ha28 a28; intro a29 ha29
  refine dhg 13 ha29 rfl rfl rfl rfl rfl (m3.to ⟨il, il, trivial⟩) (fun W hW => y_loadB1 ha29 hW (i := 1) rfl rfl rfl Try.underlying3 rfl) ?_
  clear ha29 a29; intro a30 ha30
  refine dygn 14 ha30 rfl rfl rfl rfl rfl (m3.to ⟨il, il, trivial⟩) (fun W => y_neq ha30 rfl rfl) ?_
  clear ha30 a30; intro a31 ha31
  refine dyn 15 ha31 rfl rfl (m3.to ⟨il, il, trivial⟩) (fun W => y_pickF ha31 rfl rfl) ?_
  clear ha31 a31; intro a32 ha32
  refine wpAnyE_done (by kernel_rfl) ?_ _
  refine hK2 _ _ ?_; clear hK2; try clear K2
  refine bool_cases ha32 (t := 18) rfl (fun hb33 ha33 => ?_) (fun hb33 ha33 => ?_)
  ·
   clear ha32
   try simp only [Q1x, Q2x, Q3x, Q4x, Q5x, Q6x, Q7x, Q8x, Q9x, Q0x, Qax, Qbx] at hb33
   refine wp_cond_true (ha33.ev (x := .tmp 18) rfl) ?_
   refine wp_seq_k (fun K4 hK4 => ?_)
   have ha34 : Has 29 [(0, _), (2, _), (8, _), (18, _)] a32 := ha33.only [0, 2, 8, 18]; clear ha33
   refine wp_region_lit ?_
   refine st_y ha34 rfl (y_assign ha34 rfl) ?_
   clear ha34 a32; intro a35 ha35
   refine wpList_nil ?_
   refine hK4 _ _ ?_; clear hK4; try clear K4
   refine wp_ret ?_
   try dsimp only [Exit.then, Exit.inBlock]
   refine (ret1 (fn := Try.f64) ha35 rfl rfl ?_)
   exact ⟨ne, hi, fl, ws, 33, _, _, rfl, by rw [publishR, if_pos (by first | (left; simp_all; done) | (right; assumption) | omega)], m3.only [1, 2]⟩
  ·
   clear ha32
   try simp only [Q1x, Q2x, Q3x, Q4x, Q5x, Q6x, Q7x, Q8x, Q9x, Q0x, Qax, Qbx] at hb33
   refine wp_cond_false (ha33.ev (x := .tmp 18) rfl) ?_
   refine wp_skip ?_
   refine hK1 _ _ ?_; clear hK1; try clear K1
   refine wp_seq_k (fun K5 hK5 => ?_)
   have ha36 : Has 29 [(0, _), (2, _), (8, _), (18, _)] a32 := ha33.only [0, 2, 8, 18]; clear ha33
   refine wp_region_lit ?_
   refine st_y ha36 rfl (y_move ha36 rfl) ?_
   clear ha36 a32; intro a37 ha37
   refine st_y ha37 rfl (y_move ha37 rfl) ?_
   clear ha37 a37; intro a38 ha38
   refine st_y ha38 rfl (y_move ha38 rfl) ?_
   clear ha38 a38; intro a39 ha39
   refine st_y ha39 rfl (y_nilCheck ha39 rfl) ?_
   clear ha39 a39; intro a40 ha40
   refine st_y ha40 rfl (y_loadBR ha40 m3 (i := 1) rfl rfl Try.underlying34 rfl sz34xb (by simp) (by dsimp only [List.drop, List.take] <;> rfl)) ?_
   clear ha40 a40; intro a41 ha41
   refine wpList_plain rfl (fun K hK => ?_)
   refine e_call ha41 Try.func20 rfl rfl rfl rfl (vlen_any _ _ _ _ _ _ _ _ _ _ _ _ _ _ _ _ _ _) ?_
   rintro e w42 ⟨rfl, hb42⟩
   have m43 := m3.later hb42
   clear m3
   clear hb42
   refine ⟨_, rfl, fun a44 ha44 => ?_⟩; clear ha41 a41
   refine hK _ _ ?_; clear hK K
   refine st_y ha44 rfl (y_nilCheck ha44 rfl) ?_
   clear ha44 a44; intro a45 ha45
   refine st_y ha45 rfl (y_fieldAddr ha45 (off := 7) rfl Try.underlying34 rfl (s := 0) (by kernel_rfl) rfl) ?_
   clear ha45 a45; intro a46 ha46
   refine wpList_plain rfl (fun K hK => ?_)
   refine e_store1 ha46 m43 1 rfl rfl rfl rfl rfl sz4xb (by dsimp only [List.set] <;> rfl) ?_
   clear m43; intro w47 m47 hB47
   clear hB47
   refine hK _ _ ?_; clear hK K
   refine st_y ha46 rfl (y_nilCheck ha46 rfl) ?_
   clear ha46 a46; intro a48 ha48
   refine st_y ha48 rfl (y_fieldAddr ha48 (off := 8) rfl Try.underlying34 rfl (s := 0) (by kernel_rfl) rfl) ?_
   clear ha48 a48; intro a49 ha49
   refine wpList_plain rfl (fun K hK => ?_)
   refine e_store1 ha49 m47 1 rfl rfl rfl rfl rfl sz2xb (by dsimp only [List.set] <;> rfl) ?_
   clear m47; intro w50 m50 hB50
   clear hB50
   refine hK _ _ ?_; clear hK K
   refine wpList_nil ?_
   refine hK5 _ _ ?_; clear hK5; try clear K5
   refine wp_seq_k (fun K6 hK6 => ?_)
   have ha51 : Has 29 [(2, _), (8, _), (18, _)] a49 := ha49.only [2, 8, 18]; clear ha49
   refine wp_region_lit ?_
   refine st_y ha51 rfl (y_assign ha51 rfl) ?_
   clear ha51 a49; intro a52 ha52
   refine wpList_nil ?_
   refine hK6 _ _ ?_; clear hK6; try clear K6
   refine wp_ret ?_
   try dsimp only [Exit.then, Exit.inBlock]
   refine (ret1 (fn := Try.f64) ha52 rfl rfl ?_)
   exact ⟨ne, false, ws.length, ws, 0, _, _, rfl, by rw [publishR, if_neg (by rintro (h | h) <;> simp_all)], by rw [← show (ws.map wrD).length = ws.length from List.length_map _]; exact m50.only [1, 2]⟩
theorem xdo (X : Cx) (B : Nat) (vo bl sz pe to ne fl : Int) (hi : Bool) (place pins : List Int) (ws : List (Int × List (Int × List Int))) (items : List (Int × List Int)) (pp pn pw : Option Addr) (cp cn9 cw : Nat) (pi : Option Addr) (ci : Nat) (kd v1 v2 v3 v4 v5 at0 ix : Int) (q1 : Option Addr) (n1 c1 : Nat) (w0 : World) (hk4 : kd ≠ 4) (hk5 : kd ≠ 5) (hne : -1000000000000000 ≤ ne ∧ ne ≤ 1000000000000000) (hl : ws.length ≤ 900000) (hp : pins.length ≤ 1000000) (hil : items.length ≤ 1000000) (hio : ItsOk items) (m0 : MemOk X w0 [(1, .box B 34 [.int .i64 vo, .int .i64 bl, .int .i64 sz, .int .i64 pe, .slice pp place.length cp, .int .i64 to, .int .i64 ne, .bool hi, .int .i64 fl, .slice pn pins.length cn9, .slice pw (ws.map wrD).length cw]), (2, .seg (.slice pw (ws.map wrD).length cw) 55 2 (ws.map wrD)), (3, .dat (.slice pi items.length ci) (.l 2 (items.map itD))), (4, .dat (.slice pn pins.length cn9) (.ns .i64 pins))] w0) :
   Calls Try.prog 43 #[.pointer (some ⟨B, 0, none⟩), .agg #[.int .i64 kd, .int .i64 v1, .int .i64 v2, .int .i64 v3, .int .i64 v4, .slice q1 n1 c1, .int .i64 v5, .int .i64 at0, .int .i64 ix, .slice pi items.length ci]] w0 fun e w' => ∃ (ne' : Int) (hi' : Bool) (fl' : Int) (ws' : List (Int × List (Int × List Int))) (e9 : Int) (pw' : Option Addr) (cw' : Nat), e = .returned (.int .i64 e9) ∧ doR bl sz to ne fl hi pins ws kd at0 ix items = (ne', hi', fl', ws', e9) ∧ MemOk X w0 [(1, .box B 34 [.int .i64 vo, .int .i64 bl, .int .i64 sz, .int .i64 pe, .slice pp place.length cp, .int .i64 to, .int .i64 ne', .bool hi', .int .i64 fl', .slice pn pins.length cn9, .slice pw' (ws'.map wrD).length cw']), (2, .seg (.slice pw' (ws'.map wrD).length cw') 55 2 (ws'.map wrD)), (3, .dat (.slice pi items.length ci) (.l 2 (items.map itD))), (4, .dat (.slice pn pins.length cn9) (.ns .i64 pins))] w' := by
 refine enter (fn := Try.f43) Try.func43 rfl Try.ntmps43 rfl (fun a0 ha0 => ?_)
 simp only [List.zipIdx_cons, List.zipIdx_nil, List.map_cons, List.map_nil, Nat.reduceAdd, Nat.zero_add] at ha0
 refine wp_seq_k (fun K0 hK0 => ?_)
 refine wp_region_lit ?_
 refine wpList_plain rfl (fun K hK => ?_)
 refine e_box ha0 m0 20 (cs := [_, _, _, _, _, _, _, _, _, _]) rfl rfl rfl ?_
 clear ha0 a0 m0; intro g1 a2 w2 ha2 m2 hB2 hg2
 clear hB2 hg2
 refine hK _ _ ?_; clear hK K
 refine st_y ha2 rfl (y_assign ha2 rfl) ?_
 clear ha2 a2; intro a3 ha3
 refine wpList_nil ?_
 refine hK0 _ _ ?_; clear hK0; try clear K0
 refine wp_seq_k (fun K1 hK1 => ?_)
 refine wp_seq_k (fun K2 hK2 => ?_)
 refine wp_region_lit ?_
 refine st_y ha3 rfl (y_fieldAddr ha3 (off := 0) rfl Try.underlying25 rfl (s := 0) (by kernel_rfl) rfl) ?_
 clear ha3 a3; intro a4 ha4
 refine st_y ha4 rfl (y_loadB1 ha4 m2 (i := 20) rfl rfl rfl Try.underlying3 rfl) ?_
 clear ha4 a4; intro a5 ha5
 refine wpList_nil ?_
 refine hK2 _ _ ?_; clear hK2; try clear K2
 refine wp_block ?_
 refine wp_seq_k (fun K3 hK3 => ?_)
 refine wp_region_lit ?_
 refine st_y ha5 rfl (y_eql ha5 rfl rfl) ?_
 clear ha5 a5; intro a6 ha6
 refine st_y ha6 rfl (y_assign ha6 rfl) ?_
 clear ha6 a6; intro a7 ha7
 refine wpList_nil ?_
 refine hK3 _ _ ?_; clear hK3; try clear K3
 refine bool_cases ha7 (t := 7) rfl (fun hb8 ha8 => ?_) (fun hb8 ha8 => ?_)
 ·
  clear ha7
  try simp only [Q1x, Q2x, Q3x, Q4x, Q5x, Q6x, Q7x, Q8x, Q9x, Q0x, Qax, Qbx] at hb8
  refine wp_cond_true (ha8.ev (x := .tmp 7) rfl) ?_
  refine wp_seq_k (fun K4 hK4 => ?_)
  refine wp_region_lit ?_
  refine st_y ha8 rfl (y_move ha8 rfl) ?_
  clear ha8 a7; intro a9 ha9
  refine st_y ha9 rfl (y_fieldAddr ha9 (off := 9) rfl Try.underlying25 rfl (s := 0) (by kernel_rfl) rfl) ?_
  clear ha9 a9; intro a10 ha10
  refine st_y ha10 rfl (y_loadB1 ha10 m2 (i := 20) rfl rfl rfl Try.underlying23 rfl) ?_
  clear ha10 a10; intro a11 ha11
  refine wpList_plain rfl (fun K hK => ?_)
  refine e_call ha11 Try.func59 rfl rfl rfl rfl (xput _ _ _ _ _ _ _ _ _ _ place pins ws items _ _ _ _ _ _ _ _ _ hl hil hio (m2.into [(1, 1), (2, 2), (3, 3)] (by decide) rfl)) ?_
  rintro e w12 ⟨ne1, hi1, fl1, ws1, e1, pw12, cw12, rfl, hR, hm12⟩
  have mx12 := m2.back hm12 [(1, 1), (2, 2), (3, 3)] (by decide); clear hm12 m2
  have m12 : MemOk _ _ [(1, _), (2, _), (3, _), (4, _), (20, _)] _ := mx12.only [1, 2, 3, 4, 20]; clear mx12
  refine ⟨_, rfl, fun a13 ha13 => ?_⟩; clear ha11 a11
  refine hK _ _ ?_; clear hK K
  refine st_y ha13 rfl (y_assign ha13 rfl) ?_
  clear ha13 a13; intro a14 ha14
  refine wpList_nil ?_
  refine hK4 _ _ ?_; clear hK4; try clear K4
  refine wp_ret ?_
  try dsimp only [Exit.then, Exit.inBlock]
  refine (ret1 (fn := Try.f43) ha14 rfl rfl ?_)
  exact ⟨ne1, hi1, fl1, ws1, e1, _, _, rfl, by rw [doR, if_pos (by assumption)]; exact hR, m12.only [1, 2, 3, 4]⟩
 ·
  clear ha7
  try simp only [Q1x, Q2x, Q3x, Q4x, Q5x, Q6x, Q7x, Q8x, Q9x, Q0x, Qax, Qbx] at hb8
  refine wp_cond_false (ha8.ev (x := .tmp 7) rfl) ?_
  refine wp_seq_k (fun K5 hK5 => ?_)
  refine wp_region_lit ?_
  refine st_y ha8 rfl (y_eql ha8 rfl rfl) ?_
  clear ha8 a7; intro a15 ha15
  refine st_y ha15 rfl (y_assign ha15 rfl) ?_
  clear ha15 a15; intro a16 ha16
  refine wpList_nil ?_
  refine hK5 _ _ ?_; clear hK5; try clear K5
  refine bool_cases ha16 (t := 13) rfl (fun hb17 ha17 => ?_) (fun hb17 ha17 => ?_)
  ·
   clear ha16
   try simp only [Q1x, Q2x, Q3x, Q4x, Q5x, Q6x, Q7x, Q8x, Q9x, Q0x, Qax, Qbx] at hb17
   refine wp_cond_true (ha17.ev (x := .tmp 13) rfl) ?_
   refine wp_seq_k (fun K6 hK6 => ?_)
   refine wp_region_lit ?_
   refine st_y ha17 rfl (y_move ha17 rfl) ?_
   clear ha17 a16; intro a18 ha18
   refine st_y ha18 rfl (y_fieldAddr ha18 (off := 7) rfl Try.underlying25 rfl (s := 0) (by kernel_rfl) rfl) ?_
   clear ha18 a18; intro a19 ha19
   refine st_y ha19 rfl (y_loadB1 ha19 m2 (i := 20) rfl rfl rfl Try.underlying2 rfl) ?_
   clear ha19 a19; intro a20 ha20
   refine wpList_plain rfl (fun K hK => ?_)
   refine e_call ha20 Try.func60 rfl rfl rfl rfl (xprune _ _ _ _ _ _ _ _ _ _ place pins ws _ _ _ _ _ _ _ _ hp (m2.into [(1, 1), (2, 2), (4, 4)] (by decide) rfl)) ?_
   rintro e w21 ⟨ne1, hi1, fl1, ws1, e1, pw21, cw21, rfl, hR, hm21⟩
   have mx21 := m2.back hm21 [(1, 1), (2, 2), (4, 4)] (by decide); clear hm21 m2
   have m21 : MemOk _ _ [(1, _), (2, _), (4, _), (3, _), (20, _)] _ := mx21.only [1, 2, 4, 3, 20]; clear mx21
   refine ⟨_, rfl, fun a22 ha22 => ?_⟩; clear ha20 a20
   refine hK _ _ ?_; clear hK K
   refine st_y ha22 rfl (y_assign ha22 rfl) ?_
   clear ha22 a22; intro a23 ha23
   refine wpList_nil ?_
   refine hK6 _ _ ?_; clear hK6; try clear K6
   refine wp_ret ?_
   try dsimp only [Exit.then, Exit.inBlock]
   refine (ret1 (fn := Try.f43) ha23 rfl rfl ?_)
   exact ⟨ne1, hi1, fl1, ws1, e1, _, _, rfl, by rw [doR, if_neg (by omega), if_pos (by assumption)]; exact hR, m21.only [1, 2, 3, 4]⟩
  ·
   clear ha16
   try simp only [Q1x, Q2x, Q3x, Q4x, Q5x, Q6x, Q7x, Q8x, Q9x, Q0x, Qax, Qbx] at hb17
   refine wp_cond_false (ha17.ev (x := .tmp 13) rfl) ?_
   refine wp_seq_k (fun K7 hK7 => ?_)
   refine wp_region_lit ?_
   refine st_y ha17 rfl (y_eql ha17 rfl rfl) ?_
   clear ha17 a16; intro a24 ha24
   refine st_y ha24 rfl (y_assign ha24 rfl) ?_
   clear ha24 a24; intro a25 ha25
   refine wpList_nil ?_
   refine hK7 _ _ ?_; clear hK7; try clear K7
   refine bool_cases ha25 (t := 19) rfl (fun hb26 ha26 => ?_) (fun hb26 ha26 => ?_)
   · exact absurd hb26 (by simp; omega)
   clear ha25 hb26
   refine wp_cond_false (ha26.ev (x := .tmp 19) rfl) ?_
   refine wp_seq_k (fun K8 hK8 => ?_)
   have ha27 : Has 45 [(0, _), (3, _), (4, _), (6, _), (7, _), (13, _)] a25 := ha26.only [0, 3, 4, 6, 7, 13]; clear ha26
   refine wp_region_lit ?_
   refine st_y ha27 rfl (y_eql ha27 rfl rfl) ?_
   clear ha27 a25; intro a28 ha28
   refine st_y ha28 rfl (y_assign ha28 rfl) ?_
   clear ha28 a28; intro a29 ha29
   refine wpList_nil ?_
   refine hK8 _ _ ?_; clear hK8; try clear K8
   refine bool_cases ha29 (t := 25) rfl (fun hb30 ha30 => ?_) (fun hb30 ha30 => ?_)
   · exact absurd hb30 (by simp; omega)
   clear ha29 hb30
   refine wp_cond_false (ha30.ev (x := .tmp 25) rfl) ?_
   refine wp_seq_k (fun K9 hK9 => ?_)
   refine wp_region_lit ?_
   refine st_y ha30 rfl (y_eql ha30 rfl rfl) ?_
   clear ha30 a29; intro a31 ha31
   refine st_y ha31 rfl (y_assign ha31 rfl) ?_
   clear ha31 a31; intro a32 ha32
   refine wpList_nil ?_
   refine hK9 _ _ ?_; clear hK9; try clear K9
   refine bool_cases ha32 (t := 31) rfl (fun hb33 ha33 => ?_) (fun hb33 ha33 => ?_)
   ·
    clear ha32
    try simp only [Q1x, Q2x, Q3x, Q4x, Q5x, Q6x, Q7x, Q8x, Q9x, Q0x, Qax, Qbx] at hb33
    refine wp_cond_true (ha33.ev (x := .tmp 31) rfl) ?_
    refine wp_seq_k (fun K10 hK10 => ?_)
    refine wp_region_lit ?_
    refine st_y ha33 rfl (y_move ha33 rfl) ?_
    clear ha33 a32; intro a34 ha34
    refine st_y ha34 rfl (y_fieldAddr ha34 (off := 8) rfl Try.underlying25 rfl (s := 0) (by kernel_rfl) rfl) ?_
    clear ha34 a34; intro a35 ha35
    refine st_y ha35 rfl (y_loadB1 ha35 m2 (i := 20) rfl rfl rfl Try.underlying3 rfl) ?_
    clear ha35 a35; intro a36 ha36
    refine st_y ha36 rfl (y_fieldAddr ha36 (off := 9) rfl Try.underlying25 rfl (s := 0) (by kernel_rfl) rfl) ?_
    clear ha36 a36; intro a37 ha37
    refine st_y ha37 rfl (y_loadB1 ha37 m2 (i := 20) rfl rfl rfl Try.underlying23 rfl) ?_
    clear ha37 a37; intro a38 ha38
    refine wpList_plain rfl (fun K hK => ?_)
    refine e_call ha38 Try.func63 rfl rfl rfl rfl (xtake _ _ _ _ _ _ _ _ _ _ place pins ws items _ _ _ _ _ _ _ _ _ _ hne hl hil hio (m2.into [(1, 1), (2, 2), (3, 3)] (by decide) rfl)) ?_
    rintro e w39 ⟨ne1, hi1, fl1, ws1, e1, pw39, cw39, rfl, hR, hm39⟩
    have mx39 := m2.back hm39 [(1, 1), (2, 2), (3, 3)] (by decide); clear hm39 m2
    have m39 : MemOk _ _ [(1, _), (2, _), (3, _), (4, _), (20, _)] _ := mx39.only [1, 2, 3, 4, 20]; clear mx39
    refine ⟨_, rfl, fun a40 ha40 => ?_⟩; clear ha38 a38
    refine hK _ _ ?_; clear hK K
    refine st_y ha40 rfl (y_assign ha40 rfl) ?_
    clear ha40 a40; intro a41 ha41
    refine wpList_nil ?_
    refine hK10 _ _ ?_; clear hK10; try clear K10
    refine wp_ret ?_
    try dsimp only [Exit.then, Exit.inBlock]
    refine (ret1 (fn := Try.f43) ha41 rfl rfl ?_)
    exact ⟨ne1, hi1, fl1, ws1, e1, _, _, rfl, by rw [doR, if_neg (by omega), if_neg (by omega), if_pos (by assumption)]; exact hR, m39.only [1, 2, 3, 4]⟩
   ·
    clear ha32
    try simp only [Q1x, Q2x, Q3x, Q4x, Q5x, Q6x, Q7x, Q8x, Q9x, Q0x, Qax, Qbx] at hb33
    refine wp_cond_false (ha33.ev (x := .tmp 31) rfl) ?_
    refine wp_seq_k (fun K11 hK11 => ?_)
    refine wp_region_lit ?_
    refine st_y ha33 rfl (y_eql ha33 rfl rfl) ?_
    clear ha33 a32; intro a42 ha42
    refine st_y ha42 rfl (y_assign ha42 rfl) ?_
    clear ha42 a42; intro a43 ha43
    refine wpList_nil ?_
    refine hK11 _ _ ?_; clear hK11; try clear K11
    refine bool_cases ha43 (t := 39) rfl (fun hb44 ha44 => ?_) (fun hb44 ha44 => ?_)
    ·
     clear ha43
     try simp only [Q1x, Q2x, Q3x, Q4x, Q5x, Q6x, Q7x, Q8x, Q9x, Q0x, Qax, Qbx] at hb44
     refine wp_cond_true (ha44.ev (x := .tmp 39) rfl) ?_
     refine wp_seq_k (fun K12 hK12 => ?_)
     refine wp_region_lit ?_
     refine st_y ha44 rfl (y_move ha44 rfl) ?_
     clear ha44 a43; intro a45 ha45
     refine wpList_plain rfl (fun K hK => ?_)
     refine e_call ha45 Try.func64 rfl rfl rfl rfl (xpublish _ _ _ _ _ _ _ _ _ _ place pins ws _ _ _ _ _ _ _ (m2.into [(1, 1), (2, 2)] (by decide) rfl)) ?_
     rintro e w46 ⟨ne1, hi1, fl1, ws1, e1, pw46, cw46, rfl, hR, hm46⟩
     have mx46 := m2.back hm46 [(1, 1), (2, 2)] (by decide); clear hm46 m2
     have m46 : MemOk _ _ [(1, _), (2, _), (3, _), (4, _), (20, _)] _ := mx46.only [1, 2, 3, 4, 20]; clear mx46
     refine ⟨_, rfl, fun a47 ha47 => ?_⟩; clear ha45 a45
     refine hK _ _ ?_; clear hK K
     refine st_y ha47 rfl (y_assign ha47 rfl) ?_
     clear ha47 a47; intro a48 ha48
     refine wpList_nil ?_
     refine hK12 _ _ ?_; clear hK12; try clear K12
     refine wp_ret ?_
     try dsimp only [Exit.then, Exit.inBlock]
     refine (ret1 (fn := Try.f43) ha48 rfl rfl ?_)
     exact ⟨ne1, hi1, fl1, ws1, e1, _, _, rfl, by rw [doR, if_neg (by omega), if_neg (by omega), if_neg (by omega), if_pos (by assumption)]; exact hR, m46.only [1, 2, 3, 4]⟩
    ·
     clear ha43
     try simp only [Q1x, Q2x, Q3x, Q4x, Q5x, Q6x, Q7x, Q8x, Q9x, Q0x, Qax, Qbx] at hb44
     refine wp_cond_false (ha44.ev (x := .tmp 39) rfl) ?_
     refine wp_seq_k (fun K13 hK13 => ?_)
     have ha49 : Has 45 [(4, _), (6, _), (7, _), (13, _), (31, _), (39, _)] a43 := ha44.only [4, 6, 7, 13, 31, 39]; clear ha44
     refine wp_region_lit ?_
     refine st_y ha49 rfl (y_eql ha49 rfl rfl) ?_
     clear ha49 a43; intro a50 ha50
     refine st_y ha50 rfl (y_assign ha50 rfl) ?_
     clear ha50 a50; intro a51 ha51
     refine wpList_nil ?_
     refine hK13 _ _ ?_; clear hK13; try clear K13
     refine bool_cases ha51 (t := 43) rfl (fun hb52 ha52 => ?_) (fun hb52 ha52 => ?_)
     ·
      clear ha51
      try simp only [Q1x, Q2x, Q3x, Q4x, Q5x, Q6x, Q7x, Q8x, Q9x, Q0x, Qax, Qbx] at hb52
      refine wp_cond_true (ha52.ev (x := .tmp 43) rfl) ?_
      refine wp_seq_k (fun K14 hK14 => ?_)
      refine wp_region_lit ?_
      refine st_y ha52 rfl (y_assign ha52 rfl) ?_
      clear ha52 a51; intro a53 ha53
      refine wpList_nil ?_
      refine hK14 _ _ ?_; clear hK14; try clear K14
      refine wp_ret ?_
      try dsimp only [Exit.then, Exit.inBlock]
      refine (ret1 (fn := Try.f43) ha53 rfl rfl ?_)
      exact ⟨ne, hi, fl, ws, 0, _, _, rfl, by rw [doR, if_neg (by omega), if_neg (by omega), if_neg (by omega), if_neg (by omega), if_pos (by assumption)], m2.only [1, 2, 3, 4]⟩
     ·
      clear ha51
      try simp only [Q1x, Q2x, Q3x, Q4x, Q5x, Q6x, Q7x, Q8x, Q9x, Q0x, Qax, Qbx] at hb52
      refine wp_cond_false (ha52.ev (x := .tmp 43) rfl) ?_
      refine wp_skip ?_
      refine hK1 _ _ ?_; clear hK1; try clear K1
      refine wp_seq_k (fun K15 hK15 => ?_)
      refine wp_region_lit ?_
      refine st_y ha52 rfl (y_assign ha52 rfl) ?_
      clear ha52 a51; intro a54 ha54
      refine wpList_nil ?_
      refine hK15 _ _ ?_; clear hK15; try clear K15
      refine wp_ret ?_
      try dsimp only [Exit.then, Exit.inBlock]
      refine (ret1 (fn := Try.f43) ha54 rfl rfl ?_)
      exact ⟨ne, hi, fl, ws, 23, _, _, rfl, by rw [doR, if_neg (by omega), if_neg (by omega), if_neg (by omega), if_neg (by omega), if_neg (by omega)], m2.only [1, 2, 3, 4]⟩
theorem xDo (X : Cx) (vo bl sz pe to ne fl : Int) (hi : Bool) (place pins : List Int) (ws : List (Int × List (Int × List Int))) (items : List (Int × List Int)) (pp pn pw : Option Addr) (cp cn9 cw : Nat) (pi : Option Addr) (ci : Nat) (kd v1 v2 v3 v4 v5 at0 ix : Int) (q1 : Option Addr) (n1 c1 : Nat) (w0 : World) (hn : place.length ≤ 1000000) (hk4 : kd ≠ 4) (hk5 : kd ≠ 5) (hne : -1000000000000000 ≤ ne ∧ ne ≤ 1000000000000000) (hl : ws.length ≤ 900000) (hp : pins.length ≤ 1000000) (hil : items.length ≤ 1000000) (hio : ItsOk items) (hok : WrsOk ws) (m0 : MemOk X w0 [(1, .dat (.slice pp place.length cp) (.ns .i64 place)), (2, .dat (.slice pn pins.length cn9) (.ns .i64 pins)), (3, .dat (.slice pw (ws.map wrD).length cw) (.l 2 (ws.map wrD))), (4, .dat (.slice pi items.length ci) (.l 2 (items.map itD)))] w0) :
   Calls Try.prog 16 #[.agg #[.int .i64 vo, .int .i64 bl, .int .i64 sz, .int .i64 pe, .slice pp place.length cp, .int .i64 to, .int .i64 ne, .bool hi, .int .i64 fl, .slice pn pins.length cn9, .slice pw (ws.map wrD).length cw], .agg #[.int .i64 kd, .int .i64 v1, .int .i64 v2, .int .i64 v3, .int .i64 v4, .slice q1 n1 c1, .int .i64 v5, .int .i64 at0, .int .i64 ix, .slice pi items.length ci]] w0 fun e w' => ∃ (ne' : Int) (hi' : Bool) (fl' : Int) (ws' : List (Int × List (Int × List Int))) (e9 rl rf rn : Int) (p1' : Option Addr) (d1' : Nat) (p2' : Option Addr) (d2' : Nat) (p3' : Option Addr) (d3' : Nat), e = .returned (.tuple #[.agg #[.int .i64 vo, .int .i64 bl, .int .i64 sz, .int .i64 pe, .slice p1' place.length d1', .int .i64 to, .int .i64 ne', .bool hi', .int .i64 fl', .slice p2' pins.length d2', .slice p3' (ws'.map wrD).length d3'], .agg #[.int .i64 e9, .int .i64 rl, .int .i64 rf, .int .i64 rn, .slice none 0 0]]) ∧ doR bl sz to ne fl hi pins ws kd at0 ix items = (ne', hi', fl', ws', e9) ∧ ((e9 ≠ 0 ∧ rl = 0 ∧ rf = 0 ∧ rn = 0) ∨ (e9 = 0 ∧ rl = ws'.length ∧ rf = fl' ∧ rn = ne')) ∧ MemOk X w0 [(1, .dat (.slice pp place.length cp) (.ns .i64 place)), (2, .dat (.slice pn pins.length cn9) (.ns .i64 pins)), (3, .dat (.slice pw (ws.map wrD).length cw) (.l 2 (ws.map wrD))), (4, .dat (.slice pi items.length ci) (.l 2 (items.map itD))), (5, .dat (.slice p1' place.length d1') (.ns .i64 place)), (6, .dat (.slice p2' pins.length d2') (.ns .i64 pins)), (7, .seg (.slice p3' (ws'.map wrD).length d3') 55 2 (ws'.map wrD))] w' := by
 refine enter (fn := Try.f16) Try.func16 rfl Try.ntmps16 rfl (fun a0 ha0 => ?_)
 simp only [List.zipIdx_cons, List.zipIdx_nil, List.map_cons, List.map_nil, Nat.reduceAdd, Nat.zero_add] at ha0
 refine wp_seq_k (fun K0 hK0 => ?_)
 refine wp_region_lit ?_
 refine wpList_plain rfl (fun K hK => ?_)
 refine e_box ha0 m0 20 (cs := [_, _, _, _, _, _, _, _, _, _, _]) rfl rfl rfl ?_
 clear ha0 a0 m0; intro g1 a2 w2 ha2 m2 hB2 hg2
 clear hB2 hg2
 refine hK _ _ ?_; clear hK K
 refine wpList_plain rfl (fun K hK => ?_)
 refine e_box ha2 m2 21 (cs := [_, _, _, _, _, _, _, _, _, _]) rfl rfl rfl ?_
 clear ha2 a2 m2; intro g3 a4 w4 ha4 m4 hB4 hg4
 clear hB4 hg4
 refine hK _ _ ?_; clear hK K
 refine wpList_plain rfl (fun K hK => ?_)
 refine e_alloc ha4 m4 22 zc34xD rfl ?_
 clear ha4 a4 m4; intro g5 a6 w6 ha6 m6 hB6 hg6
 clear hB6 hg6
 refine hK _ _ ?_; clear hK K
 refine wpList_plain rfl (fun K hK => ?_)
 refine e_alloc ha6 m6 23 zc45xD rfl ?_
 clear ha6 a6 m6; intro g7 a8 w8 ha8 m8 hB8 hg8
 clear hB8 hg8
 refine hK _ _ ?_; clear hK K
 refine wpList_nil ?_
 refine hK0 _ _ ?_; clear hK0; try clear K0
 refine wp_seq_k (fun K1 hK1 => ?_)
 refine wp_region_lit ?_
 refine st_y ha8 rfl (y_loadBR ha8 m8 (i := 20) rfl rfl Try.underlying34 rfl sz34xD (by simp) (by dsimp only [List.drop, List.take] <;> rfl)) ?_
 clear ha8 a8; intro a9 ha9
 refine wpList_plain rfl (fun K hK => ?_)
 refine e_call ha9 Try.func42 rfl rfl rfl rfl (volcopy_fr _ _ _ _ _ _ _ _ _ place pins ws _ _ _ _ _ _ _ hn hp (by omega) hok (m8.into [(1, 1), (2, 2), (3, 3)] (by decide) rfl)) ?_
 rintro e w10 ⟨p110, c110, p210, c210, p310, c310, rfl, hm10⟩
 have mx10 := m8.back hm10 [(1, 1), (2, 2), (3, 3), (24, 4), (25, 5), (26, 6)] (by decide); clear hm10 m8
 have m10 : MemOk _ _ [(1, _), (2, _), (3, _), (24, _), (25, _), (26, _), (4, _), (20, _), (21, _), (22, _), (23, _)] _ := mx10.only [1, 2, 3, 24, 25, 26, 4, 20, 21, 22, 23]; clear mx10
 refine ⟨_, rfl, fun a11 ha11 => ?_⟩; clear ha9 a9
 refine hK _ _ ?_; clear hK K
 refine wpList_plain rfl (fun K hK => ?_)
 refine e_storeW ha11 m10 20 rfl rfl rfl rfl rfl sz34xD ?_
 clear m10; intro w12 m12 hB12
 clear hB12
 refine hK _ _ ?_; clear hK K
 refine wpList_nil ?_
 refine hK1 _ _ ?_; clear hK1; try clear K1
 refine wp_seq_k (fun K2 hK2 => ?_)
 refine wp_seq_k (fun K3 hK3 => ?_)
 refine wp_region_lit ?_
 refine st_y ha11 rfl (y_loadBR ha11 m12 (i := 21) rfl rfl Try.underlying25 rfl sz25xD (by simp) (by dsimp only [List.drop, List.take] <;> rfl)) ?_
 clear ha11 a11; intro a13 ha13
 refine wpList_plain rfl (fun K hK => ?_)
 refine e_call ha13 Try.func43 rfl rfl rfl rfl (xdo _ _ _ _ _ _ _ _ _ _ place pins ws items _ _ _ _ _ _ _ _ kd _ _ _ _ _ _ _ _ _ _ _ hk4 hk5 hne hl hp hil hio (m12.into [(1, 20), (2, 26), (3, 4), (4, 25)] (by decide) rfl)) ?_
 rintro e w14 ⟨ne1, hi1, fl1, ws1, e1, pw14, cw14, rfl, hR, hm14⟩
 have mx14 := m12.back hm14 [(20, 1), (26, 2), (4, 3), (25, 4)] (by decide); clear hm14 m12
 have m14 : MemOk _ _ [(20, _), (26, _), (4, _), (25, _), (1, _), (2, _), (3, _), (21, _), (22, _), (23, _), (24, _)] _ := mx14.only [20, 26, 4, 25, 1, 2, 3, 21, 22, 23, 24]; clear mx14
 refine ⟨_, rfl, fun a15 ha15 => ?_⟩; clear ha13 a13
 refine hK _ _ ?_; clear hK K
 refine st_y ha15 rfl (y_assign ha15 rfl) ?_
 clear ha15 a15; intro a16 ha16
 refine wpList_nil ?_
 refine hK3 _ _ ?_; clear hK3; try clear K3
 refine wp_seq_k (fun K4 hK4 => ?_)
 have ha17 : Has 24 [(2, _), (4, _), (5, _), (6, _)] a16 := ha16.only [2, 4, 5, 6]; clear ha16
 refine wp_region_lit ?_
 refine st_y ha17 rfl (y_move ha17 rfl) ?_
 clear ha17 a16; intro a18 ha18
 refine st_y ha18 rfl (y_neq ha18 rfl rfl) ?_
 clear ha18 a18; intro a19 ha19
 refine wpList_nil ?_
 refine hK4 _ _ ?_; clear hK4; try clear K4
 refine bool_cases ha19 (t := 12) rfl (fun hb20 ha20 => ?_) (fun hb20 ha20 => ?_)
 ·
  clear ha19
  try simp only [Q1x, Q2x, Q3x, Q4x, Q5x, Q6x, Q7x, Q8x, Q9x, Q0x, Qax, Qbx] at hb20
  refine wp_cond_true (ha20.ev (x := .tmp 12) rfl) ?_
  refine wp_seq_k (fun K5 hK5 => ?_)
  refine wp_region_lit ?_
  refine st_y ha20 rfl (y_loadBR ha20 m14 (i := 20) rfl rfl Try.underlying34 rfl sz34xD (by simp) (by dsimp only [List.drop, List.take] <;> rfl)) ?_
  clear ha20 a19; intro a21 ha21
  refine st_y ha21 rfl (y_move ha21 rfl) ?_
  clear ha21 a21; intro a22 ha22
  refine st_y ha22 rfl (y_build ha22 rfl zc45xD fl45xD rfl (by dsimp only [setL, List.set] <;> rfl)) ?_
  clear ha22 a22; intro a23 ha23
  refine wpList_plain rfl (fun K hK => ?_)
  refine e_storeW ha23 m14 22 rfl rfl rfl rfl rfl sz34xD ?_
  clear m14; intro w24 m24 hB24
  clear hB24
  refine hK _ _ ?_; clear hK K
  refine wpList_plain rfl (fun K hK => ?_)
  refine e_storeW ha23 m24 23 rfl rfl rfl rfl rfl sz45xD ?_
  clear m24; intro w25 m25 hB25
  clear hB25
  refine hK _ _ ?_; clear hK K
  refine wpList_nil ?_
  refine hK5 _ _ ?_; clear hK5; try clear K5
  refine wp_ret ?_
  try dsimp only [Exit.then, Exit.inBlock]
  refine (retCC (fn := Try.f16) ha23 m25 (i := 22) (i2 := 23) rfl rfl rfl rfl rfl Try.underlying34 rfl sz34xD Try.underlying45 rfl sz45xD ?_)
  exact ⟨ne1, hi1, fl1, ws1, e1, 0, 0, 0, _, _, _, _, _, _, rfl, hR, .inl ⟨by assumption, rfl, rfl, rfl⟩, m25.ren [(1, 1), (2, 2), (3, 3), (4, 4), (5, 24), (6, 25), (7, 26)] (by decide)⟩
 ·
  clear ha19
  try simp only [Q1x, Q2x, Q3x, Q4x, Q5x, Q6x, Q7x, Q8x, Q9x, Q0x, Qax, Qbx] at hb20
  refine wp_cond_false (ha20.ev (x := .tmp 12) rfl) ?_
  refine wp_skip ?_
  refine hK2 _ _ ?_; clear hK2; try clear K2
  refine wp_seq_k (fun K6 hK6 => ?_)
  have m26 : MemOk _ _ [(1, _), (2, _), (3, _), (4, _), (20, _), (21, _), (22, _), (23, _), (24, _), (25, _), (26, _)] _ := m14.only [1, 2, 3, 4, 20, 21, 22, 23, 24, 25, 26]; clear m14
  refine region_m 10 (B := [(20, _)]) (m26.to ⟨il, trivial⟩) m26 (by kernel_rfl) (fun w27 mB27 m27 => ?_); clear m26 mB27
  refine dh 0 ha20 rfl rfl (m27.to ⟨il, trivial⟩) (fun W hW => y_loadBR ha20 hW (i := 20) rfl rfl Try.underlying34 rfl sz34xD (by simp) (by dsimp only [List.drop, List.take] <;> rfl)) ?_
  clear ha20 a19; intro a28 ha28
  refine dh 1 ha28 rfl rfl (m27.to ⟨il, trivial⟩) (fun W hW => y_loadBR ha28 hW (i := 20) rfl rfl Try.underlying34 rfl sz34xD (by simp) (by dsimp only [List.drop, List.take] <;> rfl)) ?_
  clear ha28 a28; intro a29 ha29
  refine dyn 3 ha29 rfl rfl (m27.to ⟨il, trivial⟩) (fun W => y_fieldAddr ha29 (off := 8) rfl Try.underlying34 rfl (s := 0) (by kernel_rfl) rfl) ?_
  clear ha29 a29; intro a30 ha30
  refine dh 4 ha30 rfl rfl (m27.to ⟨il, trivial⟩) (fun W hW => y_loadB1 ha30 hW (i := 20) rfl rfl rfl Try.underlying2 rfl) ?_
  clear ha30 a30; intro a31 ha31
  refine dyn 5 ha31 rfl rfl (m27.to ⟨il, trivial⟩) (fun W => y_fieldAddr ha31 (off := 6) rfl Try.underlying34 rfl (s := 0) (by kernel_rfl) rfl) ?_
  clear ha31 a31; intro a32 ha32
  refine dh 6 ha32 rfl rfl (m27.to ⟨il, trivial⟩) (fun W hW => y_loadB1 ha32 hW (i := 20) rfl rfl rfl Try.underlying3 rfl) ?_
  clear ha32 a32; intro a33 ha33
  refine stepE_only 2 rfl (by kernel_rfl) rfl (fun K hK => ?_)
  refine e_call ha33 Try.func20 rfl rfl rfl rfl (vlen_any _ _ _ _ _ _ _ _ _ _ _ _ _ _ _ _ _ _) ?_
  rintro e w34 ⟨rfl, hb34⟩
  have m35 := m27.later hb34
  clear m27
  clear hb34
  refine ⟨_, rfl, fun a36 ha36 => ?_⟩; clear ha33 a33
  refine hK _ _ (m35.to ⟨il, trivial⟩) ?_; clear hK K
  refine dyn 7 ha36 rfl rfl (m35.to ⟨il, trivial⟩) (fun W => y_build ha36 rfl zc45xD fl45xD rfl (by dsimp only [setL, List.set] <;> rfl)) ?_
  clear ha36 a36; intro a37 ha37
  refine stepE_only 8 rfl (by kernel_rfl) rfl (fun K hK => ?_)
  refine e_storeW ha37 m35 22 rfl rfl rfl rfl rfl sz34xD ?_
  clear m35; intro w38 m38 hB38
  clear hB38
  refine hK _ _ (m38.to ⟨il, trivial⟩) ?_; clear hK K
  refine stepE_only 9 rfl (by kernel_rfl) rfl (fun K hK => ?_)
  refine e_storeW ha37 m38 23 rfl rfl rfl rfl rfl sz45xD ?_
  clear m38; intro w39 m39 hB39
  clear hB39
  refine hK _ _ (m39.to ⟨il, trivial⟩) ?_; clear hK K
  refine wpAnyE_done (by kernel_rfl) ?_ _
  refine hK6 _ _ ?_; clear hK6; try clear K6
  refine wp_ret ?_
  try dsimp only [Exit.then, Exit.inBlock]
  refine (retCC (fn := Try.f16) ha37 m39 (i := 22) (i2 := 23) rfl rfl rfl rfl rfl Try.underlying34 rfl sz34xD Try.underlying45 rfl sz45xD ?_)
  obtain rfl : e1 = 0 := by first | assumption | (simp_all; done) | omega
  exact ⟨ne1, hi1, fl1, ws1, 0, ws1.length, fl1, ne1, _, _, _, _, _, _, by rw [List.length_map], hR, .inr ⟨rfl, rfl, rfl, rfl⟩, m39.ren [(1, 1), (2, 2), (3, 3), (4, 4), (5, 24), (6, 25), (7, 26)] (by decide)⟩
end Go.Proofs.Ytocfbocdnklllaa.K
