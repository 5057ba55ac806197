/- volume: what a call does. -/
import Derived.Test.YtocfbocdnklllaaGreatVol11
namespace Go.Proofs.YtocfbocdnklllaaGreat.K
open Go.ChangeShapes Go.WideShapes Go.ChangeAt Go.RowKit
set_option linter.unusedVariables false
set_option linter.unusedSimpArgs false

theorem fl58xw : flatS Tryz.prog 58 [.int .i64 0, .slice none 0 0] = true := by kernel_rfl
theorem inf58xw : (Tryz.prog.info? 58).map (fun i => (i.zero, i.size, i.bytes)) = some (some (.agg #[.int .i64 0, .slice none 0 0]), 2, 32) := by kernel_rfl
theorem sz26xw : (Tryz.prog.info? 26).map (·.size) = some 1 := by kernel_rfl
theorem sz28xw : (Tryz.prog.info? 28).map (·.size) = some 11 := by kernel_rfl
theorem zc58xw : ((Tryz.prog.info? 58).bind (·.zero)).map (·.cells.toList) = some [.int .i64 0, .slice none 0 0] := by kernel_rfl


theorem sz2xq : (Tryz.prog.info? 2).map (·.size) = some 1 := by kernel_rfl
theorem sz28xq : (Tryz.prog.info? 28).map (·.size) = some 11 := by kernel_rfl
theorem sz3xt : (Tryz.prog.info? 3).map (·.size) = some 1 := by kernel_rfl
theorem sz2xb : (Tryz.prog.info? 2).map (·.size) = some 1 := by kernel_rfl
theorem sz4xb : (Tryz.prog.info? 4).map (·.size) = some 1 := by kernel_rfl
theorem sz28xb : (Tryz.prog.info? 28).map (·.size) = some 11 := by kernel_rfl

theorem fl45xD : flatS Tryz.prog 45 [.int .i64 0, .int .i64 0, .int .i64 0, .int .i64 0, .slice none 0 0] = true := by kernel_rfl
theorem sz28xD : (Tryz.prog.info? 28).map (·.size) = some 11 := by kernel_rfl
theorem sz45xD : (Tryz.prog.info? 45).map (·.size) = some 5 := by kernel_rfl
theorem sz50xD : (Tryz.prog.info? 50).map (·.size) = some 10 := by kernel_rfl
theorem zc28xD : ((Tryz.prog.info? 28).bind (·.zero)).map (·.cells.toList) = some [.int .i64 0, .int .i64 0, .int .i64 0, .int .i64 0, .slice none 0 0, .int .i64 0, .int .i64 0, .bool false, .int .i64 0, .slice none 0 0, .slice none 0 0] := by kernel_rfl
theorem zc45xD : ((Tryz.prog.info? 45).bind (·.zero)).map (·.cells.toList) = some [.int .i64 0, .int .i64 0, .int .i64 0, .int .i64 0, .slice none 0 0] := by kernel_rfl

open Classical in
noncomputable def wrR (bl sz : Int) (ws : List (Int × List (Int × List Int))) (it : List (Int × List Int)) : List (Int × List (Int × List Int)) × Int := if ItemsR bl sz it then (ws ++ [((ws.length : Int) + 1, it)], 0) else (ws, 23)
abbrev VolO := Int × Bool × Int × List (Int × List (Int × List Int)) × Int
noncomputable def putR (bl sz ne fl : Int) (hi : Bool) (ws : List (Int × List (Int × List Int))) (it : List (Int × List Int)) : VolO := if hi = true then (ne, hi, fl, ws, 28) else (ne, hi, fl, (wrR bl sz ws it).1, (wrR bl sz ws it).2)
def reachR (hi : Bool) (fl at0 nd : Int) : Int := if hi = true then 28 else if at0 < fl then 30 else if nd < at0 then 31 else 0
def pruneR (ne fl : Int) (hi : Bool) (pins : List Int) (ws : List (Int × List (Int × List Int))) (at0 : Int) : VolO := if reachR hi fl at0 (lowL ws.length pins) = 0 then (ne, hi, at0, ws, 0) else (ne, hi, fl, ws, reachR hi fl at0 (lowL ws.length pins))
noncomputable def takeR (bl sz to ne fl : Int) (hi : Bool) (ws : List (Int × List (Int × List Int))) (ix : Int) (it : List (Int × List Int)) : VolO :=
 if hi = false then (ne, hi, fl, ws, 33) else if 0 ≤ ix ∧ ix ≤ ne - 1 then (ne, hi, fl, ws, 0) else if ix ≠ ne ∨ ne = to then (ne, hi, fl, ws, 33)
 else if (wrR bl sz ws it).2 = 0 then (ne + 1, hi, fl, (wrR bl sz ws it).1, 0) else (ne, hi, fl, (wrR bl sz ws it).1, (wrR bl sz ws it).2)
def publishR (to ne fl : Int) (hi : Bool) (ws : List (Int × List (Int × List Int))) : VolO := if hi = false ∨ ne ≠ to then (ne, hi, fl, ws, 33) else (ne, false, (ws.length : Int), ws, 0)
noncomputable def doR (bl sz to ne fl : Int) (hi : Bool) (pins : List Int) (ws : List (Int × List (Int × List Int))) (kd at0 ix : Int) (it : List (Int × List Int)) : VolO :=
 if kd = 2 then putR bl sz ne fl hi ws it else if kd = 3 then pruneR ne fl hi pins ws at0 else if kd = 6 then takeR bl sz to ne fl hi ws ix it
 else if kd = 7 then publishR to ne fl hi ws else if kd = 8 then (ne, hi, fl, ws, 0) else (ne, hi, fl, ws, 23)
set_option maxRecDepth 100000
set_option maxHeartbeats 4000000
theorem low_nn (vo bl sz pe to ne fl : Int) (hi : Bool) (place pins : List Int) (ws : List (Int × List (Int × List Int))) (pp pn pw : Option Addr) (cp cn9 cw : Nat) (nn : Nat) (w0 : World) (h1 : Rd (fun _ => True) w0 (.slice pn pins.length cn9) (.ns .i64 pins)) (hp : pins.length ≤ 1000000) (hnn : nn = ws.length := by simp) :
   Calls Tryz.prog 15 #[.agg #[.int .i64 vo, .int .i64 bl, .int .i64 sz, .int .i64 pe, .slice pp place.length cp, .int .i64 to, .int .i64 ne, .bool hi, .int .i64 fl, .slice pn pins.length cn9, .slice pw nn cw]] w0 fun e w' => e = .returned (.int .i64 (lowL ws.length pins)) ∧ Below w0.heap.size w0 w' := by
 subst hnn; exact low_any vo bl sz pe to ne fl hi place pins ws pp pn pw cp cn9 cw w0 h1 hp
theorem xwrite (X : Cx) (B : Nat) (vo bl sz pe to ne fl : Int) (hi : Bool) (place pins : List Int) (ws : List (Int × List (Int × List Int))) (items : List (Int × List Int)) (pp pn pw : Option Addr) (cp cn9 cw : Nat) (pi : Option Addr) (ci : Nat) (w0 : World) (hl : ws.length ≤ 900000) (hil : items.length ≤ 1000000) (hio : ItsOk items) (m0 : MemOk X w0 [(1, .box B 28 [.int .i64 vo, .int .i64 bl, .int .i64 sz, .int .i64 pe, .slice pp place.length cp, .int .i64 to, .int .i64 ne, .bool hi, .int .i64 fl, .slice pn pins.length cn9, .slice pw (ws.map wrD).length cw]), (2, .seg (.slice pw (ws.map wrD).length cw) 58 2 (ws.map wrD)), (3, .dat (.slice pi items.length ci) (.l 2 (items.map itD)))] w0) :
   Calls Tryz.prog 73 #[.pointer (some ⟨B, 0, none⟩), .slice pi items.length ci] w0 fun e w' => ∃ (ws' : List (Int × List (Int × List Int))) (e9 : Int) (pw' : Option Addr) (cw' : Nat), e = .returned (.int .i64 e9) ∧ wrR bl sz ws items = (ws', e9) ∧ MemOk X w0 [(1, .box B 28 [.int .i64 vo, .int .i64 bl, .int .i64 sz, .int .i64 pe, .slice pp place.length cp, .int .i64 to, .int .i64 ne, .bool hi, .int .i64 fl, .slice pn pins.length cn9, .slice pw' (ws'.map wrD).length cw']), (2, .seg (.slice pw' (ws'.map wrD).length cw') 58 2 (ws'.map wrD)), (3, .dat (.slice pi items.length ci) (.l 2 (items.map itD)))] w' := by
 refine enter (fn := Tryz.f73) Tryz.func73 rfl Tryz.ntmps73 rfl (fun Az Hz => ?_)
 simp only [List.zipIdx_cons, List.zipIdx_nil, List.map_cons, List.map_nil, Nat.reduceAdd, Nat.zero_add] at Hz
 refine regS Hz (.assign rfl <| .nil) ?_
 clear Hz Az; intro Az Hz
 refine wp_seq_k (fun K0 hK0 => ?_)
 refine wp_seq_k (fun K1 hK1 => ?_)
 have m2 : MemOk _ _ [(1, _), (2, _), (3, _)] _ := m0.only [1, 2, 3]; clear m0
 refine region_p 11 (B := [(1, _), (2, _), (3, _)]) (m2.to ⟨il, il, il, trivial⟩) m2 (by kernel_rfl) (fun w3 hP3 m3 => ?_); clear m2
 refine goR hP3 [0, 1, 2, 3, 4, 5, 6, 7, 8] [3, 7] 9 0 511 Hz (m3.to ⟨il, il, il, trivial⟩) (.move rfl <| .nilCheck rfl <| .fieldAddr (off := 1) rfl Tryz.underlying28 rfl (s := 0) (by kernel_rfl) rfl <| .loadB1 hh (i := 1) rfl rfl rfl Tryz.underlying3 rfl <| .move rfl <| .nilCheck rfl <| .fieldAddr (off := 2) rfl Tryz.underlying28 rfl (s := 0) (by kernel_rfl) rfl <| .loadB1 hh (i := 1) rfl rfl rfl Tryz.underlying3 rfl <| .move rfl <| .nil) ?_
 clear Hz Az; intro Az Hz
 refine stepE_only 9 rfl (by kernel_rfl) rfl (fun K hK => ?_)
 refine e_call Hz Tryz.func39 rfl rfl rfl rfl (vitems_nn _ _ items _ _ _ _ ((m3.rd (i := 3) rfl).any) hil) ?_
 rintro e w13 ⟨ib, rfl, hib, hb13⟩
 have m14 := m3.later hb13
 clear m3
 clear hb13
 refine ⟨_, rfl, ?_⟩; clear Hz Az; intro Az Hz
 refine hK _ _ (m14.to ⟨il, il, il, trivial⟩) ?_; clear hK K
 refine goA hP3 [10] 1 1023 2047 Hz (m14.to ⟨il, il, il, trivial⟩) (.not rfl <| .nil) ?_
 clear Hz Az; intro Az Hz
 refine wpAnyE_done (by kernel_rfl) ?_ _
 refine hK1 _ _ ?_; clear hK1; try clear K1
 refine bool_cases Hz (t := 15) rfl ?_ ?_
 ·
  clear Hz; intro hb17 Hz
  try simp only [Q1x, Q2x, Q3x, Q4x, Q5x, Q6x, Q7x, Q8x, Q9x, Q0x, Qax, Qbx] at hb17
  refine wp_cond_true (Hz.ev (x := .tmp 15) rfl) ?_
  replace Hz : Has 33 [(0, _), (1, _), (4, _), (15, _)] Az := Hz.only [0, 1, 4, 15]
  refine regS Hz (.assign rfl <| .nil) ?_
  clear Hz Az; intro Az Hz
  refine wp_ret ?_
  try dsimp only [Exit.then, Exit.inBlock]
  refine (ret1 (fn := Tryz.f73) Hz rfl rfl ?_)
  exact ⟨ws, 23, _, _, rfl, by rw [wrR, if_neg (fun h => by have h9 := hib.2 h; simp_all)], m14.only [1, 2, 3]⟩
 ·
  clear Hz; intro hb17 Hz
  try simp only [Q1x, Q2x, Q3x, Q4x, Q5x, Q6x, Q7x, Q8x, Q9x, Q0x, Qax, Qbx] at hb17
  refine wp_cond_false (Hz.ev (x := .tmp 15) rfl) ?_
  refine wp_skip ?_
  refine hK0 _ _ ?_; clear hK0; try clear K0
  refine wp_seq_k (fun K2 hK2 => ?_)
  replace Hz : Has 33 [(0, _), (1, _), (4, _), (15, _)] Az := Hz.only [0, 1, 4, 15]
  have m21 : MemOk _ _ [(1, _), (2, _), (3, _)] _ := m14.only [1, 2, 3]; clear m14
  refine region_p 14 (B := [(1, _), (2, _), (3, _)]) (m21.to ⟨il, il, il, trivial⟩) m21 (by kernel_rfl) (fun w22 hP22 m22 => ?_); clear m21
  refine goR hP22 [0, 1, 2, 3, 4, 5, 6, 7, 10] [4, 7] 9 0 1279 Hz (m22.to ⟨il, il, il, trivial⟩) (.move rfl <| .move rfl <| .nilCheck rfl <| .fieldAddr (off := 10) rfl Tryz.underlying28 rfl (s := 0) (by kernel_rfl) rfl <| .loadB1 hh (i := 1) rfl rfl rfl Tryz.underlying26 rfl <| .move rfl <| .nilCheck rfl <| .loadBR hh (i := 1) rfl rfl Tryz.underlying28 rfl sz28xw (by simp) (by dsimp only [List.drop, List.take] <;> rfl) <| .move rfl <| .nil) ?_
  clear Hz Az; intro Az Hz
  refine stepE_only 8 rfl (by kernel_rfl) rfl (fun K hK => ?_)
  refine e_call Hz Tryz.func18 rfl rfl rfl rfl (vlen_any _ _ _ _ _ _ _ _ _ _ _ _ _ _ _ _ _ _) ?_
  rintro e w32 ⟨rfl, hb32⟩
  have m33 := m22.later hb32
  clear m22
  clear hb32
  refine ⟨_, rfl, ?_⟩; clear Hz Az; intro Az Hz
  refine hK _ _ (m33.to ⟨il, il, il, trivial⟩) ?_; clear hK K
  refine goA hP22 [9] 1 1535 2047 Hz (m33.to ⟨il, il, il, trivial⟩) (.add rfl rfl (r := (ws.length : Int) + 1) (by rw [List.length_map]; exact IntWalk.i64_in _ (by omega)) <| .nil) ?_
  clear Hz Az; intro Az Hz
  refine stepE_only 11 rfl (by kernel_rfl) rfl (fun K hK => ?_)
  refine e_call Hz Tryz.func72 rfl rfl rfl rfl (items_any items _ _ _ _ ((m33.rd (i := 3) rfl).any) hil hio) ?_
  rintro e w36 ⟨p36, c36, rfl, hd36, hb36⟩
  have m37 := m33.callF 20 rfl hb36 hd36
  clear m33
  clear hb36 hd36
  refine ⟨_, rfl, ?_⟩; clear Hz Az; intro Az Hz
  refine hK _ _ (m37.to ⟨il, il, il, trivial⟩) ?_; clear hK K
  refine goA hP22 [12] 1 4095 8191 Hz (m37.to ⟨il, il, il, trivial⟩) (.build rfl zc58xw fl58xw rfl (by dsimp only [setL, List.set] <;> rfl) <| .nil) ?_
  clear Hz Az; intro Az Hz
  refine stepE_only 13 rfl (by kernel_rfl) rfl (fun K hK => ?_)
  refine e_litR Hz m37 21 (mm := 2) rfl (.cons rfl rfl (.cons (.v _) (.cons (m37.rd (i := 20) rfl) .nil)) <| .nil) Tryz.underlying26 inf58xw rfl rfl rfl rfl rfl ?_
  clear Hz Az m37; intro g40 Az w41 Hz m41
  refine hK _ _ (m41.to ⟨il, il, il, trivial⟩) ?_; clear hK K
  have m43 := m41.freezeR 21 rfl; clear m41
  refine stepE_end 14 rfl (by kernel_rfl) rfl (by rfl) (fun K hK => ?_)
  refine e_appSA Hz m43 2 rfl rfl rfl (m43.rd (i := 21) rfl).cells Tryz.underlying26 inf58xw rfl rfl (by decide) (by simp; omega) rfl ?_
  clear Hz Az m43; intro p42 c42 Az w44 Hz m44
  refine hK _ _ ?_; clear hK K
  refine goB hP22 [15, 16] 2 32767 131071 Hz (.nilCheck rfl <| .fieldAddr (off := 10) rfl Tryz.underlying28 rfl (s := 0) (by kernel_rfl) rfl <| .nil) ?_
  clear Hz Az; intro Az Hz
  refine stepE_end 17 rfl (by kernel_rfl) rfl (by rfl) (fun K hK => ?_)
  refine e_store1 Hz m44 1 rfl rfl rfl rfl rfl sz26xw (by dsimp only [List.set] <;> rfl) ?_
  clear m44; intro w47 m47 hB47
  clear hB47
  refine hK _ _ ?_; clear hK K
  refine wpAnyE_done (by kernel_rfl) ?_ _
  refine hK2 _ _ ?_; clear hK2; try clear K2
  replace Hz : Has 33 [(4, _), (15, _)] Az := Hz.only [4, 15]
  refine regS Hz (.assign rfl <| .nil) ?_
  clear Hz Az; intro Az Hz
  refine wp_ret ?_
  try dsimp only [Exit.then, Exit.inBlock]
  refine (ret1 (fn := Tryz.f73) Hz rfl rfl ?_)
  have hE : ws.map wrD ++ [[D.v (.int .i64 ((ws.length : Int) + 1)), .l 2 (items.map itD)]] = (ws ++ [((ws.length : Int) + 1, items)]).map wrD := by rw [List.map_append]; rfl
  rw [hE] at m47
  exact ⟨(ws ++ [((ws.length : Int) + 1, items)]), 0, _, _, rfl, by rw [wrR, if_pos (hib.1 (by simp_all))], m47.only [1, 2, 3]⟩
theorem xput (X : Cx) (B : Nat) (vo bl sz pe to ne fl : Int) (hi : Bool) (place pins : List Int) (ws : List (Int × List (Int × List Int))) (items : List (Int × List Int)) (pp pn pw : Option Addr) (cp cn9 cw : Nat) (pi : Option Addr) (ci : Nat) (w0 : World) (hl : ws.length ≤ 900000) (hil : items.length ≤ 1000000) (hio : ItsOk items) (m0 : MemOk X w0 [(1, .box B 28 [.int .i64 vo, .int .i64 bl, .int .i64 sz, .int .i64 pe, .slice pp place.length cp, .int .i64 to, .int .i64 ne, .bool hi, .int .i64 fl, .slice pn pins.length cn9, .slice pw (ws.map wrD).length cw]), (2, .seg (.slice pw (ws.map wrD).length cw) 58 2 (ws.map wrD)), (3, .dat (.slice pi items.length ci) (.l 2 (items.map itD)))] w0) :
   Calls Tryz.prog 54 #[.pointer (some ⟨B, 0, none⟩), .slice pi items.length ci] w0 fun e w' => ∃ (ne' : Int) (hi' : Bool) (fl' : Int) (ws' : List (Int × List (Int × List Int))) (e9 : Int) (pw' : Option Addr) (cw' : Nat), e = .returned (.int .i64 e9) ∧ putR bl sz ne fl hi ws items = (ne', hi', fl', ws', e9) ∧ MemOk X w0 [(1, .box B 28 [.int .i64 vo, .int .i64 bl, .int .i64 sz, .int .i64 pe, .slice pp place.length cp, .int .i64 to, .int .i64 ne', .bool hi', .int .i64 fl', .slice pn pins.length cn9, .slice pw' (ws'.map wrD).length cw']), (2, .seg (.slice pw' (ws'.map wrD).length cw') 58 2 (ws'.map wrD)), (3, .dat (.slice pi items.length ci) (.l 2 (items.map itD)))] w' := by
 refine enter (fn := Tryz.f54) Tryz.func54 rfl Tryz.ntmps54 rfl (fun Az Hz => ?_)
 simp only [List.zipIdx_cons, List.zipIdx_nil, List.map_cons, List.map_nil, Nat.reduceAdd, Nat.zero_add] at Hz
 refine regS Hz (.assign rfl <| .nil) ?_
 clear Hz Az; intro Az Hz
 refine wp_seq_k (fun K0 hK0 => ?_)
 refine regS Hz (.move rfl <| .nilCheck rfl <| .fieldAddr (off := 7) rfl Tryz.underlying28 rfl (s := 0) (by kernel_rfl) rfl <| .loadB1 m0 (i := 1) rfl rfl rfl Tryz.underlying4 rfl <| .nil) ?_
 clear Hz Az; intro Az Hz
 refine bool_cases Hz (t := 8) rfl ?_ ?_
 ·
  clear Hz; intro hb6 Hz
  try simp only [Q1x, Q2x, Q3x, Q4x, Q5x, Q6x, Q7x, Q8x, Q9x, Q0x, Qax, Qbx] at hb6
  refine wp_cond_true (Hz.ev (x := .tmp 8) rfl) ?_
  refine regS Hz (.assign rfl <| .nil) ?_
  clear Hz Az; intro Az Hz
  refine wp_ret ?_
  try dsimp only [Exit.then, Exit.inBlock]
  refine (ret1 (fn := Tryz.f54) Hz rfl rfl ?_)
  exact ⟨ne, hi, fl, ws, 28, _, _, rfl, by rw [putR, if_pos (by assumption)], m0.only [1, 2, 3]⟩
 ·
  clear Hz; intro hb6 Hz
  try simp only [Q1x, Q2x, Q3x, Q4x, Q5x, Q6x, Q7x, Q8x, Q9x, Q0x, Qax, Qbx] at hb6
  refine wp_cond_false (Hz.ev (x := .tmp 8) rfl) ?_
  refine wp_skip ?_
  refine hK0 _ _ ?_; clear hK0; try clear K0
  refine wp_seq_k (fun K1 hK1 => ?_)
  refine wp_region_lit ?_
  refine goCh Hz (.move rfl <| .move rfl <| .nil) ?_
  clear Hz Az; intro Az Hz
  refine wpList_plain rfl (fun K hK => ?_)
  refine e_call Hz Tryz.func73 rfl rfl rfl rfl (xwrite _ _ _ _ _ _ _ _ _ _ place pins ws items _ _ _ _ _ _ _ _ _ hl hil hio (m0.into [(1, 1), (2, 2), (3, 3)] (by decide) rfl)) ?_
  rintro e w12 ⟨wx, ex, pw12, cw12, rfl, hw, hm12⟩
  have mx12 := m0.back hm12 [(1, 1), (2, 2), (3, 3)] (by decide); clear hm12 m0
  have m12 : MemOk _ _ [(1, _), (2, _), (3, _)] _ := mx12.only [1, 2, 3]; clear mx12
  refine ⟨_, rfl, ?_⟩; clear Hz Az; intro Az Hz
  refine hK _ _ ?_; clear hK K
  refine goCh Hz (.assign rfl .nil) ?_
  clear Hz Az; intro Az Hz
  refine wpList_nil ?_
  refine hK1 _ _ ?_; clear hK1; try clear K1
  refine wp_ret ?_
  try dsimp only [Exit.then, Exit.inBlock]
  refine (ret1 (fn := Tryz.f54) Hz rfl rfl ?_)
  exact ⟨ne, hi, fl, wx, ex, _, _, rfl, by rw [putR, if_neg (by simp_all), hw], m12.only [1, 2, 3]⟩
theorem xreach (X : Cx) (B : Nat) (vo bl sz pe to ne fl : Int) (hi : Bool) (place pins : List Int) (ws : List (Int × List (Int × List Int))) (pp pn pw : Option Addr) (cp cn9 cw : Nat) (at0 nd : Int) (w0 : World) (m0 : MemOk X w0 [(1, .box B 28 [.int .i64 vo, .int .i64 bl, .int .i64 sz, .int .i64 pe, .slice pp place.length cp, .int .i64 to, .int .i64 ne, .bool hi, .int .i64 fl, .slice pn pins.length cn9, .slice pw (ws.map wrD).length cw])] w0) :
   Calls Tryz.prog 74 #[.pointer (some ⟨B, 0, none⟩), .int .i64 at0, .int .i64 nd] w0 fun e w' => ∃ e9 : Int, e = .returned (.int .i64 e9) ∧ reachR hi fl at0 nd = e9 ∧ MemOk X w0 [(1, .box B 28 [.int .i64 vo, .int .i64 bl, .int .i64 sz, .int .i64 pe, .slice pp place.length cp, .int .i64 to, .int .i64 ne, .bool hi, .int .i64 fl, .slice pn pins.length cn9, .slice pw (ws.map wrD).length cw])] w' := by
 refine enter (fn := Tryz.f74) Tryz.func74 rfl Tryz.ntmps74 rfl (fun Az Hz => ?_)
 simp only [List.zipIdx_cons, List.zipIdx_nil, List.map_cons, List.map_nil, Nat.reduceAdd, Nat.zero_add] at Hz
 refine regS Hz (.assign rfl <| .nil) ?_
 clear Hz Az; intro Az Hz
 refine wp_seq_k (fun K0 hK0 => ?_)
 refine wp_block ?_
 refine regS Hz (.move rfl <| .nilCheck rfl <| .fieldAddr (off := 7) rfl Tryz.underlying28 rfl (s := 0) (by kernel_rfl) rfl <| .loadB1 m0 (i := 1) rfl rfl rfl Tryz.underlying4 rfl <| .assign rfl <| .nil) ?_
 clear Hz Az; intro Az Hz
 refine bool_cases Hz (t := 7) rfl ?_ ?_
 ·
  clear Hz; intro hb7 Hz
  try simp only [Q1x, Q2x, Q3x, Q4x, Q5x, Q6x, Q7x, Q8x, Q9x, Q0x, Qax, Qbx] at hb7
  refine wp_cond_true (Hz.ev (x := .tmp 7) rfl) ?_
  refine regS Hz (.assign rfl <| .nil) ?_
  clear Hz Az; intro Az Hz
  refine wp_ret ?_
  try dsimp only [Exit.then, Exit.inBlock]
  refine (ret1 (fn := Tryz.f74) Hz rfl rfl ?_)
  exact ⟨_, rfl, by rw [reachR, if_pos (by assumption)], m0.only [1]⟩
 ·
  clear Hz; intro hb7 Hz
  try simp only [Q1x, Q2x, Q3x, Q4x, Q5x, Q6x, Q7x, Q8x, Q9x, Q0x, Qax, Qbx] at hb7
  refine wp_cond_false (Hz.ev (x := .tmp 7) rfl) ?_
  refine regS Hz (.move rfl <| .move rfl <| .nilCheck rfl <| .fieldAddr (off := 8) rfl Tryz.underlying28 rfl (s := 0) (by kernel_rfl) rfl <| .loadB1 m0 (i := 1) rfl rfl rfl Tryz.underlying2 rfl <| .lss rfl rfl <| .assign rfl <| .nil) ?_
  clear Hz Az; intro Az Hz
  refine bool_cases Hz (t := 12) rfl ?_ ?_
  ·
   clear Hz; intro hb16 Hz
   try simp only [Q1x, Q2x, Q3x, Q4x, Q5x, Q6x, Q7x, Q8x, Q9x, Q0x, Qax, Qbx] at hb16
   refine wp_cond_true (Hz.ev (x := .tmp 12) rfl) ?_
   replace Hz : Has 23 [(1, _), (2, _), (6, _), (7, _), (12, _)] Az := Hz.only [1, 2, 6, 7, 12]
   refine regS Hz (.assign rfl <| .nil) ?_
   clear Hz Az; intro Az Hz
   refine wp_ret ?_
   try dsimp only [Exit.then, Exit.inBlock]
   refine (ret1 (fn := Tryz.f74) Hz rfl rfl ?_)
   exact ⟨_, rfl, by rw [reachR, if_neg (by simp_all), if_pos (by assumption)], m0.only [1]⟩
  ·
   clear Hz; intro hb16 Hz
   try simp only [Q1x, Q2x, Q3x, Q4x, Q5x, Q6x, Q7x, Q8x, Q9x, Q0x, Qax, Qbx] at hb16
   refine wp_cond_false (Hz.ev (x := .tmp 12) rfl) ?_
   replace Hz : Has 23 [(1, _), (2, _), (6, _), (7, _), (12, _)] Az := Hz.only [1, 2, 6, 7, 12]
   refine regS Hz (.move rfl <| .move rfl <| .gtr rfl rfl <| .assign rfl <| .nil) ?_
   clear Hz Az; intro Az Hz
   refine bool_cases Hz (t := 19) rfl ?_ ?_
   ·
    clear Hz; intro hb24 Hz
    try simp only [Q1x, Q2x, Q3x, Q4x, Q5x, Q6x, Q7x, Q8x, Q9x, Q0x, Qax, Qbx] at hb24
    refine wp_cond_true (Hz.ev (x := .tmp 19) rfl) ?_
    refine regS Hz (.assign rfl <| .nil) ?_
    clear Hz Az; intro Az Hz
    refine wp_ret ?_
    try dsimp only [Exit.then, Exit.inBlock]
    refine (ret1 (fn := Tryz.f74) Hz rfl rfl ?_)
    exact ⟨_, rfl, by rw [reachR, if_neg (by simp_all), if_neg (by omega), if_pos (by assumption)], m0.only [1]⟩
   ·
    clear Hz; intro hb24 Hz
    try simp only [Q1x, Q2x, Q3x, Q4x, Q5x, Q6x, Q7x, Q8x, Q9x, Q0x, Qax, Qbx] at hb24
    refine wp_cond_false (Hz.ev (x := .tmp 19) rfl) ?_
    refine wp_skip ?_
    refine hK0 _ _ ?_; clear hK0; try clear K0
    refine regS Hz (.assign rfl <| .nil) ?_
    clear Hz Az; intro Az Hz
    refine wp_ret ?_
    try dsimp only [Exit.then, Exit.inBlock]
    refine (ret1 (fn := Tryz.f74) Hz rfl rfl ?_)
    exact ⟨_, rfl, by rw [reachR, if_neg (by simp_all), if_neg (by omega), if_neg (by omega)], m0.only [1]⟩
theorem xprune (X : Cx) (B : Nat) (vo bl sz pe to ne fl : Int) (hi : Bool) (place pins : List Int) (ws : List (Int × List (Int × List Int))) (pp pn pw : Option Addr) (cp cn9 cw : Nat) (at0 : Int) (w0 : World) (hp : pins.length ≤ 1000000) (m0 : MemOk X w0 [(1, .box B 28 [.int .i64 vo, .int .i64 bl, .int .i64 sz, .int .i64 pe, .slice pp place.length cp, .int .i64 to, .int .i64 ne, .bool hi, .int .i64 fl, .slice pn pins.length cn9, .slice pw (ws.map wrD).length cw]), (2, .seg (.slice pw (ws.map wrD).length cw) 58 2 (ws.map wrD)), (4, .dat (.slice pn pins.length cn9) (.ns .i64 pins))] w0) :
   Calls Tryz.prog 55 #[.pointer (some ⟨B, 0, none⟩), .int .i64 at0] w0 fun e w' => ∃ (ne' : Int) (hi' : Bool) (fl' : Int) (ws' : List (Int × List (Int × List Int))) (e9 : Int) (pw' : Option Addr) (cw' : Nat), e = .returned (.int .i64 e9) ∧ pruneR ne fl hi pins ws at0 = (ne', hi', fl', ws', e9) ∧ MemOk X w0 [(1, .box B 28 [.int .i64 vo, .int .i64 bl, .int .i64 sz, .int .i64 pe, .slice pp place.length cp, .int .i64 to, .int .i64 ne', .bool hi', .int .i64 fl', .slice pn pins.length cn9, .slice pw' (ws'.map wrD).length cw']), (2, .seg (.slice pw' (ws'.map wrD).length cw') 58 2 (ws'.map wrD)), (4, .dat (.slice pn pins.length cn9) (.ns .i64 pins))] w' := by
 refine enter (fn := Tryz.f55) Tryz.func55 rfl Tryz.ntmps55 rfl (fun Az Hz => ?_)
 simp only [List.zipIdx_cons, List.zipIdx_nil, List.map_cons, List.map_nil, Nat.reduceAdd, Nat.zero_add] at Hz
 refine regS Hz (.assign rfl <| .nil) ?_
 clear Hz Az; intro Az Hz
 refine wp_seq_k (fun K0 hK0 => ?_)
 refine wp_region_lit ?_
 refine goCh Hz (.move rfl <| .move rfl <| .move rfl <| .nilCheck rfl <| .loadBR m0 (i := 1) rfl rfl Tryz.underlying28 rfl sz28xq (by simp) (by dsimp only [List.drop, List.take] <;> rfl) <| .nil) ?_
 clear Hz Az; intro Az Hz
 refine wpList_plain rfl (fun K hK => ?_)
 refine e_call Hz Tryz.func15 rfl rfl rfl rfl (low_nn _ _ _ _ _ _ _ _ place pins ws _ _ _ _ _ _ _ _ ((m0.rd (i := 4) rfl).any) hp) ?_
 rintro e w12 ⟨rfl, hb12⟩
 have m13 := m0.later hb12
 clear m0
 clear hb12
 refine ⟨_, rfl, ?_⟩; clear Hz Az; intro Az Hz
 refine hK _ _ ?_; clear hK K
 refine wpList_plain rfl (fun K hK => ?_)
 refine e_call Hz Tryz.func74 rfl rfl rfl rfl (xreach _ _ _ _ _ _ _ _ _ _ place pins ws _ _ _ _ _ _ _ _ _ (m13.into [(1, 1)] (by decide) rfl)) ?_
 rintro e w15 ⟨ex, rfl, hr, hm15⟩
 have mx15 := m13.back hm15 [(1, 1)] (by decide); clear hm15 m13
 have m15 : MemOk _ _ [(1, _), (2, _), (4, _)] _ := mx15.only [1, 2, 4]; clear mx15
 refine ⟨_, rfl, ?_⟩; clear Hz Az; intro Az Hz
 refine hK _ _ ?_; clear hK K
 refine goCh Hz (.assign rfl .nil) ?_
 clear Hz Az; intro Az Hz
 refine wpList_nil ?_
 refine hK0 _ _ ?_; clear hK0; try clear K0
 refine wp_seq_k (fun K1 hK1 => ?_)
 replace Hz : Has 20 [(0, _), (1, _), (4, _), (5, _)] Az := Hz.only [0, 1, 4, 5]
 refine regS Hz (.move rfl <| .eql rfl rfl <| .nil) ?_
 clear Hz Az; intro Az Hz
 refine bool_cases Hz (t := 14) rfl ?_ ?_
 ·
  clear Hz; intro hb21 Hz
  try simp only [Q1x, Q2x, Q3x, Q4x, Q5x, Q6x, Q7x, Q8x, Q9x, Q0x, Qax, Qbx] at hb21
  refine wp_cond_true (Hz.ev (x := .tmp 14) rfl) ?_
  refine wp_region_lit ?_
  refine goCh Hz (.move rfl <| .move rfl <| .nilCheck rfl <| .fieldAddr (off := 8) rfl Tryz.underlying28 rfl (s := 0) (by kernel_rfl) rfl <| .nil) ?_
  clear Hz Az; intro Az Hz
  refine wpList_plain rfl (fun K hK => ?_)
  refine e_store1 Hz m15 1 rfl rfl rfl rfl rfl sz2xq (by dsimp only [List.set] <;> rfl) ?_
  clear m15; intro w26 m26 hB26
  clear hB26
  refine hK _ _ ?_; clear hK K
  refine wpList_nil ?_
  refine hK1 _ _ ?_; clear hK1; try clear K1
  replace Hz : Has 20 [(4, _), (5, _), (14, _)] Az := Hz.only [4, 5, 14]
  refine regS Hz (.move rfl <| .assign rfl <| .nil) ?_
  clear Hz Az; intro Az Hz
  refine wp_ret ?_
  try dsimp only [Exit.then, Exit.inBlock]
  refine (ret1 (fn := Tryz.f55) Hz rfl rfl ?_)
  exact ⟨ne, hi, at0, ws, 0, _, _, by simp_all, by rw [pruneR, if_pos (by rw [hr]; assumption)], m26.only [1, 2, 4]⟩
 ·
  clear Hz; intro hb21 Hz
  try simp only [Q1x, Q2x, Q3x, Q4x, Q5x, Q6x, Q7x, Q8x, Q9x, Q0x, Qax, Qbx] at hb21
  refine wp_cond_false (Hz.ev (x := .tmp 14) rfl) ?_
  refine wp_skip ?_
  refine hK1 _ _ ?_; clear hK1; try clear K1
  refine regS Hz (.move rfl <| .assign rfl <| .nil) ?_
  clear Hz Az; intro Az Hz
  refine wp_ret ?_
  try dsimp only [Exit.then, Exit.inBlock]
  refine (ret1 (fn := Tryz.f55) Hz rfl rfl ?_)
  exact ⟨ne, hi, fl, ws, ex, _, _, rfl, by rw [pruneR, if_neg (by rw [hr]; assumption), hr], m15.only [1, 2, 4]⟩
theorem xtake (X : Cx) (B : Nat) (vo bl sz pe to ne fl : Int) (hi : Bool) (place pins : List Int) (ws : List (Int × List (Int × List Int))) (items : List (Int × List Int)) (pp pn pw : Option Addr) (cp cn9 cw : Nat) (pi : Option Addr) (ci : Nat) (ix : Int) (w0 : World) (hne : -1000000000000000 ≤ ne ∧ ne ≤ 1000000000000000) (hl : ws.length ≤ 900000) (hil : items.length ≤ 1000000) (hio : ItsOk items) (m0 : MemOk X w0 [(1, .box B 28 [.int .i64 vo, .int .i64 bl, .int .i64 sz, .int .i64 pe, .slice pp place.length cp, .int .i64 to, .int .i64 ne, .bool hi, .int .i64 fl, .slice pn pins.length cn9, .slice pw (ws.map wrD).length cw]), (2, .seg (.slice pw (ws.map wrD).length cw) 58 2 (ws.map wrD)), (3, .dat (.slice pi items.length ci) (.l 2 (items.map itD)))] w0) :
   Calls Tryz.prog 58 #[.pointer (some ⟨B, 0, none⟩), .int .i64 ix, .slice pi items.length ci] w0 fun e w' => ∃ (ne' : Int) (hi' : Bool) (fl' : Int) (ws' : List (Int × List (Int × List Int))) (e9 : Int) (pw' : Option Addr) (cw' : Nat), e = .returned (.int .i64 e9) ∧ takeR bl sz to ne fl hi ws ix items = (ne', hi', fl', ws', e9) ∧ MemOk X w0 [(1, .box B 28 [.int .i64 vo, .int .i64 bl, .int .i64 sz, .int .i64 pe, .slice pp place.length cp, .int .i64 to, .int .i64 ne', .bool hi', .int .i64 fl', .slice pn pins.length cn9, .slice pw' (ws'.map wrD).length cw']), (2, .seg (.slice pw' (ws'.map wrD).length cw') 58 2 (ws'.map wrD)), (3, .dat (.slice pi items.length ci) (.l 2 (items.map itD)))] w' := by
 refine enter (fn := Tryz.f58) Tryz.func58 rfl Tryz.ntmps58 rfl (fun Az Hz => ?_)
 simp only [List.zipIdx_cons, List.zipIdx_nil, List.map_cons, List.map_nil, Nat.reduceAdd, Nat.zero_add] at Hz
 refine regS Hz (.assign rfl <| .nil) ?_
 clear Hz Az; intro Az Hz
 refine wp_seq_k (fun K0 hK0 => ?_)
 refine regS Hz (.move rfl <| .nilCheck rfl <| .fieldAddr (off := 7) rfl Tryz.underlying28 rfl (s := 0) (by kernel_rfl) rfl <| .loadB1 m0 (i := 1) rfl rfl rfl Tryz.underlying4 rfl <| .not rfl <| .nil) ?_
 clear Hz Az; intro Az Hz
 refine bool_cases Hz (t := 12) rfl ?_ ?_
 ·
  clear Hz; intro hb7 Hz
  try simp only [Q1x, Q2x, Q3x, Q4x, Q5x, Q6x, Q7x, Q8x, Q9x, Q0x, Qax, Qbx] at hb7
  refine wp_cond_true (Hz.ev (x := .tmp 12) rfl) ?_
  refine regS Hz (.assign rfl <| .nil) ?_
  clear Hz Az; intro Az Hz
  refine wp_ret ?_
  try dsimp only [Exit.then, Exit.inBlock]
  refine (ret1 (fn := Tryz.f58) Hz rfl rfl ?_)
  exact ⟨ne, hi, fl, ws, 33, _, _, rfl, by rw [takeR, if_pos (by simp_all)], m0.only [1, 2, 3]⟩
 ·
  clear Hz; intro hb7 Hz
  try simp only [Q1x, Q2x, Q3x, Q4x, Q5x, Q6x, Q7x, Q8x, Q9x, Q0x, Qax, Qbx] at hb7
  refine wp_cond_false (Hz.ev (x := .tmp 12) rfl) ?_
  refine wp_skip ?_
  refine hK0 _ _ ?_; clear hK0; try clear K0
  refine wp_seq_k (fun K1 hK1 => ?_)
  refine wp_seq_k (fun K2 hK2 => ?_)
  refine wp_region_lit ?_
  refine goCh Hz (.move rfl <| .move rfl <| .nilCheck rfl <| .fieldAddr (off := 6) rfl Tryz.underlying28 rfl (s := 0) (by kernel_rfl) rfl <| .loadB1 m0 (i := 1) rfl rfl rfl Tryz.underlying3 rfl <| .sub rfl rfl (r := ne - 1) (IntWalk.i64_in _ (by omega)) <| .nil) ?_
  clear Hz Az; intro Az Hz
  refine wpList_plain rfl (fun K hK => ?_)
  refine e_call Hz Tryz.func30 rfl rfl rfl rfl (within_any _ _ _ _) ?_
  rintro e w21 ⟨rfl, hb21⟩
  have m22 := m0.later hb21
  clear m0
  clear hb21
  refine ⟨_, rfl, ?_⟩; clear Hz Az; intro Az Hz
  refine hK _ _ ?_; clear hK K
  refine wpList_nil ?_
  refine hK2 _ _ ?_; clear hK2; try clear K2
  refine bool_cases Hz (t := 19) rfl ?_ ?_
  ·
   clear Hz; intro hb24 Hz
   try simp only [Q1x, Q2x, Q3x, Q4x, Q5x, Q6x, Q7x, Q8x, Q9x, Q0x, Qax, Qbx] at hb24
   refine wp_cond_true (Hz.ev (x := .tmp 19) rfl) ?_
   replace Hz : Has 50 [(0, _), (1, _), (2, _), (6, _), (12, _), (19, _)] Az := Hz.only [0, 1, 2, 6, 12, 19]
   refine regS Hz (.assign rfl <| .nil) ?_
   clear Hz Az; intro Az Hz
   refine wp_ret ?_
   try dsimp only [Exit.then, Exit.inBlock]
   refine (ret1 (fn := Tryz.f58) Hz rfl rfl ?_)
   exact ⟨ne, hi, fl, ws, 0, _, _, rfl, by rw [takeR, if_neg (by simp_all), if_pos (by assumption)], m22.only [1, 2, 3]⟩
  ·
   clear Hz; intro hb24 Hz
   try simp only [Q1x, Q2x, Q3x, Q4x, Q5x, Q6x, Q7x, Q8x, Q9x, Q0x, Qax, Qbx] at hb24
   refine wp_cond_false (Hz.ev (x := .tmp 19) rfl) ?_
   refine wp_skip ?_
   refine hK1 _ _ ?_; clear hK1; try clear K1
   refine wp_seq_k (fun K3 hK3 => ?_)
   refine wp_seq_k (fun K4 hK4 => ?_)
   replace Hz : Has 50 [(0, _), (1, _), (2, _), (6, _), (12, _), (19, _)] Az := Hz.only [0, 1, 2, 6, 12, 19]
   have m28 : MemOk _ _ [(1, _), (2, _), (3, _)] _ := m22.only [1, 2, 3]; clear m22
   refine region_p 17 (B := [(1, _), (2, _), (3, _)]) (m28.to ⟨il, il, il, trivial⟩) m28 (by kernel_rfl) (fun w29 hP29 m29 => ?_); clear m28
   refine goR hP29 [0, 1, 2, 3, 4, 5, 6] [4] 7 0 127 Hz (m29.to ⟨il, il, il, trivial⟩) (.move rfl <| .move rfl <| .nilCheck rfl <| .fieldAddr (off := 6) rfl Tryz.underlying28 rfl (s := 0) (by kernel_rfl) rfl <| .loadB1 hh (i := 1) rfl rfl rfl Tryz.underlying3 rfl <| .neq rfl rfl <| .move rfl <| .nil) ?_
   clear Hz Az; intro Az Hz
   refine bool_cases Hz (t := 26) rfl ?_ ?_
   ·
    clear Hz; intro hb37 Hz
    try simp only [Q1x, Q2x, Q3x, Q4x, Q5x, Q6x, Q7x, Q8x, Q9x, Q0x, Qax, Qbx] at hb37
    refine goA hP29 [7, 8, 9, 10, 11, 12, 13, 14, 15, 16] 10 127 131071 Hz (m29.to ⟨il, il, il, trivial⟩) (.s <| .s <| .s <| .s <| .s <| .s <| .s <| .s <| .s <| .pickT rfl rfl <| .nil) ?_
    clear Hz Az; intro Az Hz
    refine wpAnyE_done (by kernel_rfl) ?_ _
    refine hK4 _ _ ?_; clear hK4; try clear K4
    refine wp_cond_true (Hz.ev (x := .tmp 36) rfl) ?_
    replace Hz : Has 50 [(0, _), (2, _), (6, _), (12, _), (19, _), (26, _), (36, _)] Az := Hz.only [0, 2, 6, 12, 19, 26, 36]
    refine regS Hz (.assign rfl <| .nil) ?_
    clear Hz Az; intro Az Hz
    refine wp_ret ?_
    try dsimp only [Exit.then, Exit.inBlock]
    refine (ret1 (fn := Tryz.f58) Hz rfl rfl ?_)
    exact ⟨ne, hi, fl, ws, 33, _, _, rfl, by rw [takeR, if_neg (by simp_all), if_neg (by assumption), if_pos (by omega)], m29.only [1, 2, 3]⟩
   ·
    clear Hz; intro hb37 Hz
    try simp only [Q1x, Q2x, Q3x, Q4x, Q5x, Q6x, Q7x, Q8x, Q9x, Q0x, Qax, Qbx] at hb37
    refine goR hP29 [7, 8, 9, 10, 11, 12, 13, 14, 15, 16] [10, 14] 10 127 131071 Hz (m29.to ⟨il, il, il, trivial⟩) (.move rfl <| .nilCheck rfl <| .fieldAddr (off := 6) rfl Tryz.underlying28 rfl (s := 0) (by kernel_rfl) rfl <| .loadB1 hh (i := 1) rfl rfl rfl Tryz.underlying3 rfl <| .move rfl <| .nilCheck rfl <| .fieldAddr (off := 5) rfl Tryz.underlying28 rfl (s := 0) (by kernel_rfl) rfl <| .loadB1 hh (i := 1) rfl rfl rfl Tryz.underlying3 rfl <| .eql rfl rfl <| .pickF rfl rfl <| .nil) ?_
    clear Hz Az; intro Az Hz
    refine wpAnyE_done (by kernel_rfl) ?_ _
    refine hK4 _ _ ?_; clear hK4; try clear K4
    refine bool_cases Hz (t := 36) rfl ?_ ?_
    ·
     clear Hz; intro hb60 Hz
     try simp only [Q1x, Q2x, Q3x, Q4x, Q5x, Q6x, Q7x, Q8x, Q9x, Q0x, Qax, Qbx] at hb60
     refine wp_cond_true (Hz.ev (x := .tmp 36) rfl) ?_
     replace Hz : Has 50 [(0, _), (2, _), (6, _), (12, _), (19, _), (26, _), (36, _)] Az := Hz.only [0, 2, 6, 12, 19, 26, 36]
     refine regS Hz (.assign rfl <| .nil) ?_
     clear Hz Az; intro Az Hz
     refine wp_ret ?_
     try dsimp only [Exit.then, Exit.inBlock]
     refine (ret1 (fn := Tryz.f58) Hz rfl rfl ?_)
     exact ⟨ne, hi, fl, ws, 33, _, _, rfl, by rw [takeR, if_neg (by simp_all), if_neg (by assumption), if_pos (by omega)], m29.only [1, 2, 3]⟩
    ·
     clear Hz; intro hb60 Hz
     try simp only [Q1x, Q2x, Q3x, Q4x, Q5x, Q6x, Q7x, Q8x, Q9x, Q0x, Qax, Qbx] at hb60
     refine wp_cond_false (Hz.ev (x := .tmp 36) rfl) ?_
     refine wp_skip ?_
     refine hK3 _ _ ?_; clear hK3; try clear K3
     replace Hz : Has 50 [(0, _), (2, _), (6, _), (12, _), (19, _), (26, _), (36, _)] Az := Hz.only [0, 2, 6, 12, 19, 26, 36]
     refine wp_seq_k (fun K5 hK5 => ?_)
     refine wp_region_lit ?_
     refine goCh Hz (.move rfl <| .move rfl <| .nil) ?_
     clear Hz Az; intro Az Hz
     refine wpList_plain rfl (fun K hK => ?_)
     refine e_call Hz Tryz.func73 rfl rfl rfl rfl (xwrite _ _ _ _ _ _ _ _ _ _ place pins ws items _ _ _ _ _ _ _ _ _ hl hil hio (m29.into [(1, 1), (2, 2), (3, 3)] (by decide) rfl)) ?_
     rintro e w68 ⟨wx, ex, pw68, cw68, rfl, hw, hm68⟩
     have mx68 := m29.back hm68 [(1, 1), (2, 2), (3, 3)] (by decide); clear hm68 m29
     have m68 : MemOk _ _ [(1, _), (2, _), (3, _)] _ := mx68.only [1, 2, 3]; clear mx68
     refine ⟨_, rfl, ?_⟩; clear Hz Az; intro Az Hz
     refine hK _ _ ?_; clear hK K
     refine goCh Hz (.assign rfl .nil) ?_
     clear Hz Az; intro Az Hz
     refine wpList_nil ?_
     refine hK5 _ _ ?_; clear hK5; try clear K5
     refine wp_seq_k (fun K6 hK6 => ?_)
     refine regS Hz (.move rfl <| .eql rfl rfl <| .nil) ?_
     clear Hz Az; intro Az Hz
     refine bool_cases Hz (t := 41) rfl ?_ ?_
     ·
      clear Hz; intro hb73 Hz
      try simp only [Q1x, Q2x, Q3x, Q4x, Q5x, Q6x, Q7x, Q8x, Q9x, Q0x, Qax, Qbx] at hb73
      refine wp_cond_true (Hz.ev (x := .tmp 41) rfl) ?_
      refine wp_region_lit ?_
      refine goCh Hz (.move rfl <| .nilCheck rfl <| .fieldAddr (off := 6) rfl Tryz.underlying28 rfl (s := 0) (by kernel_rfl) rfl <| .loadB1 m68 (i := 1) rfl rfl rfl Tryz.underlying3 rfl <| .add rfl rfl (r := ne + 1) (IntWalk.i64_in _ (by omega)) <| .nilCheck rfl <| .fieldAddr (off := 6) rfl Tryz.underlying28 rfl (s := 0) (by kernel_rfl) rfl <| .nil) ?_
      clear Hz Az; intro Az Hz
      refine wpList_plain rfl (fun K hK => ?_)
      refine e_store1 Hz m68 1 rfl rfl rfl rfl rfl sz3xt (by dsimp only [List.set] <;> rfl) ?_
      clear m68; intro w81 m81 hB81
      clear hB81
      refine hK _ _ ?_; clear hK K
      refine wpList_nil ?_
      refine hK6 _ _ ?_; clear hK6; try clear K6
      replace Hz : Has 50 [(6, _), (12, _), (19, _), (26, _), (36, _), (7, _), (41, _)] Az := Hz.only [6, 12, 19, 26, 36, 7, 41]
      refine regS Hz (.move rfl <| .assign rfl <| .nil) ?_
      clear Hz Az; intro Az Hz
      refine wp_ret ?_
      try dsimp only [Exit.then, Exit.inBlock]
      refine (ret1 (fn := Tryz.f58) Hz rfl rfl ?_)
      exact ⟨ne + 1, hi, fl, wx, 0, _, _, by simp_all, by rw [takeR, if_neg (by simp_all), if_neg (by assumption), if_neg (by omega), hw, if_pos (by assumption)], m81.only [1, 2, 3]⟩
     ·
      clear Hz; intro hb73 Hz
      try simp only [Q1x, Q2x, Q3x, Q4x, Q5x, Q6x, Q7x, Q8x, Q9x, Q0x, Qax, Qbx] at hb73
      refine wp_cond_false (Hz.ev (x := .tmp 41) rfl) ?_
      refine wp_skip ?_
      refine hK6 _ _ ?_; clear hK6; try clear K6
      replace Hz : Has 50 [(6, _), (12, _), (19, _), (26, _), (36, _), (7, _), (41, _)] Az := Hz.only [6, 12, 19, 26, 36, 7, 41]
      refine regS Hz (.move rfl <| .assign rfl <| .nil) ?_
      clear Hz Az; intro Az Hz
      refine wp_ret ?_
      try dsimp only [Exit.then, Exit.inBlock]
      refine (ret1 (fn := Tryz.f58) Hz rfl rfl ?_)
      exact ⟨ne, hi, fl, wx, ex, _, _, rfl, by rw [takeR, if_neg (by simp_all), if_neg (by assumption), if_neg (by omega), hw, if_neg (by assumption)], m68.only [1, 2, 3]⟩
theorem xpublish (X : Cx) (B : Nat) (vo bl sz pe to ne fl : Int) (hi : Bool) (place pins : List Int) (ws : List (Int × List (Int × List Int))) (pp pn pw : Option Addr) (cp cn9 cw : Nat) (w0 : World) (m0 : MemOk X w0 [(1, .box B 28 [.int .i64 vo, .int .i64 bl, .int .i64 sz, .int .i64 pe, .slice pp place.length cp, .int .i64 to, .int .i64 ne, .bool hi, .int .i64 fl, .slice pn pins.length cn9, .slice pw (ws.map wrD).length cw]), (2, .seg (.slice pw (ws.map wrD).length cw) 58 2 (ws.map wrD))] w0) :
   Calls Tryz.prog 59 #[.pointer (some ⟨B, 0, none⟩)] w0 fun e w' => ∃ (ne' : Int) (hi' : Bool) (fl' : Int) (ws' : List (Int × List (Int × List Int))) (e9 : Int) (pw' : Option Addr) (cw' : Nat), e = .returned (.int .i64 e9) ∧ publishR to ne fl hi ws = (ne', hi', fl', ws', e9) ∧ MemOk X w0 [(1, .box B 28 [.int .i64 vo, .int .i64 bl, .int .i64 sz, .int .i64 pe, .slice pp place.length cp, .int .i64 to, .int .i64 ne', .bool hi', .int .i64 fl', .slice pn pins.length cn9, .slice pw' (ws'.map wrD).length cw']), (2, .seg (.slice pw' (ws'.map wrD).length cw') 58 2 (ws'.map wrD))] w' := by
 refine enter (fn := Tryz.f59) Tryz.func59 rfl Tryz.ntmps59 rfl (fun Az Hz => ?_)
 simp only [List.zipIdx_cons, List.zipIdx_nil, List.map_cons, List.map_nil, Nat.reduceAdd, Nat.zero_add] at Hz
 refine regS Hz (.assign rfl <| .nil) ?_
 clear Hz Az; intro Az Hz
 refine wp_seq_k (fun K0 hK0 => ?_)
 refine wp_seq_k (fun K1 hK1 => ?_)
 have m2 : MemOk _ _ [(1, _), (2, _)] _ := m0.only [1, 2]; clear m0
 refine region_p 16 (B := [(1, _), (2, _)]) (m2.to ⟨il, il, trivial⟩) m2 (by kernel_rfl) (fun w3 hP3 m3 => ?_); clear m2
 refine goR hP3 [0, 1, 2, 3, 4, 5] [3] 6 0 63 Hz (m3.to ⟨il, il, trivial⟩) (.move rfl <| .nilCheck rfl <| .fieldAddr (off := 7) rfl Tryz.underlying28 rfl (s := 0) (by kernel_rfl) rfl <| .loadB1 hh (i := 1) rfl rfl rfl Tryz.underlying4 rfl <| .not rfl <| .move rfl <| .nil) ?_
 clear Hz Az; intro Az Hz
 refine bool_cases Hz (t := 8) rfl ?_ ?_
 ·
  clear Hz; intro hb10 Hz
  try simp only [Q1x, Q2x, Q3x, Q4x, Q5x, Q6x, Q7x, Q8x, Q9x, Q0x, Qax, Qbx] at hb10
  refine goA hP3 [6, 7, 8, 9, 10, 11, 12, 13, 14, 15] 10 63 65535 Hz (m3.to ⟨il, il, trivial⟩) (.s <| .s <| .s <| .s <| .s <| .s <| .s <| .s <| .s <| .pickT rfl rfl <| .nil) ?_
  clear Hz Az; intro Az Hz
  refine wpAnyE_done (by kernel_rfl) ?_ _
  refine hK1 _ _ ?_; clear hK1; try clear K1
  refine wp_cond_true (Hz.ev (x := .tmp 18) rfl) ?_
  replace Hz : Has 29 [(0, _), (2, _), (8, _), (18, _)] Az := Hz.only [0, 2, 8, 18]
  refine regS Hz (.assign rfl <| .nil) ?_
  clear Hz Az; intro Az Hz
  refine wp_ret ?_
  try dsimp only [Exit.then, Exit.inBlock]
  refine (ret1 (fn := Tryz.f59) Hz rfl rfl ?_)
  exact ⟨ne, hi, fl, ws, 33, _, _, rfl, by rw [publishR, if_pos (by first | (left; simp_all; done) | (right; assumption) | omega)], m3.only [1, 2]⟩
 ·
  clear Hz; intro hb10 Hz
  try simp only [Q1x, Q2x, Q3x, Q4x, Q5x, Q6x, Q7x, Q8x, Q9x, Q0x, Qax, Qbx] at hb10
  refine goR hP3 [6, 7, 8, 9, 10, 11, 12, 13, 14, 15] [9, 13] 10 63 65535 Hz (m3.to ⟨il, il, trivial⟩) (.move rfl <| .nilCheck rfl <| .fieldAddr (off := 6) rfl Tryz.underlying28 rfl (s := 0) (by kernel_rfl) rfl <| .loadB1 hh (i := 1) rfl rfl rfl Tryz.underlying3 rfl <| .move rfl <| .nilCheck rfl <| .fieldAddr (off := 5) rfl Tryz.underlying28 rfl (s := 0) (by kernel_rfl) rfl <| .loadB1 hh (i := 1) rfl rfl rfl Tryz.underlying3 rfl <| .neq rfl rfl <| .pickF rfl rfl <| .nil) ?_
  clear Hz Az; intro Az Hz
  refine wpAnyE_done (by kernel_rfl) ?_ _
  refine hK1 _ _ ?_; clear hK1; try clear K1
  refine bool_cases Hz (t := 18) rfl ?_ ?_
  ·
   clear Hz; intro hb33 Hz
   try simp only [Q1x, Q2x, Q3x, Q4x, Q5x, Q6x, Q7x, Q8x, Q9x, Q0x, Qax, Qbx] at hb33
   refine wp_cond_true (Hz.ev (x := .tmp 18) rfl) ?_
   replace Hz : Has 29 [(0, _), (2, _), (8, _), (18, _)] Az := Hz.only [0, 2, 8, 18]
   refine regS Hz (.assign rfl <| .nil) ?_
   clear Hz Az; intro Az Hz
   refine wp_ret ?_
   try dsimp only [Exit.then, Exit.inBlock]
   refine (ret1 (fn := Tryz.f59) Hz rfl rfl ?_)
   exact ⟨ne, hi, fl, ws, 33, _, _, rfl, by rw [publishR, if_pos (by first | (left; simp_all; done) | (right; assumption) | omega)], m3.only [1, 2]⟩
  ·
   clear Hz; intro hb33 Hz
   try simp only [Q1x, Q2x, Q3x, Q4x, Q5x, Q6x, Q7x, Q8x, Q9x, Q0x, Qax, Qbx] at hb33
   refine wp_cond_false (Hz.ev (x := .tmp 18) rfl) ?_
   refine wp_skip ?_
   refine hK0 _ _ ?_; clear hK0; try clear K0
   replace Hz : Has 29 [(0, _), (2, _), (8, _), (18, _)] Az := Hz.only [0, 2, 8, 18]
   refine wp_seq_k (fun K2 hK2 => ?_)
   refine wp_region_lit ?_
   refine goCh Hz (.move rfl <| .move rfl <| .move rfl <| .nilCheck rfl <| .loadBR m3 (i := 1) rfl rfl Tryz.underlying28 rfl sz28xb (by simp) (by dsimp only [List.drop, List.take] <;> rfl) <| .nil) ?_
   clear Hz Az; intro Az Hz
   refine wpList_plain rfl (fun K hK => ?_)
   refine e_call Hz Tryz.func18 rfl rfl rfl rfl (vlen_any _ _ _ _ _ _ _ _ _ _ _ _ _ _ _ _ _ _) ?_
   rintro e w47 ⟨rfl, hb47⟩
   have m48 := m3.later hb47
   clear m3
   clear hb47
   refine ⟨_, rfl, ?_⟩; clear Hz Az; intro Az Hz
   refine hK _ _ ?_; clear hK K
   refine goCh Hz (.nilCheck rfl <| .fieldAddr (off := 7) rfl Tryz.underlying28 rfl (s := 0) (by kernel_rfl) rfl <| .nil) ?_
   clear Hz Az; intro Az Hz
   refine wpList_plain rfl (fun K hK => ?_)
   refine e_store1 Hz m48 1 rfl rfl rfl rfl rfl sz4xb (by dsimp only [List.set] <;> rfl) ?_
   clear m48; intro w52 m52 hB52
   clear hB52
   refine hK _ _ ?_; clear hK K
   refine goCh Hz (.nilCheck rfl <| .fieldAddr (off := 8) rfl Tryz.underlying28 rfl (s := 0) (by kernel_rfl) rfl <| .nil) ?_
   clear Hz Az; intro Az Hz
   refine wpList_plain rfl (fun K hK => ?_)
   refine e_store1 Hz m52 1 rfl rfl rfl rfl rfl sz2xb (by dsimp only [List.set] <;> rfl) ?_
   clear m52; intro w55 m55 hB55
   clear hB55
   refine hK _ _ ?_; clear hK K
   refine wpList_nil ?_
   refine hK2 _ _ ?_; clear hK2; try clear K2
   replace Hz : Has 29 [(2, _), (8, _), (18, _)] Az := Hz.only [2, 8, 18]
   refine regS Hz (.assign rfl <| .nil) ?_
   clear Hz Az; intro Az Hz
   refine wp_ret ?_
   try dsimp only [Exit.then, Exit.inBlock]
   refine (ret1 (fn := Tryz.f59) Hz rfl rfl ?_)
   exact ⟨ne, false, ws.length, ws, 0, _, _, rfl, by rw [publishR, if_neg (by rintro (h | h) <;> simp_all)], by rw [← show (ws.map wrD).length = ws.length from List.length_map _]; exact m55.only [1, 2]⟩
theorem xdo (X : Cx) (B : Nat) (vo bl sz pe to ne fl : Int) (hi : Bool) (place pins : List Int) (ws : List (Int × List (Int × List Int))) (items : List (Int × List Int)) (pp pn pw : Option Addr) (cp cn9 cw : Nat) (pi : Option Addr) (ci : Nat) (kd v1 v2 v3 v4 v5 at0 ix : Int) (q1 : Option Addr) (n1 c1 : Nat) (w0 : World) (hk4 : kd ≠ 4) (hk5 : kd ≠ 5) (hne : -1000000000000000 ≤ ne ∧ ne ≤ 1000000000000000) (hl : ws.length ≤ 900000) (hp : pins.length ≤ 1000000) (hil : items.length ≤ 1000000) (hio : ItsOk items) (m0 : MemOk X w0 [(1, .box B 28 [.int .i64 vo, .int .i64 bl, .int .i64 sz, .int .i64 pe, .slice pp place.length cp, .int .i64 to, .int .i64 ne, .bool hi, .int .i64 fl, .slice pn pins.length cn9, .slice pw (ws.map wrD).length cw]), (2, .seg (.slice pw (ws.map wrD).length cw) 58 2 (ws.map wrD)), (3, .dat (.slice pi items.length ci) (.l 2 (items.map itD))), (4, .dat (.slice pn pins.length cn9) (.ns .i64 pins))] w0) :
   Calls Tryz.prog 33 #[.pointer (some ⟨B, 0, none⟩), .agg #[.int .i64 kd, .int .i64 v1, .int .i64 v2, .int .i64 v3, .int .i64 v4, .slice q1 n1 c1, .int .i64 v5, .int .i64 at0, .int .i64 ix, .slice pi items.length ci]] w0 fun e w' => ∃ (ne' : Int) (hi' : Bool) (fl' : Int) (ws' : List (Int × List (Int × List Int))) (e9 : Int) (pw' : Option Addr) (cw' : Nat), e = .returned (.int .i64 e9) ∧ doR bl sz to ne fl hi pins ws kd at0 ix items = (ne', hi', fl', ws', e9) ∧ MemOk X w0 [(1, .box B 28 [.int .i64 vo, .int .i64 bl, .int .i64 sz, .int .i64 pe, .slice pp place.length cp, .int .i64 to, .int .i64 ne', .bool hi', .int .i64 fl', .slice pn pins.length cn9, .slice pw' (ws'.map wrD).length cw']), (2, .seg (.slice pw' (ws'.map wrD).length cw') 58 2 (ws'.map wrD)), (3, .dat (.slice pi items.length ci) (.l 2 (items.map itD))), (4, .dat (.slice pn pins.length cn9) (.ns .i64 pins))] w' := by
 refine enter (fn := Tryz.f33) Tryz.func33 rfl Tryz.ntmps33 rfl (fun Az Hz => ?_)
 simp only [List.zipIdx_cons, List.zipIdx_nil, List.map_cons, List.map_nil, Nat.reduceAdd, Nat.zero_add] at Hz
 refine wp_seq_k (fun K0 hK0 => ?_)
 refine wp_region_lit ?_
 refine wpList_plain rfl (fun K hK => ?_)
 refine e_box Hz m0 20 (cs := [_, _, _, _, _, _, _, _, _, _]) rfl rfl rfl ?_
 clear Hz Az m0; intro g1 Az w2 Hz m2 hB2 hg2
 clear hB2 hg2
 refine hK _ _ ?_; clear hK K
 refine goCh Hz (.assign rfl .nil) ?_
 clear Hz Az; intro Az Hz
 refine wpList_nil ?_
 refine hK0 _ _ ?_; clear hK0; try clear K0
 refine wp_seq_k (fun K1 hK1 => ?_)
 refine regS Hz (.fieldAddr (off := 0) rfl Tryz.underlying50 rfl (s := 0) (by kernel_rfl) rfl <| .loadB1 m2 (i := 20) rfl rfl rfl Tryz.underlying3 rfl <| .nil) ?_
 clear Hz Az; intro Az Hz
 refine wp_block ?_
 refine regS Hz (.eql rfl rfl <| .assign rfl <| .nil) ?_
 clear Hz Az; intro Az Hz
 refine bool_cases Hz (t := 7) rfl ?_ ?_
 ·
  clear Hz; intro hb8 Hz
  try simp only [Q1x, Q2x, Q3x, Q4x, Q5x, Q6x, Q7x, Q8x, Q9x, Q0x, Qax, Qbx] at hb8
  refine wp_cond_true (Hz.ev (x := .tmp 7) rfl) ?_
  refine wp_seq_k (fun K2 hK2 => ?_)
  refine wp_region_lit ?_
  refine goCh Hz (.move rfl <| .fieldAddr (off := 9) rfl Tryz.underlying50 rfl (s := 0) (by kernel_rfl) rfl <| .loadB1 m2 (i := 20) rfl rfl rfl Tryz.underlying48 rfl <| .nil) ?_
  clear Hz Az; intro Az Hz
  refine wpList_plain rfl (fun K hK => ?_)
  refine e_call Hz Tryz.func54 rfl rfl rfl rfl (xput _ _ _ _ _ _ _ _ _ _ place pins ws items _ _ _ _ _ _ _ _ _ hl hil hio (m2.into [(1, 1), (2, 2), (3, 3)] (by decide) rfl)) ?_
  rintro e w15 ⟨ne1, hi1, fl1, ws1, e1, pw15, cw15, rfl, hR, hm15⟩
  have mx15 := m2.back hm15 [(1, 1), (2, 2), (3, 3)] (by decide); clear hm15 m2
  have m15 : MemOk _ _ [(1, _), (2, _), (3, _), (4, _), (20, _)] _ := mx15.only [1, 2, 3, 4, 20]; clear mx15
  refine ⟨_, rfl, ?_⟩; clear Hz Az; intro Az Hz
  refine hK _ _ ?_; clear hK K
  refine goCh Hz (.assign rfl .nil) ?_
  clear Hz Az; intro Az Hz
  refine wpList_nil ?_
  refine hK2 _ _ ?_; clear hK2; try clear K2
  refine wp_ret ?_
  try dsimp only [Exit.then, Exit.inBlock]
  refine (ret1 (fn := Tryz.f33) Hz rfl rfl ?_)
  exact ⟨ne1, hi1, fl1, ws1, e1, _, _, rfl, by rw [doR, if_pos (by assumption)]; exact hR, m15.only [1, 2, 3, 4]⟩
 ·
  clear Hz; intro hb8 Hz
  try simp only [Q1x, Q2x, Q3x, Q4x, Q5x, Q6x, Q7x, Q8x, Q9x, Q0x, Qax, Qbx] at hb8
  refine wp_cond_false (Hz.ev (x := .tmp 7) rfl) ?_
  refine regS Hz (.eql rfl rfl <| .assign rfl <| .nil) ?_
  clear Hz Az; intro Az Hz
  refine bool_cases Hz (t := 13) rfl ?_ ?_
  ·
   clear Hz; intro hb20 Hz
   try simp only [Q1x, Q2x, Q3x, Q4x, Q5x, Q6x, Q7x, Q8x, Q9x, Q0x, Qax, Qbx] at hb20
   refine wp_cond_true (Hz.ev (x := .tmp 13) rfl) ?_
   refine wp_seq_k (fun K3 hK3 => ?_)
   refine wp_region_lit ?_
   refine goCh Hz (.move rfl <| .fieldAddr (off := 7) rfl Tryz.underlying50 rfl (s := 0) (by kernel_rfl) rfl <| .loadB1 m2 (i := 20) rfl rfl rfl Tryz.underlying2 rfl <| .nil) ?_
   clear Hz Az; intro Az Hz
   refine wpList_plain rfl (fun K hK => ?_)
   refine e_call Hz Tryz.func55 rfl rfl rfl rfl (xprune _ _ _ _ _ _ _ _ _ _ place pins ws _ _ _ _ _ _ _ _ hp (m2.into [(1, 1), (2, 2), (4, 4)] (by decide) rfl)) ?_
   rintro e w27 ⟨ne1, hi1, fl1, ws1, e1, pw27, cw27, rfl, hR, hm27⟩
   have mx27 := m2.back hm27 [(1, 1), (2, 2), (4, 4)] (by decide); clear hm27 m2
   have m27 : MemOk _ _ [(1, _), (2, _), (4, _), (3, _), (20, _)] _ := mx27.only [1, 2, 4, 3, 20]; clear mx27
   refine ⟨_, rfl, ?_⟩; clear Hz Az; intro Az Hz
   refine hK _ _ ?_; clear hK K
   refine goCh Hz (.assign rfl .nil) ?_
   clear Hz Az; intro Az Hz
   refine wpList_nil ?_
   refine hK3 _ _ ?_; clear hK3; try clear K3
   refine wp_ret ?_
   try dsimp only [Exit.then, Exit.inBlock]
   refine (ret1 (fn := Tryz.f33) Hz rfl rfl ?_)
   exact ⟨ne1, hi1, fl1, ws1, e1, _, _, rfl, by rw [doR, if_neg (by omega), if_pos (by assumption)]; exact hR, m27.only [1, 2, 3, 4]⟩
  ·
   clear Hz; intro hb20 Hz
   try simp only [Q1x, Q2x, Q3x, Q4x, Q5x, Q6x, Q7x, Q8x, Q9x, Q0x, Qax, Qbx] at hb20
   refine wp_cond_false (Hz.ev (x := .tmp 13) rfl) ?_
   refine regS Hz (.eql rfl rfl <| .assign rfl <| .nil) ?_
   clear Hz Az; intro Az Hz
   refine bool_cases Hz (t := 19) rfl ?_ ?_
   · intro hb _; exact absurd hb (by simp; omega)
   clear Hz; intro _ Hz
   refine wp_cond_false (Hz.ev (x := .tmp 19) rfl) ?_
   replace Hz : Has 45 [(0, _), (3, _), (4, _), (6, _), (7, _), (13, _)] Az := Hz.only [0, 3, 4, 6, 7, 13]
   refine regS Hz (.eql rfl rfl <| .assign rfl <| .nil) ?_
   clear Hz Az; intro Az Hz
   refine bool_cases Hz (t := 25) rfl ?_ ?_
   · intro hb _; exact absurd hb (by simp; omega)
   clear Hz; intro _ Hz
   refine wp_cond_false (Hz.ev (x := .tmp 25) rfl) ?_
   refine regS Hz (.eql rfl rfl <| .assign rfl <| .nil) ?_
   clear Hz Az; intro Az Hz
   refine bool_cases Hz (t := 31) rfl ?_ ?_
   ·
    clear Hz; intro hb39 Hz
    try simp only [Q1x, Q2x, Q3x, Q4x, Q5x, Q6x, Q7x, Q8x, Q9x, Q0x, Qax, Qbx] at hb39
    refine wp_cond_true (Hz.ev (x := .tmp 31) rfl) ?_
    refine wp_seq_k (fun K4 hK4 => ?_)
    refine wp_region_lit ?_
    refine goCh Hz (.move rfl <| .fieldAddr (off := 8) rfl Tryz.underlying50 rfl (s := 0) (by kernel_rfl) rfl <| .loadB1 m2 (i := 20) rfl rfl rfl Tryz.underlying3 rfl <| .fieldAddr (off := 9) rfl Tryz.underlying50 rfl (s := 0) (by kernel_rfl) rfl <| .loadB1 m2 (i := 20) rfl rfl rfl Tryz.underlying48 rfl <| .nil) ?_
    clear Hz Az; intro Az Hz
    refine wpList_plain rfl (fun K hK => ?_)
    refine e_call Hz Tryz.func58 rfl rfl rfl rfl (xtake _ _ _ _ _ _ _ _ _ _ place pins ws items _ _ _ _ _ _ _ _ _ _ hne hl hil hio (m2.into [(1, 1), (2, 2), (3, 3)] (by decide) rfl)) ?_
    rintro e w50 ⟨ne1, hi1, fl1, ws1, e1, pw50, cw50, rfl, hR, hm50⟩
    have mx50 := m2.back hm50 [(1, 1), (2, 2), (3, 3)] (by decide); clear hm50 m2
    have m50 : MemOk _ _ [(1, _), (2, _), (3, _), (4, _), (20, _)] _ := mx50.only [1, 2, 3, 4, 20]; clear mx50
    refine ⟨_, rfl, ?_⟩; clear Hz Az; intro Az Hz
    refine hK _ _ ?_; clear hK K
    refine goCh Hz (.assign rfl .nil) ?_
    clear Hz Az; intro Az Hz
    refine wpList_nil ?_
    refine hK4 _ _ ?_; clear hK4; try clear K4
    refine wp_ret ?_
    try dsimp only [Exit.then, Exit.inBlock]
    refine (ret1 (fn := Tryz.f33) Hz rfl rfl ?_)
    exact ⟨ne1, hi1, fl1, ws1, e1, _, _, rfl, by rw [doR, if_neg (by omega), if_neg (by omega), if_pos (by assumption)]; exact hR, m50.only [1, 2, 3, 4]⟩
   ·
    clear Hz; intro hb39 Hz
    try simp only [Q1x, Q2x, Q3x, Q4x, Q5x, Q6x, Q7x, Q8x, Q9x, Q0x, Qax, Qbx] at hb39
    refine wp_cond_false (Hz.ev (x := .tmp 31) rfl) ?_
    refine regS Hz (.eql rfl rfl <| .assign rfl <| .nil) ?_
    clear Hz Az; intro Az Hz
    refine bool_cases Hz (t := 39) rfl ?_ ?_
    ·
     clear Hz; intro hb55 Hz
     try simp only [Q1x, Q2x, Q3x, Q4x, Q5x, Q6x, Q7x, Q8x, Q9x, Q0x, Qax, Qbx] at hb55
     refine wp_cond_true (Hz.ev (x := .tmp 39) rfl) ?_
     refine wp_seq_k (fun K5 hK5 => ?_)
     refine wp_region_lit ?_
     refine goCh Hz (.move rfl .nil) ?_
     clear Hz Az; intro Az Hz
     refine wpList_plain rfl (fun K hK => ?_)
     refine e_call Hz Tryz.func59 rfl rfl rfl rfl (xpublish _ _ _ _ _ _ _ _ _ _ place pins ws _ _ _ _ _ _ _ (m2.into [(1, 1), (2, 2)] (by decide) rfl)) ?_
     rintro e w58 ⟨ne1, hi1, fl1, ws1, e1, pw58, cw58, rfl, hR, hm58⟩
     have mx58 := m2.back hm58 [(1, 1), (2, 2)] (by decide); clear hm58 m2
     have m58 : MemOk _ _ [(1, _), (2, _), (3, _), (4, _), (20, _)] _ := mx58.only [1, 2, 3, 4, 20]; clear mx58
     refine ⟨_, rfl, ?_⟩; clear Hz Az; intro Az Hz
     refine hK _ _ ?_; clear hK K
     refine goCh Hz (.assign rfl .nil) ?_
     clear Hz Az; intro Az Hz
     refine wpList_nil ?_
     refine hK5 _ _ ?_; clear hK5; try clear K5
     refine wp_ret ?_
     try dsimp only [Exit.then, Exit.inBlock]
     refine (ret1 (fn := Tryz.f33) Hz rfl rfl ?_)
     exact ⟨ne1, hi1, fl1, ws1, e1, _, _, rfl, by rw [doR, if_neg (by omega), if_neg (by omega), if_neg (by omega), if_pos (by assumption)]; exact hR, m58.only [1, 2, 3, 4]⟩
    ·
     clear Hz; intro hb55 Hz
     try simp only [Q1x, Q2x, Q3x, Q4x, Q5x, Q6x, Q7x, Q8x, Q9x, Q0x, Qax, Qbx] at hb55
     refine wp_cond_false (Hz.ev (x := .tmp 39) rfl) ?_
     replace Hz : Has 45 [(4, _), (6, _), (7, _), (13, _), (31, _), (39, _)] Az := Hz.only [4, 6, 7, 13, 31, 39]
     refine regS Hz (.eql rfl rfl <| .assign rfl <| .nil) ?_
     clear Hz Az; intro Az Hz
     refine bool_cases Hz (t := 43) rfl ?_ ?_
     ·
      clear Hz; intro hb64 Hz
      try simp only [Q1x, Q2x, Q3x, Q4x, Q5x, Q6x, Q7x, Q8x, Q9x, Q0x, Qax, Qbx] at hb64
      refine wp_cond_true (Hz.ev (x := .tmp 43) rfl) ?_
      refine regS Hz (.assign rfl <| .nil) ?_
      clear Hz Az; intro Az Hz
      refine wp_ret ?_
      try dsimp only [Exit.then, Exit.inBlock]
      refine (ret1 (fn := Tryz.f33) Hz rfl rfl ?_)
      exact ⟨ne, hi, fl, ws, 0, _, _, rfl, by rw [doR, if_neg (by omega), if_neg (by omega), if_neg (by omega), if_neg (by omega), if_pos (by assumption)], m2.only [1, 2, 3, 4]⟩
     ·
      clear Hz; intro hb64 Hz
      try simp only [Q1x, Q2x, Q3x, Q4x, Q5x, Q6x, Q7x, Q8x, Q9x, Q0x, Qax, Qbx] at hb64
      refine wp_cond_false (Hz.ev (x := .tmp 43) rfl) ?_
      refine wp_skip ?_
      refine hK1 _ _ ?_; clear hK1; try clear K1
      refine regS Hz (.assign rfl <| .nil) ?_
      clear Hz Az; intro Az Hz
      refine wp_ret ?_
      try dsimp only [Exit.then, Exit.inBlock]
      refine (ret1 (fn := Tryz.f33) Hz rfl rfl ?_)
      exact ⟨ne, hi, fl, ws, 23, _, _, rfl, by rw [doR, if_neg (by omega), if_neg (by omega), if_neg (by omega), if_neg (by omega), if_neg (by omega)], m2.only [1, 2, 3, 4]⟩
theorem xDo (X : Cx) (vo bl sz pe to ne fl : Int) (hi : Bool) (place pins : List Int) (ws : List (Int × List (Int × List Int))) (items : List (Int × List Int)) (pp pn pw : Option Addr) (cp cn9 cw : Nat) (pi : Option Addr) (ci : Nat) (kd v1 v2 v3 v4 v5 at0 ix : Int) (q1 : Option Addr) (n1 c1 : Nat) (w0 : World) (hn : place.length ≤ 1000000) (hk4 : kd ≠ 4) (hk5 : kd ≠ 5) (hne : -1000000000000000 ≤ ne ∧ ne ≤ 1000000000000000) (hl : ws.length ≤ 900000) (hp : pins.length ≤ 1000000) (hil : items.length ≤ 1000000) (hio : ItsOk items) (hok : WrsOk ws) (m0 : MemOk X w0 [(1, .dat (.slice pp place.length cp) (.ns .i64 place)), (2, .dat (.slice pn pins.length cn9) (.ns .i64 pins)), (3, .dat (.slice pw (ws.map wrD).length cw) (.l 2 (ws.map wrD))), (4, .dat (.slice pi items.length ci) (.l 2 (items.map itD)))] w0) :
   Calls Tryz.prog 14 #[.agg #[.int .i64 vo, .int .i64 bl, .int .i64 sz, .int .i64 pe, .slice pp place.length cp, .int .i64 to, .int .i64 ne, .bool hi, .int .i64 fl, .slice pn pins.length cn9, .slice pw (ws.map wrD).length cw], .agg #[.int .i64 kd, .int .i64 v1, .int .i64 v2, .int .i64 v3, .int .i64 v4, .slice q1 n1 c1, .int .i64 v5, .int .i64 at0, .int .i64 ix, .slice pi items.length ci]] w0 fun e w' => ∃ (ne' : Int) (hi' : Bool) (fl' : Int) (ws' : List (Int × List (Int × List Int))) (e9 rl rf rn : Int) (p1' : Option Addr) (d1' : Nat) (p2' : Option Addr) (d2' : Nat) (p3' : Option Addr) (d3' : Nat), e = .returned (.tuple #[.agg #[.int .i64 vo, .int .i64 bl, .int .i64 sz, .int .i64 pe, .slice p1' place.length d1', .int .i64 to, .int .i64 ne', .bool hi', .int .i64 fl', .slice p2' pins.length d2', .slice p3' (ws'.map wrD).length d3'], .agg #[.int .i64 e9, .int .i64 rl, .int .i64 rf, .int .i64 rn, .slice none 0 0]]) ∧ doR bl sz to ne fl hi pins ws kd at0 ix items = (ne', hi', fl', ws', e9) ∧ ((e9 ≠ 0 ∧ rl = 0 ∧ rf = 0 ∧ rn = 0) ∨ (e9 = 0 ∧ rl = ws'.length ∧ rf = fl' ∧ rn = ne')) ∧ MemOk X w0 [(1, .dat (.slice pp place.length cp) (.ns .i64 place)), (2, .dat (.slice pn pins.length cn9) (.ns .i64 pins)), (3, .dat (.slice pw (ws.map wrD).length cw) (.l 2 (ws.map wrD))), (4, .dat (.slice pi items.length ci) (.l 2 (items.map itD))), (5, .dat (.slice p1' place.length d1') (.ns .i64 place)), (6, .dat (.slice p2' pins.length d2') (.ns .i64 pins)), (7, .seg (.slice p3' (ws'.map wrD).length d3') 58 2 (ws'.map wrD))] w' := by
 refine enter (fn := Tryz.f14) Tryz.func14 rfl Tryz.ntmps14 rfl (fun Az Hz => ?_)
 simp only [List.zipIdx_cons, List.zipIdx_nil, List.map_cons, List.map_nil, Nat.reduceAdd, Nat.zero_add] at Hz
 refine wp_seq_k (fun K0 hK0 => ?_)
 refine wp_region_lit ?_
 refine wpList_plain rfl (fun K hK => ?_)
 refine e_box Hz m0 20 (cs := [_, _, _, _, _, _, _, _, _, _, _]) rfl rfl rfl ?_
 clear Hz Az m0; intro g1 Az w2 Hz m2 hB2 hg2
 clear hB2 hg2
 refine hK _ _ ?_; clear hK K
 refine wpList_plain rfl (fun K hK => ?_)
 refine e_box Hz m2 21 (cs := [_, _, _, _, _, _, _, _, _, _]) rfl rfl rfl ?_
 clear Hz Az m2; intro g3 Az w4 Hz m4 hB4 hg4
 clear hB4 hg4
 refine hK _ _ ?_; clear hK K
 refine wpList_plain rfl (fun K hK => ?_)
 refine e_alloc Hz m4 22 zc28xD rfl ?_
 clear Hz Az m4; intro g5 Az w6 Hz m6 hB6 hg6
 clear hB6 hg6
 refine hK _ _ ?_; clear hK K
 refine wpList_plain rfl (fun K hK => ?_)
 refine e_alloc Hz m6 23 zc45xD rfl ?_
 clear Hz Az m6; intro g7 Az w8 Hz m8 hB8 hg8
 clear hB8 hg8
 refine hK _ _ ?_; clear hK K
 refine wpList_nil ?_
 refine hK0 _ _ ?_; clear hK0; try clear K0
 refine wp_seq_k (fun K1 hK1 => ?_)
 refine wp_region_lit ?_
 refine goCh Hz (.loadBR m8 (i := 20) rfl rfl Tryz.underlying28 rfl sz28xD (by simp) (by dsimp only [List.drop, List.take] <;> rfl) .nil) ?_
 clear Hz Az; intro Az Hz
 refine wpList_plain rfl (fun K hK => ?_)
 refine e_call Hz Tryz.func32 rfl rfl rfl rfl (volcopy_fr _ _ _ _ _ _ _ _ _ place pins ws _ _ _ _ _ _ _ hn hp (by omega) hok (m8.into [(1, 1), (2, 2), (3, 3)] (by decide) rfl)) ?_
 rintro e w11 ⟨p111, c111, p211, c211, p311, c311, rfl, hm11⟩
 have mx11 := m8.back hm11 [(1, 1), (2, 2), (3, 3), (24, 4), (25, 5), (26, 6)] (by decide); clear hm11 m8
 have m11 : MemOk _ _ [(1, _), (2, _), (3, _), (24, _), (25, _), (26, _), (4, _), (20, _), (21, _), (22, _), (23, _)] _ := mx11.only [1, 2, 3, 24, 25, 26, 4, 20, 21, 22, 23]; clear mx11
 refine ⟨_, rfl, ?_⟩; clear Hz Az; intro Az Hz
 refine hK _ _ ?_; clear hK K
 refine wpList_plain rfl (fun K hK => ?_)
 refine e_storeW Hz m11 20 rfl rfl rfl rfl rfl sz28xD ?_
 clear m11; intro w13 m13 hB13
 clear hB13
 refine hK _ _ ?_; clear hK K
 refine wpList_nil ?_
 refine hK1 _ _ ?_; clear hK1; try clear K1
 refine wp_seq_k (fun K2 hK2 => ?_)
 refine wp_seq_k (fun K3 hK3 => ?_)
 refine wp_region_lit ?_
 refine goCh Hz (.loadBR m13 (i := 21) rfl rfl Tryz.underlying50 rfl sz50xD (by simp) (by dsimp only [List.drop, List.take] <;> rfl) .nil) ?_
 clear Hz Az; intro Az Hz
 refine wpList_plain rfl (fun K hK => ?_)
 refine e_call Hz Tryz.func33 rfl rfl rfl rfl (xdo _ _ _ _ _ _ _ _ _ _ place pins ws items _ _ _ _ _ _ _ _ kd _ _ _ _ _ _ _ _ _ _ _ hk4 hk5 hne hl hp hil hio (m13.into [(1, 20), (2, 26), (3, 4), (4, 25)] (by decide) rfl)) ?_
 rintro e w16 ⟨ne1, hi1, fl1, ws1, e1, pw16, cw16, rfl, hR, hm16⟩
 have mx16 := m13.back hm16 [(20, 1), (26, 2), (4, 3), (25, 4)] (by decide); clear hm16 m13
 have m16 : MemOk _ _ [(20, _), (26, _), (4, _), (25, _), (1, _), (2, _), (3, _), (21, _), (22, _), (23, _), (24, _)] _ := mx16.only [20, 26, 4, 25, 1, 2, 3, 21, 22, 23, 24]; clear mx16
 refine ⟨_, rfl, ?_⟩; clear Hz Az; intro Az Hz
 refine hK _ _ ?_; clear hK K
 refine goCh Hz (.assign rfl .nil) ?_
 clear Hz Az; intro Az Hz
 refine wpList_nil ?_
 refine hK3 _ _ ?_; clear hK3; try clear K3
 replace Hz : Has 24 [(2, _), (4, _), (5, _), (6, _)] Az := Hz.only [2, 4, 5, 6]
 refine regS Hz (.move rfl <| .neq rfl rfl <| .nil) ?_
 clear Hz Az; intro Az Hz
 refine bool_cases Hz (t := 12) rfl ?_ ?_
 ·
  clear Hz; intro hb22 Hz
  try simp only [Q1x, Q2x, Q3x, Q4x, Q5x, Q6x, Q7x, Q8x, Q9x, Q0x, Qax, Qbx] at hb22
  refine wp_cond_true (Hz.ev (x := .tmp 12) rfl) ?_
  refine wp_seq_k (fun K4 hK4 => ?_)
  refine wp_region_lit ?_
  refine goCh Hz (.loadBR m16 (i := 20) rfl rfl Tryz.underlying28 rfl sz28xD (by simp) (by dsimp only [List.drop, List.take] <;> rfl) <| .move rfl <| .build rfl zc45xD fl45xD rfl (by dsimp only [setL, List.set] <;> rfl) <| .nil) ?_
  clear Hz Az; intro Az Hz
  refine wpList_plain rfl (fun K hK => ?_)
  refine e_storeW Hz m16 22 rfl rfl rfl rfl rfl sz28xD ?_
  clear m16; intro w29 m29 hB29
  clear hB29
  refine hK _ _ ?_; clear hK K
  refine wpList_plain rfl (fun K hK => ?_)
  refine e_storeW Hz m29 23 rfl rfl rfl rfl rfl sz45xD ?_
  clear m29; intro w30 m30 hB30
  clear hB30
  refine hK _ _ ?_; clear hK K
  refine wpList_nil ?_
  refine hK4 _ _ ?_; clear hK4; try clear K4
  refine wp_ret ?_
  try dsimp only [Exit.then, Exit.inBlock]
  refine (retCC (fn := Tryz.f14) Hz m30 (i := 22) (i2 := 23) rfl rfl rfl rfl rfl Tryz.underlying28 rfl sz28xD Tryz.underlying45 rfl sz45xD ?_)
  exact ⟨ne1, hi1, fl1, ws1, e1, 0, 0, 0, _, _, _, _, _, _, rfl, hR, .inl ⟨by assumption, rfl, rfl, rfl⟩, m30.ren [(1, 1), (2, 2), (3, 3), (4, 4), (5, 24), (6, 25), (7, 26)] (by decide)⟩
 ·
  clear Hz; intro hb22 Hz
  try simp only [Q1x, Q2x, Q3x, Q4x, Q5x, Q6x, Q7x, Q8x, Q9x, Q0x, Qax, Qbx] at hb22
  refine wp_cond_false (Hz.ev (x := .tmp 12) rfl) ?_
  refine wp_skip ?_
  refine hK2 _ _ ?_; clear hK2; try clear K2
  refine wp_seq_k (fun K5 hK5 => ?_)
  have m31 : MemOk _ _ [(1, _), (2, _), (3, _), (4, _), (20, _), (21, _), (22, _), (23, _), (24, _), (25, _), (26, _)] _ := m16.only [1, 2, 3, 4, 20, 21, 22, 23, 24, 25, 26]; clear m16
  refine region_p 10 (B := [(20, _)]) (m31.to ⟨il, trivial⟩) m31 (by kernel_rfl) (fun w32 hP32 m32 => ?_); clear m31
  refine goR hP32 [0, 1, 3, 4, 5, 6] [0, 1, 4, 6] 6 0 123 Hz (m32.to ⟨il, trivial⟩) (.loadBR hh (i := 20) rfl rfl Tryz.underlying28 rfl sz28xD (by simp) (by dsimp only [List.drop, List.take] <;> rfl) <| .loadBR hh (i := 20) rfl rfl Tryz.underlying28 rfl sz28xD (by simp) (by dsimp only [List.drop, List.take] <;> rfl) <| .fieldAddr (off := 8) rfl Tryz.underlying28 rfl (s := 0) (by kernel_rfl) rfl <| .loadB1 hh (i := 20) rfl rfl rfl Tryz.underlying2 rfl <| .fieldAddr (off := 6) rfl Tryz.underlying28 rfl (s := 0) (by kernel_rfl) rfl <| .loadB1 hh (i := 20) rfl rfl rfl Tryz.underlying3 rfl <| .nil) ?_
  clear Hz Az; intro Az Hz
  refine stepE_only 2 rfl (by kernel_rfl) rfl (fun K hK => ?_)
  refine e_call Hz Tryz.func18 rfl rfl rfl rfl (vlen_any _ _ _ _ _ _ _ _ _ _ _ _ _ _ _ _ _ _) ?_
  rintro e w39 ⟨rfl, hb39⟩
  have m40 := m32.later hb39
  clear m32
  clear hb39
  refine ⟨_, rfl, ?_⟩; clear Hz Az; intro Az Hz
  refine hK _ _ (m40.to ⟨il, trivial⟩) ?_; clear hK K
  refine goA hP32 [7] 1 127 255 Hz (m40.to ⟨il, trivial⟩) (.build rfl zc45xD fl45xD rfl (by dsimp only [setL, List.set] <;> rfl) <| .nil) ?_
  clear Hz Az; intro Az Hz
  refine stepE_only 8 rfl (by kernel_rfl) rfl (fun K hK => ?_)
  refine e_storeW Hz m40 22 rfl rfl rfl rfl rfl sz28xD ?_
  clear m40; intro w43 m43 hB43
  clear hB43
  refine hK _ _ (m43.to ⟨il, trivial⟩) ?_; clear hK K
  refine stepE_only 9 rfl (by kernel_rfl) rfl (fun K hK => ?_)
  refine e_storeW Hz m43 23 rfl rfl rfl rfl rfl sz45xD ?_
  clear m43; intro w44 m44 hB44
  clear hB44
  refine hK _ _ (m44.to ⟨il, trivial⟩) ?_; clear hK K
  refine wpAnyE_done (by kernel_rfl) ?_ _
  refine hK5 _ _ ?_; clear hK5; try clear K5
  refine wp_ret ?_
  try dsimp only [Exit.then, Exit.inBlock]
  refine (retCC (fn := Tryz.f14) Hz m44 (i := 22) (i2 := 23) rfl rfl rfl rfl rfl Tryz.underlying28 rfl sz28xD Tryz.underlying45 rfl sz45xD ?_)
  obtain rfl : e1 = 0 := by first | assumption | (simp_all; done) | omega
  exact ⟨ne1, hi1, fl1, ws1, 0, ws1.length, fl1, ne1, _, _, _, _, _, _, by rw [List.length_map], hR, .inr ⟨rfl, rfl, rfl, rfl⟩, m44.ren [(1, 1), (2, 2), (3, 3), (4, 4), (5, 24), (6, 25), (7, 26)] (by decide)⟩
end Go.Proofs.YtocfbocdnklllaaGreat.K
