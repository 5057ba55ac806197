/- General laws of walks. -/
import Derived.Test.YtkehgingagggaaaGreatG8
import Derived.Test.YtkehgingagggaaaGreatG4
import Derived.Sort.OwnSortedInts
import Derived.Shelf.SlGeneric
import Derived.Shelf.SortG.Plain
import Derived.Shelf.SortG.SortNone
import Derived.Shelf.SlicesG.Delete
import Derived.Shelf.SlicesG.Turned
import Derived.Ground.SlgnProg
import Derived.Test.YtkehgingagggaaaGreatProg
namespace Go.Proofs.YtkehgingagggaaaGreat.K
open Go.ChangeShapes Go.WideShapes Go.ChangeAt Go.RowKit
set_option linter.unusedVariables false
set_option linter.unusedSimpArgs false
section
theorem fl103xw : flatS Tryz.prog 103 [.int .i64 0, .slice none 0 0] = true := by kernel_rfl
theorem fl44xD : flatS Tryz.prog 44 [.int .i64 0, .int .i64 0, .int .i64 0, .int .i64 0, .slice none 0 0] = true := by kernel_rfl
open Classical in
noncomputable def wrR (bl sz : Int) (ws : List (Int × List (Int × List Int))) (it : List (Int × List Int)) : List (Int × List (Int × List Int)) × Int := if ItemsR bl sz it then (ws ++ [((ws.length : Int) + 1, it)], 0) else (ws, 23)
abbrev VolO := Int × Bool × Int × List (Int × List (Int × List Int)) × Int
noncomputable def putR (bl sz ne fl : Int) (hi : Bool) (ws : List (Int × List (Int × List Int))) (it : List (Int × List Int)) : VolO := if hi = true then (ne, hi, fl, ws, 28) else (ne, hi, fl, (wrR bl sz ws it).1, (wrR bl sz ws it).2)
def reachR (hi : Bool) (fl at0 nd : Int) : Int := if hi = true then 28 else if at0 < fl then 30 else if nd < at0 then 31 else 0
def pruneR (ne fl : Int) (hi : Bool) (pins : List Int) (ws : List (Int × List (Int × List Int))) (at0 : Int) : VolO := if reachR hi fl at0 (lowL ws.length pins) = 0 then (ne, hi, at0, ws, 0) else (ne, hi, fl, ws, reachR hi fl at0 (lowL ws.length pins))
noncomputable def takeR (bl sz to ne fl : Int) (hi : Bool) (ws : List (Int × List (Int × List Int))) (ix : Int) (it : List (Int × List Int)) : VolO :=
 if hi = false then (ne, hi, fl, ws, 33) else if 0 ≤ ix ∧ ix ≤ ne - 1 then (ne, hi, fl, ws, 0) else if ix ≠ ne ∨ ne = to then (ne, hi, fl, ws, 33)
 else if (wrR bl sz ws it).2 = 0 then (ne + 1, hi, fl, (wrR bl sz ws it).1, 0) else (ne, hi, fl, (wrR bl sz ws it).1, (wrR bl sz ws it).2)
def publishR (to ne fl : Int) (hi : Bool) (ws : List (Int × List (Int × List Int))) : VolO := if hi = false ∨ ne ≠ to then (ne, hi, fl, ws, 33) else (ne, false, (ws.length : Int), ws, 0)
noncomputable def doR (bl sz to ne fl : Int) (hi : Bool) (pins : List Int) (ws : List (Int × List (Int × List Int))) (kd at0 ix : Int) (it : List (Int × List Int)) : VolO :=
 if kd = 2 then putR bl sz ne fl hi ws it else if kd = 3 then pruneR ne fl hi pins ws at0 else if kd = 6 then takeR bl sz to ne fl hi ws ix it
 else if kd = 7 then publishR to ne fl hi ws else if kd = 8 then (ne, hi, fl, ws, 0) else (ne, hi, fl, ws, 23)
set_option maxRecDepth 100000
set_option maxHeartbeats 4000000
theorem low_nn (vo bl sz pe to ne fl : Int) (hi : Bool) (place pins : List Int) (ws : List (Int × List (Int × List Int))) (pp pn pw : Option Addr) (cp cn9 cw : Nat) (nn : Nat) (w0 : World) (h1 : Rd (fun _ => True) w0 (.slice pn pins.length cn9) (.ns .i64 pins)) (hp : pins.length ≤ 1000000) (hnn : nn = ws.length := by simp) :
   Calls Tryz.prog 170 #[.agg #[.int .i64 vo, .int .i64 bl, .int .i64 sz, .int .i64 pe, .slice pp place.length cp, .int .i64 to, .int .i64 ne, .bool hi, .int .i64 fl, .slice pn pins.length cn9, .slice pw nn cw]] w0 fun e w' => e = .returned (.int .i64 (lowL ws.length pins)) ∧ Below w0.heap.size w0 w' := by
 subst hnn; exact low_any vo bl sz pe to ne fl hi place pins ws pp pn pw cp cn9 cw w0 h1 hp
theorem xwrite (X : Cx) (B : Nat) (vo bl sz pe to ne fl : Int) (hi : Bool) (place pins : List Int) (ws : List (Int × List (Int × List Int))) (items : List (Int × List Int)) (pp pn pw : Option Addr) (cp cn9 cw : Nat) (pi : Option Addr) (ci : Nat) (w0 : World) (hl : ws.length ≤ 900000) (hil : items.length ≤ 1000000) (hio : ItsOk items) (m0 : MemOk X w0 [(1, .box B 51 [.int .i64 vo, .int .i64 bl, .int .i64 sz, .int .i64 pe, .slice pp place.length cp, .int .i64 to, .int .i64 ne, .bool hi, .int .i64 fl, .slice pn pins.length cn9, .slice pw (ws.map wrD).length cw]), (2, .seg (.slice pw (ws.map wrD).length cw) 103 2 (ws.map wrD)), (3, .dat (.slice pi items.length ci) (.l 2 (items.map itD)))] w0) :
   Calls Tryz.prog 168 #[.pointer (some ⟨B, 0, none⟩), .slice pi items.length ci] w0 fun e w' => ∃ (ws' : List (Int × List (Int × List Int))) (e9 : Int) (pw' : Option Addr) (cw' : Nat), e = .returned (.int .i64 e9) ∧ wrR bl sz ws items = (ws', e9) ∧ MemOk X w0 [(1, .box B 51 [.int .i64 vo, .int .i64 bl, .int .i64 sz, .int .i64 pe, .slice pp place.length cp, .int .i64 to, .int .i64 ne, .bool hi, .int .i64 fl, .slice pn pins.length cn9, .slice pw' (ws'.map wrD).length cw']), (2, .seg (.slice pw' (ws'.map wrD).length cw') 103 2 (ws'.map wrD)), (3, .dat (.slice pi items.length ci) (.l 2 (items.map itD)))] w' := by
 refine ent2 Tryz.func168 rfl Tryz.ntmps168 fun Az Hz => ?_
 refine regS Hz (.assign rfl .nil) fun Az Hz => ?_
 refine wsk fun K0 hK0 => ?_
 refine wsk fun K1 hK1 => ?_
 have m2 := m0.oz [1, 2, 3]
 refine region_p 11 (B := [(1, _), (2, _), (3, _)]) (m2.to ⟨il, il, il, trivial⟩) m2 (by kernel_rfl) (fun w3 hP3 m3 => ?_); clear m2
 refine goR hP3 [0, 1, 2, 3, 4, 5, 6, 7, 8] [3, 7] 9 0 511 Hz (m3.to ⟨il, il, il, trivial⟩) (.move rfl <| .nilCheck rfl <| .fa 1 rfl U51 <| .lb hh 1 U3 rfl rfl rfl <| .move rfl <| .nilCheck rfl <| .fa 2 rfl U51 <| .lb hh 1 U3 rfl rfl rfl <| .move rfl .nil) fun Az Hz => ?_
 refine so 9 ?_
 refine ecl Hz Tryz.func113 rfl (vitems_nn _ _ items _ _ _ _ ((m3.rd (i := 3) rfl).any) hil) ?_
 rintro e w13 ⟨ib, rfl, hib, hb13⟩
 have m14 := m3.later hb13
 refine ⟨_, rfl, ?_⟩; intro Az Hz
 refine ⟨m14.to ⟨il, il, il, trivial⟩, ?_⟩
 refine goA hP3 [10] 1 1023 2047 Hz (m14.to ⟨il, il, il, trivial⟩) (.not rfl .nil) fun Az Hz => ?_
 refine wpAnyE_done (by kernel_rfl) ?_ _
 refine hK1 _ _ ?_
 refine bc Hz 15 ?_ ?_
 ·
  intro hb17 Hz; try simp only [QQ, Qax] at hb17
  refine wct Hz ?_
  replace Hz := Hz.oz [0, 1, 4, 15]
  refine regS Hz (.assign rfl .nil) fun Az Hz => ?_
  refine rt1 Hz ?_
  exact ⟨ws, 23, _, _, rfl, by rw [wrR, if_neg (fun h => by have h9 := hib.2 h; simp_all)], m14.only [1, 2, 3]⟩
 intro hb17 Hz; try simp only [QQ, Qax] at hb17
 refine wcf Hz ?_
 refine zss (hK0 _ _ ?_)
 refine wsk fun K2 hK2 => ?_
 replace Hz := Hz.oz [0, 1, 4, 15]
 have m21 := m14.oz [1, 2, 3]
 refine region_p 14 (B := [(1, _), (2, _), (3, _)]) (m21.to ⟨il, il, il, trivial⟩) m21 (by kernel_rfl) (fun w22 hP22 m22 => ?_); clear m21
 refine goR hP22 [0, 1, 2, 3, 4, 5, 6, 7, 10] [4, 7] 9 0 1279 Hz (m22.to ⟨il, il, il, trivial⟩) (.move rfl <| .move rfl <| .nilCheck rfl <| .fa 10 rfl U51 <| .lb hh 1 U49 rfl rfl rfl <| .move rfl <| .nilCheck rfl <| .loadBR hh (i := 1) rfl rfl U51 rfl fct13 (by simp) (by dsimp only [List.drop, List.take] <;> rfl) <| .move rfl .nil) fun Az Hz => ?_
 refine so 8 ?_
 refine ecb Hz Tryz.func111 rfl m22 (vlen_any _ _ _ _ _ _ _ _ _ _ _ _ _ _ _ _ _ _) fun Az w32 Hz m33 => ?_
 refine ⟨m33.to ⟨il, il, il, trivial⟩, ?_⟩
 refine goA hP22 [9] 1 1535 2047 Hz (m33.to ⟨il, il, il, trivial⟩) (.add rfl rfl (r := (ws.length : Int) + 1) (by rw [List.length_map]; exact IntWalk.i64_in _ (by omega)) .nil) fun Az Hz => ?_
 refine so 11 ?_
 refine ecl Hz Tryz.func137 rfl (items_any items _ _ _ _ ((m33.rd (i := 3) rfl).any) hil hio) ?_
 rintro e w36 ⟨p36, c36, rfl, hd36, hb36⟩
 have m37 := m33.callF 20 rfl hb36 hd36
 refine ⟨_, rfl, ?_⟩; intro Az Hz
 refine ⟨m37.to ⟨il, il, il, trivial⟩, ?_⟩
 refine goA hP22 [12] 1 4095 8191 Hz (m37.to ⟨il, il, il, trivial⟩) (.build rfl fct8 fl103xw rfl (by dsimp only [setL, List.set] <;> rfl) .nil) fun Az Hz => ?_
 refine so 13 ?_
 refine e_litR Hz m37 21 (mm := 2) rfl (.cons rfl rfl (.cons (.v _) (.cons (m37.rd (i := 20) rfl) .nil)) .nil) U49 fct9 rfl rfl rfl rfl rfl fun g40 Az w41 Hz m41 => ?_
 refine ⟨m41.to ⟨il, il, il, trivial⟩, ?_⟩
 have m43 := m41.freezeR 21 rfl
 refine se 14 ?_
 refine e_appSA Hz m43 2 rfl rfl rfl (m43.rd (i := 21) rfl).cells U49 fct9 rfl rfl (by decide) (by simp; omega) rfl fun p42 c42 Az w44 Hz m44 => ?_
 refine goB hP22 [15, 16] 2 32767 131071 Hz (.nilCheck rfl <| .fa 10 rfl U51 .nil) fun Az Hz => ?_
 refine se 17 ?_
 refine st1 Hz m44 1 fct12 fun w47 m47 _ => ?_
 refine wpAnyE_done (by kernel_rfl) ?_ _
 refine hK2 _ _ ?_
 replace Hz := Hz.oz [4, 15]
 refine regS Hz (.assign rfl .nil) fun Az Hz => ?_
 refine rt1 Hz ?_
 have hE : ws.map wrD ++ [[D.v (.int .i64 ((ws.length : Int) + 1)), .l 2 (items.map itD)]] = (ws ++ [((ws.length : Int) + 1, items)]).map wrD := by rw [List.map_append]; rfl
 rw [hE] at m47
 exact ⟨(ws ++ [((ws.length : Int) + 1, items)]), 0, _, _, rfl, by rw [wrR, if_pos (hib.1 (by simp_all))], m47.only [1, 2, 3]⟩
theorem xput (X : Cx) (B : Nat) (vo bl sz pe to ne fl : Int) (hi : Bool) (place pins : List Int) (ws : List (Int × List (Int × List Int))) (items : List (Int × List Int)) (pp pn pw : Option Addr) (cp cn9 cw : Nat) (pi : Option Addr) (ci : Nat) (w0 : World) (hl : ws.length ≤ 900000) (hil : items.length ≤ 1000000) (hio : ItsOk items) (m0 : MemOk X w0 [(1, .box B 51 [.int .i64 vo, .int .i64 bl, .int .i64 sz, .int .i64 pe, .slice pp place.length cp, .int .i64 to, .int .i64 ne, .bool hi, .int .i64 fl, .slice pn pins.length cn9, .slice pw (ws.map wrD).length cw]), (2, .seg (.slice pw (ws.map wrD).length cw) 103 2 (ws.map wrD)), (3, .dat (.slice pi items.length ci) (.l 2 (items.map itD)))] w0) :
   Calls Tryz.prog 146 #[.pointer (some ⟨B, 0, none⟩), .slice pi items.length ci] w0 fun e w' => ∃ (ne' : Int) (hi' : Bool) (fl' : Int) (ws' : List (Int × List (Int × List Int))) (e9 : Int) (pw' : Option Addr) (cw' : Nat), e = .returned (.int .i64 e9) ∧ putR bl sz ne fl hi ws items = (ne', hi', fl', ws', e9) ∧ MemOk X w0 [(1, .box B 51 [.int .i64 vo, .int .i64 bl, .int .i64 sz, .int .i64 pe, .slice pp place.length cp, .int .i64 to, .int .i64 ne', .bool hi', .int .i64 fl', .slice pn pins.length cn9, .slice pw' (ws'.map wrD).length cw']), (2, .seg (.slice pw' (ws'.map wrD).length cw') 103 2 (ws'.map wrD)), (3, .dat (.slice pi items.length ci) (.l 2 (items.map itD)))] w' := by
 refine ent2 Tryz.func146 rfl Tryz.ntmps146 fun Az Hz => ?_
 refine regS Hz (.assign rfl .nil) fun Az Hz => ?_
 refine wsk fun K0 hK0 => ?_
 refine regS Hz (.move rfl <| .nilCheck rfl <| .fa 7 rfl U51 <| .lb m0 1 U4 rfl rfl rfl .nil) fun Az Hz => ?_
 refine bc Hz 8 ?_ ?_
 ·
  intro hb6 Hz; try simp only [QQ, Qax] at hb6
  refine wct Hz ?_
  refine regS Hz (.assign rfl .nil) fun Az Hz => ?_
  refine rt1 Hz ?_
  exact ⟨ne, hi, fl, ws, 28, _, _, rfl, by rw [putR, if_pos (by assumption)], m0.only [1, 2, 3]⟩
 intro hb6 Hz; try simp only [QQ, Qax] at hb6
 refine wcf Hz ?_
 refine zss (hK0 _ _ ?_)
 refine zsr fun K1 hK1 => ?_
 refine goCh Hz (.move rfl <| .move rfl .nil) fun Az Hz => ?_
 refine plz (ecl Hz Tryz.func168 rfl (xwrite _ _ _ _ _ _ _ _ _ _ place pins ws items _ _ _ _ _ _ _ _ _ hl hil hio (m0.into [(1, 1), (2, 2), (3, 3)] (by decide) rfl)) ?_)
 rintro e w12 ⟨wx, ex, pw12, cw12, rfl, hw, hm12⟩
 have mx12 := m0.back hm12 [(1, 1), (2, 2), (3, 3)] (by decide); clear hm12 m0
 have m12 := mx12.oz [1, 2, 3]
 refine ⟨_, rfl, ?_⟩; intro Az Hz
 refine gz hK1 Hz (.assign rfl .nil) fun Az Hz => ?_
 refine rt1 Hz ?_
 exact ⟨ne, hi, fl, wx, ex, _, _, rfl, by rw [putR, if_neg (by simp_all), hw], m12.only [1, 2, 3]⟩
theorem xreach (X : Cx) (B : Nat) (vo bl sz pe to ne fl : Int) (hi : Bool) (place pins : List Int) (ws : List (Int × List (Int × List Int))) (pp pn pw : Option Addr) (cp cn9 cw : Nat) (at0 nd : Int) (w0 : World) (m0 : MemOk X w0 [(1, .box B 51 [.int .i64 vo, .int .i64 bl, .int .i64 sz, .int .i64 pe, .slice pp place.length cp, .int .i64 to, .int .i64 ne, .bool hi, .int .i64 fl, .slice pn pins.length cn9, .slice pw (ws.map wrD).length cw])] w0) :
   Calls Tryz.prog 169 #[.pointer (some ⟨B, 0, none⟩), .int .i64 at0, .int .i64 nd] w0 fun e w' => ∃ e9 : Int, e = .returned (.int .i64 e9) ∧ reachR hi fl at0 nd = e9 ∧ MemOk X w0 [(1, .box B 51 [.int .i64 vo, .int .i64 bl, .int .i64 sz, .int .i64 pe, .slice pp place.length cp, .int .i64 to, .int .i64 ne, .bool hi, .int .i64 fl, .slice pn pins.length cn9, .slice pw (ws.map wrD).length cw])] w' := by
 refine ent3 Tryz.func169 rfl Tryz.ntmps169 fun Az Hz => ?_
 refine regS Hz (.assign rfl .nil) fun Az Hz => ?_
 refine wsk fun K0 hK0 => ?_
 refine wp_block ?_
 refine regS Hz (.move rfl <| .nilCheck rfl <| .fa 7 rfl U51 <| .lb m0 1 U4 rfl rfl rfl <| .assign rfl .nil) fun Az Hz => ?_
 refine bc Hz 7 ?_ ?_
 ·
  intro hb7 Hz; try simp only [QQ, Qax] at hb7
  refine wct Hz ?_
  refine regS Hz (.assign rfl .nil) fun Az Hz => ?_
  refine rt1 Hz ?_
  exact ⟨_, rfl, by rw [reachR, if_pos (by assumption)], m0.only [1]⟩
 intro hb7 Hz; try simp only [QQ, Qax] at hb7
 refine wcf Hz ?_
 refine regS Hz (.move rfl <| .move rfl <| .nilCheck rfl <| .fa 8 rfl U51 <| .lb m0 1 U2 rfl rfl rfl <| .lss rfl rfl <| .assign rfl .nil) fun Az Hz => ?_
 refine bc Hz 12 ?_ ?_
 ·
  intro hb16 Hz; try simp only [QQ, Qax] at hb16
  refine wct Hz ?_
  replace Hz := Hz.oz [1, 2, 6, 7, 12]
  refine regS Hz (.assign rfl .nil) fun Az Hz => ?_
  refine rt1 Hz ?_
  exact ⟨_, rfl, by rw [reachR, if_neg (by simp_all), if_pos (by assumption)], m0.only [1]⟩
 intro hb16 Hz; try simp only [QQ, Qax] at hb16
 refine wcf Hz ?_
 replace Hz := Hz.oz [1, 2, 6, 7, 12]
 refine regS Hz (.move rfl <| .move rfl <| .gtr rfl rfl <| .assign rfl .nil) fun Az Hz => ?_
 refine bc Hz 19 ?_ ?_
 ·
  intro hb24 Hz; try simp only [QQ, Qax] at hb24
  refine wct Hz ?_
  refine regS Hz (.assign rfl .nil) fun Az Hz => ?_
  refine rt1 Hz ?_
  exact ⟨_, rfl, by rw [reachR, if_neg (by simp_all), if_neg (by omega), if_pos (by assumption)], m0.only [1]⟩
 intro hb24 Hz; try simp only [QQ, Qax] at hb24
 refine wcf Hz ?_
 refine zss (hK0 _ _ ?_)
 refine regS Hz (.assign rfl .nil) fun Az Hz => ?_
 refine rt1 Hz ?_
 exact ⟨_, rfl, by rw [reachR, if_neg (by simp_all), if_neg (by omega), if_neg (by omega)], m0.only [1]⟩
theorem xprune (X : Cx) (B : Nat) (vo bl sz pe to ne fl : Int) (hi : Bool) (place pins : List Int) (ws : List (Int × List (Int × List Int))) (pp pn pw : Option Addr) (cp cn9 cw : Nat) (at0 : Int) (w0 : World) (hp : pins.length ≤ 1000000) (m0 : MemOk X w0 [(1, .box B 51 [.int .i64 vo, .int .i64 bl, .int .i64 sz, .int .i64 pe, .slice pp place.length cp, .int .i64 to, .int .i64 ne, .bool hi, .int .i64 fl, .slice pn pins.length cn9, .slice pw (ws.map wrD).length cw]), (2, .seg (.slice pw (ws.map wrD).length cw) 103 2 (ws.map wrD)), (4, .dat (.slice pn pins.length cn9) (.ns .i64 pins))] w0) :
   Calls Tryz.prog 147 #[.pointer (some ⟨B, 0, none⟩), .int .i64 at0] w0 fun e w' => ∃ (ne' : Int) (hi' : Bool) (fl' : Int) (ws' : List (Int × List (Int × List Int))) (e9 : Int) (pw' : Option Addr) (cw' : Nat), e = .returned (.int .i64 e9) ∧ pruneR ne fl hi pins ws at0 = (ne', hi', fl', ws', e9) ∧ MemOk X w0 [(1, .box B 51 [.int .i64 vo, .int .i64 bl, .int .i64 sz, .int .i64 pe, .slice pp place.length cp, .int .i64 to, .int .i64 ne', .bool hi', .int .i64 fl', .slice pn pins.length cn9, .slice pw' (ws'.map wrD).length cw']), (2, .seg (.slice pw' (ws'.map wrD).length cw') 103 2 (ws'.map wrD)), (4, .dat (.slice pn pins.length cn9) (.ns .i64 pins))] w' := by
 refine ent2 Tryz.func147 rfl Tryz.ntmps147 fun Az Hz => ?_
 refine regS Hz (.assign rfl .nil) fun Az Hz => ?_
 refine zsr fun K0 hK0 => ?_
 refine goCh Hz (.move rfl <| .move rfl <| .move rfl <| .nilCheck rfl <| .loadBR m0 (i := 1) rfl rfl U51 rfl fct13 (by simp) (by dsimp only [List.drop, List.take] <;> rfl) .nil) fun Az Hz => ?_
 refine plz (ecb Hz Tryz.func170 rfl m0 (low_nn _ _ _ _ _ _ _ _ place pins ws _ _ _ _ _ _ _ _ ((m0.rd (i := 4) rfl).any) hp) fun Az w12 Hz m13 => ?_)
 refine plz (ecl Hz Tryz.func169 rfl (xreach _ _ _ _ _ _ _ _ _ _ place pins ws _ _ _ _ _ _ _ _ _ (m13.into [(1, 1)] (by decide) rfl)) ?_)
 rintro e w15 ⟨ex, rfl, hr, hm15⟩
 have mx15 := m13.back hm15 [(1, 1)] (by decide); clear hm15 m13
 have m15 := mx15.oz [1, 2, 4]
 refine ⟨_, rfl, ?_⟩; intro Az Hz
 refine gz hK0 Hz (.assign rfl .nil) fun Az Hz => ?_
 refine wsk fun K1 hK1 => ?_
 replace Hz := Hz.oz [0, 1, 4, 5]
 refine regS Hz (.move rfl <| .eql rfl rfl .nil) fun Az Hz => ?_
 refine bc Hz 14 ?_ ?_
 ·
  intro hb21 Hz; try simp only [QQ, Qax] at hb21
  refine wct Hz ?_
  refine wp_region_lit ?_
  refine goCh Hz (.move rfl <| .move rfl <| .nilCheck rfl <| .fa 8 rfl U51 .nil) fun Az Hz => ?_
  refine plz (st1 Hz m15 1 fct18 fun w26 m26 _ => ?_)
  refine znl (hK1 _ _ ?_)
  replace Hz := Hz.oz [4, 5, 14]
  refine regS Hz (.move rfl <| .assign rfl .nil) fun Az Hz => ?_
  refine rt1 Hz ?_
  exact ⟨ne, hi, at0, ws, 0, _, _, by simp_all, by rw [pruneR, if_pos (by rw [hr]; assumption)], m26.only [1, 2, 4]⟩
 intro hb21 Hz; try simp only [QQ, Qax] at hb21
 refine wcf Hz ?_
 refine zss (hK1 _ _ ?_)
 refine regS Hz (.move rfl <| .assign rfl .nil) fun Az Hz => ?_
 refine rt1 Hz ?_
 exact ⟨ne, hi, fl, ws, ex, _, _, rfl, by rw [pruneR, if_neg (by rw [hr]; assumption), hr], m15.only [1, 2, 4]⟩
theorem xtake (X : Cx) (B : Nat) (vo bl sz pe to ne fl : Int) (hi : Bool) (place pins : List Int) (ws : List (Int × List (Int × List Int))) (items : List (Int × List Int)) (pp pn pw : Option Addr) (cp cn9 cw : Nat) (pi : Option Addr) (ci : Nat) (ix : Int) (w0 : World) (hne : -1000000000000000 ≤ ne ∧ ne ≤ 1000000000000000) (hl : ws.length ≤ 900000) (hil : items.length ≤ 1000000) (hio : ItsOk items) (m0 : MemOk X w0 [(1, .box B 51 [.int .i64 vo, .int .i64 bl, .int .i64 sz, .int .i64 pe, .slice pp place.length cp, .int .i64 to, .int .i64 ne, .bool hi, .int .i64 fl, .slice pn pins.length cn9, .slice pw (ws.map wrD).length cw]), (2, .seg (.slice pw (ws.map wrD).length cw) 103 2 (ws.map wrD)), (3, .dat (.slice pi items.length ci) (.l 2 (items.map itD)))] w0) :
   Calls Tryz.prog 150 #[.pointer (some ⟨B, 0, none⟩), .int .i64 ix, .slice pi items.length ci] w0 fun e w' => ∃ (ne' : Int) (hi' : Bool) (fl' : Int) (ws' : List (Int × List (Int × List Int))) (e9 : Int) (pw' : Option Addr) (cw' : Nat), e = .returned (.int .i64 e9) ∧ takeR bl sz to ne fl hi ws ix items = (ne', hi', fl', ws', e9) ∧ MemOk X w0 [(1, .box B 51 [.int .i64 vo, .int .i64 bl, .int .i64 sz, .int .i64 pe, .slice pp place.length cp, .int .i64 to, .int .i64 ne', .bool hi', .int .i64 fl', .slice pn pins.length cn9, .slice pw' (ws'.map wrD).length cw']), (2, .seg (.slice pw' (ws'.map wrD).length cw') 103 2 (ws'.map wrD)), (3, .dat (.slice pi items.length ci) (.l 2 (items.map itD)))] w' := by
 refine ent3 Tryz.func150 rfl Tryz.ntmps150 fun Az Hz => ?_
 refine regS Hz (.assign rfl .nil) fun Az Hz => ?_
 refine wsk fun K0 hK0 => ?_
 refine regS Hz (.move rfl <| .nilCheck rfl <| .fa 7 rfl U51 <| .lb m0 1 U4 rfl rfl rfl <| .not rfl .nil) fun Az Hz => ?_
 refine bc Hz 12 ?_ ?_
 ·
  intro hb7 Hz; try simp only [QQ, Qax] at hb7
  refine wct Hz ?_
  refine regS Hz (.assign rfl .nil) fun Az Hz => ?_
  refine rt1 Hz ?_
  exact ⟨ne, hi, fl, ws, 33, _, _, rfl, by rw [takeR, if_pos (by simp_all)], m0.only [1, 2, 3]⟩
 intro hb7 Hz; try simp only [QQ, Qax] at hb7
 refine wcf Hz ?_
 refine zss (hK0 _ _ ?_)
 refine wsk fun K1 hK1 => ?_
 refine zsr fun K2 hK2 => ?_
 refine goCh Hz (.move rfl <| .move rfl <| .nilCheck rfl <| .fa 6 rfl U51 <| .lb m0 1 U3 rfl rfl rfl <| .sub rfl rfl (r := ne - 1) (IntWalk.i64_in _ (by omega)) .nil) fun Az Hz => ?_
 refine plz (ecb Hz Tryz.func110 rfl m0 (within_any _ _ _ _) fun Az w21 Hz m22 => ?_)
 refine znl (hK2 _ _ ?_)
 refine bc Hz 19 ?_ ?_
 ·
  intro hb24 Hz; try simp only [QQ, Qax] at hb24
  refine wct Hz ?_
  replace Hz := Hz.oz [0, 1, 2, 6, 12, 19]
  refine regS Hz (.assign rfl .nil) fun Az Hz => ?_
  refine rt1 Hz ?_
  exact ⟨ne, hi, fl, ws, 0, _, _, rfl, by rw [takeR, if_neg (by simp_all), if_pos (by assumption)], m22.only [1, 2, 3]⟩
 intro hb24 Hz; try simp only [QQ, Qax] at hb24
 refine wcf Hz ?_
 refine zss (hK1 _ _ ?_)
 refine wsk fun K3 hK3 => ?_
 refine wsk fun K4 hK4 => ?_
 replace Hz := Hz.oz [0, 1, 2, 6, 12, 19]
 have m28 := m22.oz [1, 2, 3]
 refine region_p 17 (B := [(1, _), (2, _), (3, _)]) (m28.to ⟨il, il, il, trivial⟩) m28 (by kernel_rfl) (fun w29 hP29 m29 => ?_); clear m28
 refine goR hP29 [0, 1, 2, 3, 4, 5, 6] [4] 7 0 127 Hz (m29.to ⟨il, il, il, trivial⟩) (.move rfl <| .move rfl <| .nilCheck rfl <| .fa 6 rfl U51 <| .lb hh 1 U3 rfl rfl rfl <| .neq rfl rfl <| .move rfl .nil) fun Az Hz => ?_
 refine bc Hz 26 ?_ ?_
 ·
  intro hb37 Hz; try simp only [QQ, Qax] at hb37
  refine goA hP29 [7, 8, 9, 10, 11, 12, 13, 14, 15, 16] 10 127 131071 Hz (m29.to ⟨il, il, il, trivial⟩) (.s <| .s <| .s <| .s <| .s <| .s <| .s <| .s <| .s <| .pickT rfl rfl .nil) fun Az Hz => ?_
  refine wpAnyE_done (by kernel_rfl) ?_ _
  refine hK4 _ _ ?_
  refine wct Hz ?_
  replace Hz := Hz.oz [0, 2, 6, 12, 19, 26, 36]
  refine regS Hz (.assign rfl .nil) fun Az Hz => ?_
  refine rt1 Hz ?_
  exact ⟨ne, hi, fl, ws, 33, _, _, rfl, by rw [takeR, if_neg (by simp_all), if_neg (by assumption), if_pos (by omega)], m29.only [1, 2, 3]⟩
 intro hb37 Hz; try simp only [QQ, Qax] at hb37
 refine goR hP29 [7, 8, 9, 10, 11, 12, 13, 14, 15, 16] [10, 14] 10 127 131071 Hz (m29.to ⟨il, il, il, trivial⟩) (.move rfl <| .nilCheck rfl <| .fa 6 rfl U51 <| .lb hh 1 U3 rfl rfl rfl <| .move rfl <| .nilCheck rfl <| .fa 5 rfl U51 <| .lb hh 1 U3 rfl rfl rfl <| .eql rfl rfl <| .pickF rfl rfl .nil) fun Az Hz => ?_
 refine wpAnyE_done (by kernel_rfl) ?_ _
 refine hK4 _ _ ?_
 refine bc Hz 36 ?_ ?_
 ·
  intro hb60 Hz; try simp only [QQ, Qax] at hb60
  refine wct Hz ?_
  replace Hz := Hz.oz [0, 2, 6, 12, 19, 26, 36]
  refine regS Hz (.assign rfl .nil) fun Az Hz => ?_
  refine rt1 Hz ?_
  exact ⟨ne, hi, fl, ws, 33, _, _, rfl, by rw [takeR, if_neg (by simp_all), if_neg (by assumption), if_pos (by omega)], m29.only [1, 2, 3]⟩
 intro hb60 Hz; try simp only [QQ, Qax] at hb60
 refine wcf Hz ?_
 refine zss (hK3 _ _ ?_)
 replace Hz := Hz.oz [0, 2, 6, 12, 19, 26, 36]
 refine zsr fun K5 hK5 => ?_
 refine goCh Hz (.move rfl <| .move rfl .nil) fun Az Hz => ?_
 refine plz (ecl Hz Tryz.func168 rfl (xwrite _ _ _ _ _ _ _ _ _ _ place pins ws items _ _ _ _ _ _ _ _ _ hl hil hio (m29.into [(1, 1), (2, 2), (3, 3)] (by decide) rfl)) ?_)
 rintro e w68 ⟨wx, ex, pw68, cw68, rfl, hw, hm68⟩
 have mx68 := m29.back hm68 [(1, 1), (2, 2), (3, 3)] (by decide); clear hm68 m29
 have m68 := mx68.oz [1, 2, 3]
 refine ⟨_, rfl, ?_⟩; intro Az Hz
 refine gz hK5 Hz (.assign rfl .nil) fun Az Hz => ?_
 refine wsk fun K6 hK6 => ?_
 refine regS Hz (.move rfl <| .eql rfl rfl .nil) fun Az Hz => ?_
 refine bc Hz 41 ?_ ?_
 ·
  intro hb73 Hz; try simp only [QQ, Qax] at hb73
  refine wct Hz ?_
  refine wp_region_lit ?_
  refine goCh Hz (.move rfl <| .nilCheck rfl <| .fa 6 rfl U51 <| .lb m68 1 U3 rfl rfl rfl <| .add rfl rfl (r := ne + 1) (IntWalk.i64_in _ (by omega)) <| .nilCheck rfl <| .fa 6 rfl U51 .nil) fun Az Hz => ?_
  refine plz (st1 Hz m68 1 fct15 fun w81 m81 _ => ?_)
  refine znl (hK6 _ _ ?_)
  replace Hz := Hz.oz [6, 12, 19, 26, 36, 7, 41]
  refine regS Hz (.move rfl <| .assign rfl .nil) fun Az Hz => ?_
  refine rt1 Hz ?_
  exact ⟨ne + 1, hi, fl, wx, 0, _, _, by simp_all, by rw [takeR, if_neg (by simp_all), if_neg (by assumption), if_neg (by omega), hw, if_pos (by assumption)], m81.only [1, 2, 3]⟩
 intro hb73 Hz; try simp only [QQ, Qax] at hb73
 refine wcf Hz ?_
 refine zss (hK6 _ _ ?_)
 replace Hz := Hz.oz [6, 12, 19, 26, 36, 7, 41]
 refine regS Hz (.move rfl <| .assign rfl .nil) fun Az Hz => ?_
 refine rt1 Hz ?_
 exact ⟨ne, hi, fl, wx, ex, _, _, rfl, by rw [takeR, if_neg (by simp_all), if_neg (by assumption), if_neg (by omega), hw, if_neg (by assumption)], m68.only [1, 2, 3]⟩
theorem xpublish (X : Cx) (B : Nat) (vo bl sz pe to ne fl : Int) (hi : Bool) (place pins : List Int) (ws : List (Int × List (Int × List Int))) (pp pn pw : Option Addr) (cp cn9 cw : Nat) (w0 : World) (m0 : MemOk X w0 [(1, .box B 51 [.int .i64 vo, .int .i64 bl, .int .i64 sz, .int .i64 pe, .slice pp place.length cp, .int .i64 to, .int .i64 ne, .bool hi, .int .i64 fl, .slice pn pins.length cn9, .slice pw (ws.map wrD).length cw]), (2, .seg (.slice pw (ws.map wrD).length cw) 103 2 (ws.map wrD))] w0) :
   Calls Tryz.prog 151 #[.pointer (some ⟨B, 0, none⟩)] w0 fun e w' => ∃ (ne' : Int) (hi' : Bool) (fl' : Int) (ws' : List (Int × List (Int × List Int))) (e9 : Int) (pw' : Option Addr) (cw' : Nat), e = .returned (.int .i64 e9) ∧ publishR to ne fl hi ws = (ne', hi', fl', ws', e9) ∧ MemOk X w0 [(1, .box B 51 [.int .i64 vo, .int .i64 bl, .int .i64 sz, .int .i64 pe, .slice pp place.length cp, .int .i64 to, .int .i64 ne', .bool hi', .int .i64 fl', .slice pn pins.length cn9, .slice pw' (ws'.map wrD).length cw']), (2, .seg (.slice pw' (ws'.map wrD).length cw') 103 2 (ws'.map wrD))] w' := by
 refine ent1 Tryz.func151 rfl Tryz.ntmps151 fun Az Hz => ?_
 refine regS Hz (.assign rfl .nil) fun Az Hz => ?_
 refine wsk fun K0 hK0 => ?_
 refine wsk fun K1 hK1 => ?_
 have m2 := m0.oz [1, 2]
 refine region_p 16 (B := [(1, _), (2, _)]) (m2.to ⟨il, il, trivial⟩) m2 (by kernel_rfl) (fun w3 hP3 m3 => ?_); clear m2
 refine goR hP3 [0, 1, 2, 3, 4, 5] [3] 6 0 63 Hz (m3.to ⟨il, il, trivial⟩) (.move rfl <| .nilCheck rfl <| .fa 7 rfl U51 <| .lb hh 1 U4 rfl rfl rfl <| .not rfl <| .move rfl .nil) fun Az Hz => ?_
 refine bc Hz 8 ?_ ?_
 ·
  intro hb10 Hz; try simp only [QQ, Qax] at hb10
  refine goA hP3 [6, 7, 8, 9, 10, 11, 12, 13, 14, 15] 10 63 65535 Hz (m3.to ⟨il, il, trivial⟩) (.s <| .s <| .s <| .s <| .s <| .s <| .s <| .s <| .s <| .pickT rfl rfl .nil) fun Az Hz => ?_
  refine wpAnyE_done (by kernel_rfl) ?_ _
  refine hK1 _ _ ?_
  refine wct Hz ?_
  replace Hz := Hz.oz [0, 2, 8, 18]
  refine regS Hz (.assign rfl .nil) fun Az Hz => ?_
  refine rt1 Hz ?_
  exact ⟨ne, hi, fl, ws, 33, _, _, rfl, by rw [publishR, if_pos (by first | (left; simp_all; done) | (right; assumption) | omega)], m3.only [1, 2]⟩
 intro hb10 Hz; try simp only [QQ, Qax] at hb10
 refine goR hP3 [6, 7, 8, 9, 10, 11, 12, 13, 14, 15] [9, 13] 10 63 65535 Hz (m3.to ⟨il, il, trivial⟩) (.move rfl <| .nilCheck rfl <| .fa 6 rfl U51 <| .lb hh 1 U3 rfl rfl rfl <| .move rfl <| .nilCheck rfl <| .fa 5 rfl U51 <| .lb hh 1 U3 rfl rfl rfl <| .neq rfl rfl <| .pickF rfl rfl .nil) fun Az Hz => ?_
 refine wpAnyE_done (by kernel_rfl) ?_ _
 refine hK1 _ _ ?_
 refine bc Hz 18 ?_ ?_
 ·
  intro hb33 Hz; try simp only [QQ, Qax] at hb33
  refine wct Hz ?_
  replace Hz := Hz.oz [0, 2, 8, 18]
  refine regS Hz (.assign rfl .nil) fun Az Hz => ?_
  refine rt1 Hz ?_
  exact ⟨ne, hi, fl, ws, 33, _, _, rfl, by rw [publishR, if_pos (by first | (left; simp_all; done) | (right; assumption) | omega)], m3.only [1, 2]⟩
 intro hb33 Hz; try simp only [QQ, Qax] at hb33
 refine wcf Hz ?_
 refine zss (hK0 _ _ ?_)
 replace Hz := Hz.oz [0, 2, 8, 18]
 refine zsr fun K2 hK2 => ?_
 refine goCh Hz (.move rfl <| .move rfl <| .move rfl <| .nilCheck rfl <| .loadBR m3 (i := 1) rfl rfl U51 rfl fct13 (by simp) (by dsimp only [List.drop, List.take] <;> rfl) .nil) fun Az Hz => ?_
 refine plz (ecb Hz Tryz.func111 rfl m3 (vlen_any _ _ _ _ _ _ _ _ _ _ _ _ _ _ _ _ _ _) fun Az w47 Hz m48 => ?_)
 refine goCh Hz (.nilCheck rfl <| .fa 7 rfl U51 .nil) fun Az Hz => ?_
 refine plz (st1 Hz m48 1 fct32 fun w52 m52 _ => ?_)
 refine goCh Hz (.nilCheck rfl <| .fa 8 rfl U51 .nil) fun Az Hz => ?_
 refine plz (st1 Hz m52 1 fct18 fun w55 m55 _ => ?_)
 refine znl (hK2 _ _ ?_)
 replace Hz := Hz.oz [2, 8, 18]
 refine regS Hz (.assign rfl .nil) fun Az Hz => ?_
 refine rt1 Hz ?_
 exact ⟨ne, false, ws.length, ws, 0, _, _, rfl, by rw [publishR, if_neg (by rintro (h | h) <;> simp_all)], by rw [← show (ws.map wrD).length = ws.length from List.length_map _]; exact m55.only [1, 2]⟩
theorem xdo (X : Cx) (B : Nat) (vo bl sz pe to ne fl : Int) (hi : Bool) (place pins : List Int) (ws : List (Int × List (Int × List Int))) (items : List (Int × List Int)) (pp pn pw : Option Addr) (cp cn9 cw : Nat) (pi : Option Addr) (ci : Nat) (kd v1 v2 v3 v4 v5 at0 ix : Int) (q1 : Option Addr) (n1 c1 : Nat) (w0 : World) (hk4 : kd ≠ 4) (hk5 : kd ≠ 5) (hne : -1000000000000000 ≤ ne ∧ ne ≤ 1000000000000000) (hl : ws.length ≤ 900000) (hp : pins.length ≤ 1000000) (hil : items.length ≤ 1000000) (hio : ItsOk items) (m0 : MemOk X w0 [(1, .box B 51 [.int .i64 vo, .int .i64 bl, .int .i64 sz, .int .i64 pe, .slice pp place.length cp, .int .i64 to, .int .i64 ne, .bool hi, .int .i64 fl, .slice pn pins.length cn9, .slice pw (ws.map wrD).length cw]), (2, .seg (.slice pw (ws.map wrD).length cw) 103 2 (ws.map wrD)), (3, .dat (.slice pi items.length ci) (.l 2 (items.map itD))), (4, .dat (.slice pn pins.length cn9) (.ns .i64 pins))] w0) :
   Calls Tryz.prog 133 #[.pointer (some ⟨B, 0, none⟩), .agg #[.int .i64 kd, .int .i64 v1, .int .i64 v2, .int .i64 v3, .int .i64 v4, .slice q1 n1 c1, .int .i64 v5, .int .i64 at0, .int .i64 ix, .slice pi items.length ci]] w0 fun e w' => ∃ (ne' : Int) (hi' : Bool) (fl' : Int) (ws' : List (Int × List (Int × List Int))) (e9 : Int) (pw' : Option Addr) (cw' : Nat), e = .returned (.int .i64 e9) ∧ doR bl sz to ne fl hi pins ws kd at0 ix items = (ne', hi', fl', ws', e9) ∧ MemOk X w0 [(1, .box B 51 [.int .i64 vo, .int .i64 bl, .int .i64 sz, .int .i64 pe, .slice pp place.length cp, .int .i64 to, .int .i64 ne', .bool hi', .int .i64 fl', .slice pn pins.length cn9, .slice pw' (ws'.map wrD).length cw']), (2, .seg (.slice pw' (ws'.map wrD).length cw') 103 2 (ws'.map wrD)), (3, .dat (.slice pi items.length ci) (.l 2 (items.map itD))), (4, .dat (.slice pn pins.length cn9) (.ns .i64 pins))] w' := by
 refine ent2 Tryz.func133 rfl Tryz.ntmps133 fun Az Hz => ?_
 refine zsr fun K0 hK0 => ?_
 refine plz (e_box Hz m0 20 (cs := [_, _, _, _, _, _, _, _, _, _]) rfl rfl rfl fun g1 Az w2 Hz m2 _ _ => ?_)
 refine gz hK0 Hz (.assign rfl .nil) fun Az Hz => ?_
 refine wsk fun K1 hK1 => ?_
 refine regS Hz (.fa 0 rfl U38 <| .lb m2 20 U3 rfl rfl rfl .nil) fun Az Hz => ?_
 refine wp_block ?_
 refine regS Hz (.eql rfl rfl <| .assign rfl .nil) fun Az Hz => ?_
 refine bc Hz 7 ?_ ?_
 ·
  intro hb8 Hz; try simp only [QQ, Qax] at hb8
  refine wct Hz ?_
  refine zsr fun K2 hK2 => ?_
  refine goCh Hz (.move rfl <| .fa 9 rfl U38 <| .lb m2 20 U36 rfl rfl rfl .nil) fun Az Hz => ?_
  refine plz (ecl Hz Tryz.func146 rfl (xput _ _ _ _ _ _ _ _ _ _ place pins ws items _ _ _ _ _ _ _ _ _ hl hil hio (m2.into [(1, 1), (2, 2), (3, 3)] (by decide) rfl)) ?_)
  rintro e w15 ⟨ne1, hi1, fl1, ws1, e1, pw15, cw15, rfl, hR, hm15⟩
  have mx15 := m2.back hm15 [(1, 1), (2, 2), (3, 3)] (by decide); clear hm15 m2
  have m15 := mx15.oz [1, 2, 3, 4, 20]
  refine ⟨_, rfl, ?_⟩; intro Az Hz
  refine gz hK2 Hz (.assign rfl .nil) fun Az Hz => ?_
  refine rt1 Hz ?_
  exact ⟨ne1, hi1, fl1, ws1, e1, _, _, rfl, by rw [doR, if_pos (by assumption)]; exact hR, m15.only [1, 2, 3, 4]⟩
 intro hb8 Hz; try simp only [QQ, Qax] at hb8
 refine wcf Hz ?_
 refine regS Hz (.eql rfl rfl <| .assign rfl .nil) fun Az Hz => ?_
 refine bc Hz 13 ?_ ?_
 ·
  intro hb20 Hz; try simp only [QQ, Qax] at hb20
  refine wct Hz ?_
  refine zsr fun K3 hK3 => ?_
  refine goCh Hz (.move rfl <| .fa 7 rfl U38 <| .lb m2 20 U2 rfl rfl rfl .nil) fun Az Hz => ?_
  refine plz (ecl Hz Tryz.func147 rfl (xprune _ _ _ _ _ _ _ _ _ _ place pins ws _ _ _ _ _ _ _ _ hp (m2.into [(1, 1), (2, 2), (4, 4)] (by decide) rfl)) ?_)
  rintro e w27 ⟨ne1, hi1, fl1, ws1, e1, pw27, cw27, rfl, hR, hm27⟩
  have mx27 := m2.back hm27 [(1, 1), (2, 2), (4, 4)] (by decide); clear hm27 m2
  have m27 := mx27.oz [1, 2, 4, 3, 20]
  refine ⟨_, rfl, ?_⟩; intro Az Hz
  refine gz hK3 Hz (.assign rfl .nil) fun Az Hz => ?_
  refine rt1 Hz ?_
  exact ⟨ne1, hi1, fl1, ws1, e1, _, _, rfl, by rw [doR, if_neg (by omega), if_pos (by assumption)]; exact hR, m27.only [1, 2, 3, 4]⟩
 intro hb20 Hz; try simp only [QQ, Qax] at hb20
 refine wcf Hz ?_
 refine regS Hz (.eql rfl rfl <| .assign rfl .nil) fun Az Hz => ?_
 refine bc Hz 19 ?_ ?_
 · intro hb _; exact absurd hb (by simp; omega)
 clear Hz; intro _ Hz
 refine wcf Hz ?_
 replace Hz := Hz.oz [0, 3, 4, 6, 7, 13]
 refine regS Hz (.eql rfl rfl <| .assign rfl .nil) fun Az Hz => ?_
 refine bc Hz 25 ?_ ?_
 · intro hb _; exact absurd hb (by simp; omega)
 clear Hz; intro _ Hz
 refine wcf Hz ?_
 refine regS Hz (.eql rfl rfl <| .assign rfl .nil) fun Az Hz => ?_
 refine bc Hz 31 ?_ ?_
 ·
  intro hb39 Hz; try simp only [QQ, Qax] at hb39
  refine wct Hz ?_
  refine zsr fun K4 hK4 => ?_
  refine goCh Hz (.move rfl <| .fa 8 rfl U38 <| .lb m2 20 U3 rfl rfl rfl <| .fa 9 rfl U38 <| .lb m2 20 U36 rfl rfl rfl .nil) fun Az Hz => ?_
  refine plz (ecl Hz Tryz.func150 rfl (xtake _ _ _ _ _ _ _ _ _ _ place pins ws items _ _ _ _ _ _ _ _ _ _ hne hl hil hio (m2.into [(1, 1), (2, 2), (3, 3)] (by decide) rfl)) ?_)
  rintro e w50 ⟨ne1, hi1, fl1, ws1, e1, pw50, cw50, rfl, hR, hm50⟩
  have mx50 := m2.back hm50 [(1, 1), (2, 2), (3, 3)] (by decide); clear hm50 m2
  have m50 := mx50.oz [1, 2, 3, 4, 20]
  refine ⟨_, rfl, ?_⟩; intro Az Hz
  refine gz hK4 Hz (.assign rfl .nil) fun Az Hz => ?_
  refine rt1 Hz ?_
  exact ⟨ne1, hi1, fl1, ws1, e1, _, _, rfl, by rw [doR, if_neg (by omega), if_neg (by omega), if_pos (by assumption)]; exact hR, m50.only [1, 2, 3, 4]⟩
 intro hb39 Hz; try simp only [QQ, Qax] at hb39
 refine wcf Hz ?_
 refine regS Hz (.eql rfl rfl <| .assign rfl .nil) fun Az Hz => ?_
 refine bc Hz 39 ?_ ?_
 ·
  intro hb55 Hz; try simp only [QQ, Qax] at hb55
  refine wct Hz ?_
  refine zsr fun K5 hK5 => ?_
  refine goCh Hz (.move rfl .nil) fun Az Hz => ?_
  refine plz (ecl Hz Tryz.func151 rfl (xpublish _ _ _ _ _ _ _ _ _ _ place pins ws _ _ _ _ _ _ _ (m2.into [(1, 1), (2, 2)] (by decide) rfl)) ?_)
  rintro e w58 ⟨ne1, hi1, fl1, ws1, e1, pw58, cw58, rfl, hR, hm58⟩
  have mx58 := m2.back hm58 [(1, 1), (2, 2)] (by decide); clear hm58 m2
  have m58 := mx58.oz [1, 2, 3, 4, 20]
  refine ⟨_, rfl, ?_⟩; intro Az Hz
  refine gz hK5 Hz (.assign rfl .nil) fun Az Hz => ?_
  refine rt1 Hz ?_
  exact ⟨ne1, hi1, fl1, ws1, e1, _, _, rfl, by rw [doR, if_neg (by omega), if_neg (by omega), if_neg (by omega), if_pos (by assumption)]; exact hR, m58.only [1, 2, 3, 4]⟩
 intro hb55 Hz; try simp only [QQ, Qax] at hb55
 refine wcf Hz ?_
 replace Hz := Hz.oz [4, 6, 7, 13, 31, 39]
 refine regS Hz (.eql rfl rfl <| .assign rfl .nil) fun Az Hz => ?_
 refine bc Hz 43 ?_ ?_
 ·
  intro hb64 Hz; try simp only [QQ, Qax] at hb64
  refine wct Hz ?_
  refine regS Hz (.assign rfl .nil) fun Az Hz => ?_
  refine rt1 Hz ?_
  exact ⟨ne, hi, fl, ws, 0, _, _, rfl, by rw [doR, if_neg (by omega), if_neg (by omega), if_neg (by omega), if_neg (by omega), if_pos (by assumption)], m2.only [1, 2, 3, 4]⟩
 intro hb64 Hz; try simp only [QQ, Qax] at hb64
 refine wcf Hz ?_
 refine zss (hK1 _ _ ?_)
 refine regS Hz (.assign rfl .nil) fun Az Hz => ?_
 refine rt1 Hz ?_
 exact ⟨ne, hi, fl, ws, 23, _, _, rfl, by rw [doR, if_neg (by omega), if_neg (by omega), if_neg (by omega), if_neg (by omega), if_neg (by omega)], m2.only [1, 2, 3, 4]⟩
theorem xDo (X : Cx) (vo bl sz pe to ne fl : Int) (hi : Bool) (place pins : List Int) (ws : List (Int × List (Int × List Int))) (items : List (Int × List Int)) (pp pn pw : Option Addr) (cp cn9 cw : Nat) (pi : Option Addr) (ci : Nat) (kd v1 v2 v3 v4 v5 at0 ix : Int) (q1 : Option Addr) (n1 c1 : Nat) (w0 : World) (hn : place.length ≤ 1000000) (hk4 : kd ≠ 4) (hk5 : kd ≠ 5) (hne : -1000000000000000 ≤ ne ∧ ne ≤ 1000000000000000) (hl : ws.length ≤ 900000) (hp : pins.length ≤ 1000000) (hil : items.length ≤ 1000000) (hio : ItsOk items) (hok : WrsOk ws) (m0 : MemOk X w0 [(1, .dat (.slice pp place.length cp) (.ns .i64 place)), (2, .dat (.slice pn pins.length cn9) (.ns .i64 pins)), (3, .dat (.slice pw (ws.map wrD).length cw) (.l 2 (ws.map wrD))), (4, .dat (.slice pi items.length ci) (.l 2 (items.map itD)))] w0) :
   Calls Tryz.prog 96 #[.agg #[.int .i64 vo, .int .i64 bl, .int .i64 sz, .int .i64 pe, .slice pp place.length cp, .int .i64 to, .int .i64 ne, .bool hi, .int .i64 fl, .slice pn pins.length cn9, .slice pw (ws.map wrD).length cw], .agg #[.int .i64 kd, .int .i64 v1, .int .i64 v2, .int .i64 v3, .int .i64 v4, .slice q1 n1 c1, .int .i64 v5, .int .i64 at0, .int .i64 ix, .slice pi items.length ci]] w0 fun e w' => ∃ (ne' : Int) (hi' : Bool) (fl' : Int) (ws' : List (Int × List (Int × List Int))) (e9 rl rf rn : Int) (p1' : Option Addr) (d1' : Nat) (p2' : Option Addr) (d2' : Nat) (p3' : Option Addr) (d3' : Nat), e = .returned (.tuple #[.agg #[.int .i64 vo, .int .i64 bl, .int .i64 sz, .int .i64 pe, .slice p1' place.length d1', .int .i64 to, .int .i64 ne', .bool hi', .int .i64 fl', .slice p2' pins.length d2', .slice p3' (ws'.map wrD).length d3'], .agg #[.int .i64 e9, .int .i64 rl, .int .i64 rf, .int .i64 rn, .slice none 0 0]]) ∧ doR bl sz to ne fl hi pins ws kd at0 ix items = (ne', hi', fl', ws', e9) ∧ ((e9 ≠ 0 ∧ rl = 0 ∧ rf = 0 ∧ rn = 0) ∨ (e9 = 0 ∧ rl = ws'.length ∧ rf = fl' ∧ rn = ne')) ∧ MemOk X w0 [(1, .dat (.slice pp place.length cp) (.ns .i64 place)), (2, .dat (.slice pn pins.length cn9) (.ns .i64 pins)), (3, .dat (.slice pw (ws.map wrD).length cw) (.l 2 (ws.map wrD))), (4, .dat (.slice pi items.length ci) (.l 2 (items.map itD))), (5, .dat (.slice p1' place.length d1') (.ns .i64 place)), (6, .dat (.slice p2' pins.length d2') (.ns .i64 pins)), (7, .seg (.slice p3' (ws'.map wrD).length d3') 103 2 (ws'.map wrD))] w' := by
 refine ent2 Tryz.func96 rfl Tryz.ntmps96 fun Az Hz => ?_
 refine zsr fun K0 hK0 => ?_
 refine plz (e_box Hz m0 20 (cs := [_, _, _, _, _, _, _, _, _, _, _]) rfl rfl rfl fun g1 Az w2 Hz m2 _ _ => ?_)
 refine plz (e_box Hz m2 21 (cs := [_, _, _, _, _, _, _, _, _, _]) rfl rfl rfl fun g3 Az w4 Hz m4 _ _ => ?_)
 refine plz (e_alloc Hz m4 22 fct14 rfl fun g5 Az w6 Hz m6 _ _ => ?_)
 refine plz (e_alloc Hz m6 23 fct29 rfl fun g7 Az w8 Hz m8 _ _ => ?_)
 refine znl (hK0 _ _ ?_)
 refine zsr fun K1 hK1 => ?_
 refine goCh Hz (.loadBR m8 (i := 20) rfl rfl U51 rfl fct13 (by simp) (by dsimp only [List.drop, List.take] <;> rfl) .nil) fun Az Hz => ?_
 refine plz (ecl Hz Tryz.func52 rfl (volcopy_fr _ _ _ _ _ _ _ _ _ place pins ws _ _ _ _ _ _ _ hn hp (by omega) hok (m8.into [(1, 1), (2, 2), (3, 3)] (by decide) rfl)) ?_)
 rintro e w11 ⟨p111, c111, p211, c211, p311, c311, rfl, hm11⟩
 have mx11 := m8.back hm11 [(1, 1), (2, 2), (3, 3), (24, 4), (25, 5), (26, 6)] (by decide); clear hm11 m8
 have m11 := mx11.oz [1, 2, 3, 24, 25, 26, 4, 20, 21, 22, 23]
 refine ⟨_, rfl, ?_⟩; intro Az Hz
 refine plz (stw Hz m11 20 fct13 fun w13 m13 _ => ?_)
 refine znl (hK1 _ _ ?_)
 refine wsk fun K2 hK2 => ?_
 refine zsr fun K3 hK3 => ?_
 refine goCh Hz (.loadBR m13 (i := 21) rfl rfl U38 rfl fct19 (by simp) (by dsimp only [List.drop, List.take] <;> rfl) .nil) fun Az Hz => ?_
 refine plz (ecl Hz Tryz.func133 rfl (xdo _ _ _ _ _ _ _ _ _ _ place pins ws items _ _ _ _ _ _ _ _ kd _ _ _ _ _ _ _ _ _ _ _ hk4 hk5 hne hl hp hil hio (m13.into [(1, 20), (2, 26), (3, 4), (4, 25)] (by decide) rfl)) ?_)
 rintro e w16 ⟨ne1, hi1, fl1, ws1, e1, pw16, cw16, rfl, hR, hm16⟩
 have mx16 := m13.back hm16 [(20, 1), (26, 2), (4, 3), (25, 4)] (by decide); clear hm16 m13
 have m16 := mx16.oz [20, 26, 4, 25, 1, 2, 3, 21, 22, 23, 24]
 refine ⟨_, rfl, ?_⟩; intro Az Hz
 refine gz hK3 Hz (.assign rfl .nil) fun Az Hz => ?_
 replace Hz := Hz.oz [2, 4, 5, 6]
 refine regS Hz (.move rfl <| .neq rfl rfl .nil) fun Az Hz => ?_
 refine bc Hz 12 ?_ ?_
 ·
  intro hb22 Hz; try simp only [QQ, Qax] at hb22
  refine wct Hz ?_
  refine zsr fun K4 hK4 => ?_
  refine goCh Hz (.loadBR m16 (i := 20) rfl rfl U51 rfl fct13 (by simp) (by dsimp only [List.drop, List.take] <;> rfl) <| .move rfl <| .build rfl fct29 fl44xD rfl (by dsimp only [setL, List.set] <;> rfl) .nil) fun Az Hz => ?_
  refine plz (stw Hz m16 22 fct13 fun w29 m29 _ => ?_)
  refine plz (stw Hz m29 23 fct28 fun w30 m30 _ => ?_)
  refine znl (hK4 _ _ ?_)
  refine rtd (retCC (fn := Tryz.f96) Hz m30 (i := 22) (i2 := 23) rfl rfl rfl rfl rfl U51 rfl fct13 U44 rfl fct28 ?_)
  exact ⟨ne1, hi1, fl1, ws1, e1, 0, 0, 0, _, _, _, _, _, _, rfl, hR, .inl ⟨by assumption, rfl, rfl, rfl⟩, m30.ren [(1, 1), (2, 2), (3, 3), (4, 4), (5, 24), (6, 25), (7, 26)] (by decide)⟩
 intro hb22 Hz; try simp only [QQ, Qax] at hb22
 refine wcf Hz ?_
 refine zss (hK2 _ _ ?_)
 refine wsk fun K5 hK5 => ?_
 have m31 := m16.oz [1, 2, 3, 4, 20, 21, 22, 23, 24, 25, 26]
 refine region_p 10 (B := [(20, _)]) (m31.to ⟨il, trivial⟩) m31 (by kernel_rfl) (fun w32 hP32 m32 => ?_); clear m31
 refine goR hP32 [0, 1, 3, 4, 5, 6] [0, 1, 4, 6] 6 0 123 Hz (m32.to ⟨il, trivial⟩) (.loadBR hh (i := 20) rfl rfl U51 rfl fct13 (by simp) (by dsimp only [List.drop, List.take] <;> rfl) <| .loadBR hh (i := 20) rfl rfl U51 rfl fct13 (by simp) (by dsimp only [List.drop, List.take] <;> rfl) <| .fa 8 rfl U51 <| .lb hh 20 U2 rfl rfl rfl <| .fa 6 rfl U51 <| .lb hh 20 U3 rfl rfl rfl .nil) fun Az Hz => ?_
 refine so 2 ?_
 refine ecb Hz Tryz.func111 rfl m32 (vlen_any _ _ _ _ _ _ _ _ _ _ _ _ _ _ _ _ _ _) fun Az w39 Hz m40 => ?_
 refine ⟨m40.to ⟨il, trivial⟩, ?_⟩
 refine goA hP32 [7] 1 127 255 Hz (m40.to ⟨il, trivial⟩) (.build rfl fct29 fl44xD rfl (by dsimp only [setL, List.set] <;> rfl) .nil) fun Az Hz => ?_
 refine so 8 ?_
 refine stw Hz m40 22 fct13 fun w43 m43 _ => ?_
 refine ⟨m43.to ⟨il, trivial⟩, ?_⟩
 refine so 9 ?_
 refine stw Hz m43 23 fct28 fun w44 m44 _ => ?_
 refine ⟨m44.to ⟨il, trivial⟩, ?_⟩
 refine wpAnyE_done (by kernel_rfl) ?_ _
 refine hK5 _ _ ?_
 refine rtd (retCC (fn := Tryz.f96) Hz m44 (i := 22) (i2 := 23) rfl rfl rfl rfl rfl U51 rfl fct13 U44 rfl fct28 ?_)
 revert Hz
 obtain rfl : e1 = 0 := by first | assumption | (simp_all; done) | omega
 intro Hz
 exact ⟨ne1, hi1, fl1, ws1, 0, ws1.length, fl1, ne1, _, _, _, _, _, _, by rw [List.length_map], hR, .inr ⟨rfl, rfl, rfl, rfl⟩, m44.ren [(1, 1), (2, 2), (3, 3), (4, 4), (5, 24), (6, 25), (7, 26)] (by decide)⟩
theorem xDo_is (X : Cx) (vo bl sz pe to ne fl : Int) (hi : Bool) (place pins : List Int) (ws : List (Int × List (Int × List Int))) (items : List (Int × List Int)) (pp pn pw : Option Addr) (cp cn9 cw : Nat) (pi : Option Addr) (ci : Nat) (kd v1 v2 v3 v4 v5 at0 ix : Int) (q1 : Option Addr) (n1 c1 : Nat) (w0 : World) (ne' : Int) (hi' : Bool) (fl' : Int) (ws' : List (Int × List (Int × List Int))) (e9 : Int) (hd : doR bl sz to ne fl hi pins ws kd at0 ix items = (ne', hi', fl', ws', e9)) (hn : place.length ≤ 1000000) (hk4 : kd ≠ 4) (hk5 : kd ≠ 5) (hne : -1000000000000000 ≤ ne ∧ ne ≤ 1000000000000000) (hl : ws.length ≤ 900000) (hp : pins.length ≤ 1000000) (hil : items.length ≤ 1000000) (hio : ItsOk items) (hok : WrsOk ws) (m0 : MemOk X w0 [(1, .dat (.slice pp place.length cp) (.ns .i64 place)), (2, .dat (.slice pn pins.length cn9) (.ns .i64 pins)), (3, .dat (.slice pw (ws.map wrD).length cw) (.l 2 (ws.map wrD))), (4, .dat (.slice pi items.length ci) (.l 2 (items.map itD)))] w0) :
   Calls Tryz.prog 96 #[.agg #[.int .i64 vo, .int .i64 bl, .int .i64 sz, .int .i64 pe, .slice pp place.length cp, .int .i64 to, .int .i64 ne, .bool hi, .int .i64 fl, .slice pn pins.length cn9, .slice pw (ws.map wrD).length cw], .agg #[.int .i64 kd, .int .i64 v1, .int .i64 v2, .int .i64 v3, .int .i64 v4, .slice q1 n1 c1, .int .i64 v5, .int .i64 at0, .int .i64 ix, .slice pi items.length ci]] w0 fun e w' => ∃ (rl rf rn : Int) (p1' : Option Addr) (d1' : Nat) (p2' : Option Addr) (d2' : Nat) (p3' : Option Addr) (d3' : Nat), e = .returned (.tuple #[.agg #[.int .i64 vo, .int .i64 bl, .int .i64 sz, .int .i64 pe, .slice p1' place.length d1', .int .i64 to, .int .i64 ne', .bool hi', .int .i64 fl', .slice p2' pins.length d2', .slice p3' (ws'.map wrD).length d3'], .agg #[.int .i64 e9, .int .i64 rl, .int .i64 rf, .int .i64 rn, .slice none 0 0]]) ∧ ((e9 ≠ 0 ∧ rl = 0 ∧ rf = 0 ∧ rn = 0) ∨ (e9 = 0 ∧ rl = ws'.length ∧ rf = fl' ∧ rn = ne')) ∧ MemOk X w0 [(1, .dat (.slice pp place.length cp) (.ns .i64 place)), (2, .dat (.slice pn pins.length cn9) (.ns .i64 pins)), (3, .dat (.slice pw (ws.map wrD).length cw) (.l 2 (ws.map wrD))), (4, .dat (.slice pi items.length ci) (.l 2 (items.map itD))), (5, .dat (.slice p1' place.length d1') (.ns .i64 place)), (6, .dat (.slice p2' pins.length d2') (.ns .i64 pins)), (7, .seg (.slice p3' (ws'.map wrD).length d3') 103 2 (ws'.map wrD))] w' := by
 refine (xDo X vo bl sz pe to ne fl hi place pins ws items pp pn pw cp cn9 cw pi ci kd v1 v2 v3 v4 v5 at0 ix q1 n1 c1 w0 hn hk4 hk5 hne hl hp hil hio hok m0).mono ?_
 rintro e w' ⟨ne2, hi2, fl2, ws2, e2, rl, rf, rn, a1, b1, a2, b2, a3, b3, he, hd2, hr, hm⟩
 obtain ⟨rfl, rfl, rfl, rfl, rfl⟩ : ne2 = ne' ∧ hi2 = hi' ∧ fl2 = fl' ∧ ws2 = ws' ∧ e2 = e9 := by
   have h := hd2.symm.trans hd
   simp only [Prod.mk.injEq] at h
   exact h
 exact ⟨rl, rf, rn, a1, b1, a2, b2, a3, b3, he, hr, hm⟩
end
section
set_option linter.unusedVariables false
end
end Go.Proofs.YtkehgingagggaaaGreat.K
section
namespace Go.Proofs.YtkehgingagggaaaGreat.K
open Go.ChangeShapes Go.WideShapes Go.ChangeAt Go.RowKit Go.Sort
set_option linter.unusedVariables false
set_option linter.unusedSimpArgs false
variable {P : Program} {X : Cx} {M : Mm} {w w0 : World}
def nD (z : Int) : List D := [.v (.int .i64 z)]
theorem seg_nums {S : Nat → Prop} {v : Value} {e : TypeId} {zs : List Int} (h : SegOk S w v e 1 (zs.map nD)) : OwnsAt w 0 e 1 v zs.length (zs.map (Value.int .i64)) := by
 obtain ⟨cs, h1, h2, h3, h4, h5⟩ := h
 rw [List.length_map] at h1 h2
 have hcs : cs = zs.map (fun z => [Value.int .i64 z]) := by
   apply List.ext_getElem (by simp [h2])
   intro j g1 g2
   have hz : j < zs.length := by omega
   obtain ⟨a1, -⟩ := h3 cs[j] (List.getElem_mem g1)
   match hc : cs[j], a1 with
   | [x], _ =>
     have h := h5 j 0 cs[j] (nD zs[j]) x (.v (.int .i64 zs[j])) (List.getElem?_eq_getElem g1) (by simp [hz]) (by rw [hc]; rfl) rfl
     simp [h.v_out]
 have hfl : cs.flatten = zs.map (Value.int .i64) := by
   rw [hcs]
   clear h1 h2 h3 h4 h5 hcs
   induction zs with
   | nil => rfl
   | cons z r ih => simpa using ih
 rwa [hfl] at h1
theorem nums_seg {S : Nat → Prop} {v : Value} {e : TypeId} {zs : List Int} (h : OwnsAt w 0 e 1 v zs.length (zs.map (Value.int .i64))) : SegOk S w v e 1 (zs.map nD) := by
 refine ⟨zs.map (fun z => [Value.int .i64 z]), ?_, by simp, ?_, ?_, ?_⟩
 · have : (zs.map (fun z => [Value.int .i64 z])).flatten = zs.map (Value.int .i64) := by
     clear h
     induction zs with
     | nil => rfl
     | cons z r ih => simpa using ih
   rw [this, List.length_map]; exact h
 · intro c hc
   obtain ⟨z, -, rfl⟩ := List.mem_map.1 hc
   exact ⟨rfl, fun x hx => by simp at hx; subst hx; rfl⟩
 · intro r hr
   obtain ⟨z, -, rfl⟩ := List.mem_map.1 hr
   rfl
 intro j q c r x d a1 a2 a3 a4
 rw [List.getElem?_map] at a1 a2
 cases hz : zs[j]? with
 | none => rw [hz] at a1; cases a1
 | some z =>
   rw [hz] at a1 a2
   injection a1 with a1; injection a2 with a2
   subst a1; subst a2
   match q with
   | 0 =>
     injection a3 with a3; injection a4 with a4
     subst a3; subst a4; exact .v _
   | q + 1 => cases a3
theorem cell_at {g off n : Nat} {cur : Array Value} {e : TypeId} {zs : List Int} (hb : w.heap[g]? = some (.cells cur e (0, 0))) (htk : (cur.toList.drop off).take n = zs.map (Value.int .i64)) (hn : n = zs.length) {j : Nat} (hj : j < zs.length) : w.cell? ⟨g, off + j, none⟩ = some (.int .i64 (zs.getD j 0)) := by
 subst hn
 have h1 : ((cur.toList.drop off).take zs.length)[j]? = (zs.map (Value.int .i64))[j]? := by rw [htk]
 rw [List.getElem?_take_of_lt hj, List.getElem?_drop] at h1
 simp only [World.cell?, hb]
 simp only [Option.isSome_none, Bool.false_eq_true, if_false]
 rw [← Array.getElem?_toList, h1]
 simp [hj, List.getD]
theorem holds_at {g off n : Nat} {cur : Array Value} {e : TypeId} {zs : List Int} (hb : w.heap[g]? = some (.cells cur e (0, 0))) (htk : (cur.toList.drop off).take n = zs.map (Value.int .i64)) (hn : n = zs.length) : Holds (Value.int .i64) w g off zs.toArray := by
 intro j hj
 have hj' : j < zs.length := by simpa using hj
 refine ⟨?_, by simp [World.frozen?, hb]⟩
 rw [cell_at hb htk hn hj']
 simp [hj', List.getD]
theorem nums_rd {S S' : Nat → Prop} {v : Value} {e : TypeId} {zs : List Int} (h : SegOk S w v e 1 (zs.map nD)) (hv : ∀ b, v.ownBlock = some b → S' b) : Rd S' w v (.ns .i64 zs) := by
 obtain ⟨h1, h2⟩ := seg_nums h
 refine .ns ?_
 rcases h2 with ⟨rfl, h0⟩ | ⟨g, off, cap, cur, rfl, -, hb, hnc, hcm, hcs, htk⟩
 · obtain rfl := List.length_eq_zero_iff.1 h0
   exact (Rd.nilN _ _ .i64 none).ns_out
 exact ⟨_, cap, rfl, ⟨hnc, hcm⟩, .inr ⟨g, off, rfl, hv g rfl, (Array.getElem?_eq_some_iff.1 hb).1, fun j hj => cell_at hb htk (by omega) hj⟩⟩
theorem heap_at {g off n : Nat} {os : Array Obj} {cur : Array Value} {e : TypeId} {fr : Nat × Nat} (d : Array Int) (hb : w.heap[g]? = some (.cells cur e fr)) :
   (grow (putRow (Value.int .i64) (Sort.ahead w n) g off d) os).heap[g]? = some (.cells (putCells (Value.int .i64) off d cur) e fr) := by
 have hg : g < w.heap.size := (Array.getElem?_eq_some_iff.1 hb).1
 rw [heap_grow_old _ _ (by simpa using hg)]
 simp [putRow, mapBlock, Sort.ahead, Array.getElem?_modify, hb, onCells]
theorem grown_at {g off n : Nat} {os : Array Obj} (d : Array Int) : w.grownBy (grow (putRow (Value.int .i64) (Sort.ahead w n) g off d) os) (some g) := by
 refine ⟨rfl, rfl, rfl, by simp, fun k hk hne => ?_⟩
 rw [heap_grow_old _ _ (by simpa using hk)]
 have : g ≠ k := fun e => hne (by rw [e])
 simp [putRow, mapBlock, Sort.ahead, Array.getElem?_modify, this]
theorem put_at (cur : Array Value) (off : Nat) (ts : List Int) (h : off + ts.length ≤ cur.size) : ((putCells (Value.int .i64) off ts.toArray cur).toList.drop off).take ts.length = ts.map (Value.int .i64) := by
 apply List.ext_getElem?
 intro j
 by_cases hj : j < ts.length
 · rw [List.getElem?_take_of_lt hj, List.getElem?_drop, Array.getElem?_toList]
   simp [putCells, hj, show off + j < cur.size by omega]
 rw [List.getElem?_take_eq_none (by omega), List.getElem?_eq_none (by simp; omega)]
theorem MemOk.putN (m : MemOk X w0 M w) (i : Nat) {g off l c : Nat} {e : TypeId} {zs : List Int} (hm : lk M i = some (.seg (.slice (some ⟨g, off, none⟩) l c) e 1 (zs.map nD))) (ts : List Int) (hl : ts.length = zs.length) (n : Nat) (os : Array Obj) :
   MemOk X w0 ((i, .seg (.slice (some ⟨g, off, none⟩) l c) e 1 (ts.map nD)) :: M) (grow (putRow (Value.int .i64) (Sort.ahead w n) g off ts.toArray) os) := by
 obtain ⟨h, hX⟩ := m.ok i _ hm
 have hkeep : Keep (fun b => ∃ r, lk M i = some r ∧ r.blk = some b) w (grow (putRow (Value.int .i64) (Sort.ahead w n) g off ts.toArray) os) := (keep_grown (v := .slice (some ⟨g, off, none⟩) l c) (grown_at ts.toArray)).mono (fun b hb => ⟨_, hm, hb⟩)
 refine m.upd i _ hkeep (fun b hb => .inl ⟨_, hm, hb⟩) (fun hf _ => ⟨nums_seg ?_, hX⟩)
 obtain ⟨h1, h2⟩ := seg_nums h
 refine ⟨by simp, ?_⟩
 rcases h2 with ⟨e1, -⟩ | ⟨g', off', cap, cur, e1, -, hb, hnc, hcm, hcs, htk⟩
 · cases e1
 injection e1 with e1 e2 e3
 injection e1 with e1
 injection e1 with e1 e4
 subst e1; subst e4; subst e2; subst e3
 refine .inr ⟨g, off, c, _, by rw [hl], Nat.zero_le _, heap_at _ hb, by omega, hcm, by simp [putCells]; omega, ?_⟩
 rw [Nat.mul_one]
 exact put_at cur off ts (by omega)
theorem MemOk.numS (m : MemOk X w0 M w) (i : Nat) {v : Value} {e : TypeId} {zs : List Int} (h : lk M i = some (.num v e .i64 zs)) : MemOk X w0 ((i, .seg v e 1 (zs.map nD)) :: M) w := by
 have h1 : w.ownsRow w0.heap.size e 1 v zs.length (zs.map (Value.int .i64)) := m.ok i _ h
 have hl := World.ownsRow.lt h1
 refine m.upd i _ (Keep.refl _ _) (fun b hb => .inl ⟨_, h, hb⟩) (fun hf _ => ⟨nums_seg ?_, fun b hb => .inl (hl b hb).1⟩)
 obtain ⟨a1, a2⟩ := OwnsAt.of h1
 refine ⟨a1, ?_⟩
 rcases a2 with a2 | ⟨g, off, cap, cur, b1, _, rest⟩
 · exact .inl a2
 exact .inr ⟨g, off, cap, cur, b1, Nat.zero_le _, rest⟩
theorem MemOk.rdN (m : MemOk X w0 M w) {i : Nat} {v : Value} {e : TypeId} {zs : List Int} (h : lk M i = some (.seg v e 1 (zs.map nD))) : Rd (fun _ => True) w v (.ns .i64 zs) := nums_rd (m.ok i _ h).1 (fun _ _ => trivial)
theorem MemOk.freezeSN (m : MemOk X w0 M w) (i : Nat) {v : Value} {e : TypeId} {zs : List Int} (h : lk M i = some (.seg v e 1 (zs.map nD))) (hN : ∀ b, b ∉ X.bad) : MemOk X w0 ((i, .dat v (.ns .i64 zs)) :: M) w := by
 have hh := m.freezeS i h hN
 have ho := m.ok i _ h
 have hown := hh.ok i _ (by rw [lk_cons, if_pos rfl])
 refine m.upd i _ (Keep.refl _ _) (fun b hb => by cases hb) (fun hf hf2 => nums_rd ho.1 (fun b hb => hf2 b ⟨_, h, hb⟩ ((ho.2 b hb).resolve_right (hN b)) (fun c hc => by cases hc)))
theorem MemOk.dropN (m : MemOk X w0 M w) {i : Nat} {p : Option Addr} {l c : Nat} {k : IntKind} {zs : List Int} (hm : lk M i = some (.dat (.slice p l c) (.ns k zs))) (j : Nat) (hj : j ≤ zs.length) (i2 : Nat) (hi2 : lk M i2 = none) : MemOk X w0 ((i2, .dat (.slice (if c = j then p else p.map (·.add (j * 1))) (l - j) (c - j)) (.ns k (zs.drop j))) :: M) w :=
 m.dat i2 hi2 (.ns ((m.rd hm).ns_out.drop j hj))
end Go.Proofs.YtkehgingagggaaaGreat.K
end
section
namespace Go.Proofs
open Go.Shelf
def Tryz.sort64_ren : Go.Shelf.Ren := ⟨fun | 53 => 171 | 64 => 135 | 63 => 183 | 78 => 161 | 79 => 162 | 70 => 185 | 71 => 186 | 72 => 187 | 73 => 188 | 74 => 189 | 75 => 190 | 59 => 191 | 76 => 192 | 77 => 193 | 88 => 194 | 89 => 175 | 90 => 176 | 91 => 195 | 92 => 196 | 68 => 197 | 96 => 198 | n => n, fun | 22 => 48 | 23 => 2 | 3 => 3 | 51 => 169 | 0 => 0 | 67 => 194 | 69 => 108 | 4 => 4 | 61 => 186 | 60 => 185 | 44 => 191 | 5 => 5 | 9 => 9 | 75 => 205 | 79 => 209 | 83 => 214 | 84 => 215 | n => n, fun | n => n⟩
theorem Tryz.sort64 : Go.Proofs.SlLaysN.n53 Tryz.prog Tryz.sort64_ren := {
  mixed := by kernel_rfl
  f53 := ⟨Tryz.f171.name, by decide, Tryz.func171.trans (congrArg some (by kernel_rfl))⟩
  f59 := ⟨Tryz.f191.name, by decide, Tryz.func191.trans (congrArg some (by kernel_rfl))⟩
  f63 := ⟨Tryz.f183.name, by decide, Tryz.func183.trans (congrArg some (by kernel_rfl))⟩
  f64 := Tryz.func135.trans (congrArg some (by kernel_rfl))
  f68 := ⟨Tryz.f197.name, by decide, Tryz.func197.trans (congrArg some (by kernel_rfl))⟩
  f70 := ⟨Tryz.f185.name, by decide, Tryz.func185.trans (congrArg some (by kernel_rfl))⟩
  f71 := ⟨Tryz.f186.name, by decide, Tryz.func186.trans (congrArg some (by kernel_rfl))⟩
  f72 := ⟨Tryz.f187.name, by decide, Tryz.func187.trans (congrArg some (by kernel_rfl))⟩
  f73 := ⟨Tryz.f188.name, by decide, Tryz.func188.trans (congrArg some (by kernel_rfl))⟩
  f74 := ⟨Tryz.f189.name, by decide, Tryz.func189.trans (congrArg some (by kernel_rfl))⟩
  f75 := ⟨Tryz.f190.name, by decide, Tryz.func190.trans (congrArg some (by kernel_rfl))⟩
  f76 := ⟨Tryz.f192.name, by decide, Tryz.func192.trans (congrArg some (by kernel_rfl))⟩
  f77 := ⟨Tryz.f193.name, by decide, Tryz.func193.trans (congrArg some (by kernel_rfl))⟩
  f78 := Tryz.func161.trans (congrArg some (by kernel_rfl))
  f79 := Tryz.func162.trans (congrArg some (by kernel_rfl))
  f88 := ⟨Tryz.f194.name, by decide, Tryz.func194.trans (congrArg some (by kernel_rfl))⟩
  f89 := Tryz.func175.trans (congrArg some (by kernel_rfl))
  f90 := Tryz.func176.trans (congrArg some (by kernel_rfl))
  f91 := ⟨Tryz.f195.name, by decide, Tryz.func195.trans (congrArg some (by kernel_rfl))⟩
  f92 := ⟨Tryz.f196.name, by decide, Tryz.func196.trans (congrArg some (by kernel_rfl))⟩
  f96 := ⟨Tryz.f198.name, by decide, Tryz.func198.trans (congrArg some (by kernel_rfl))⟩
  t0 := Tryz.underlying0
  a0 := Tryz.isAgg0
  z0 := Tryz.sizeOf0
  v0 := Tryz.zeroValue0
  t3 := Tryz.underlying3
  a3 := Tryz.isAgg3
  z3 := Tryz.sizeOf3
  v3 := Tryz.zeroValue3
  t4 := Tryz.underlying4
  a4 := Tryz.isAgg4
  z4 := Tryz.sizeOf4
  v4 := Tryz.zeroValue4
  t5 := Tryz.underlying5
  a5 := Tryz.isAgg5
  z5 := Tryz.sizeOf5
  v5 := Tryz.zeroValue5
  t9 := Tryz.underlying9
  a9 := Tryz.isAgg9
  z9 := Tryz.sizeOf9
  v9 := Tryz.zeroValue9
  t22 := Tryz.underlying48
  a22 := Tryz.isAgg48
  z22 := Tryz.sizeOf48
  v22 := Tryz.zeroValue48
  t23 := Tryz.underlying2
  a23 := Tryz.isAgg2
  z23 := Tryz.sizeOf2
  v23 := Tryz.zeroValue2
  t44 := Tryz.underlying191
  a44 := Tryz.isAgg191
  z44 := Tryz.sizeOf191
  v44 := Tryz.zeroValue191
  t51 := Tryz.underlying169
  a51 := Tryz.isAgg169
  z51 := Tryz.sizeOf169
  v51 := Tryz.zeroValue169
  t60 := Tryz.underlying185
  a60 := Tryz.isAgg185
  z60 := Tryz.sizeOf185
  v60 := Tryz.zeroValue185
  t61 := Tryz.underlying186
  a61 := Tryz.isAgg186
  z61 := Tryz.sizeOf186
  v61 := Tryz.zeroValue186
  t67 := Tryz.underlying194
  a67 := Tryz.isAgg194
  z67 := Tryz.sizeOf194
  v67 := Tryz.zeroValue194
  t69 := Tryz.underlying108
  a69 := Tryz.isAgg108
  z69 := Tryz.sizeOf108
  v69 := Tryz.zeroValue108
  t75 := Tryz.underlying205
  a75 := Tryz.isAgg205
  z75 := Tryz.sizeOf205
  v75 := Tryz.zeroValue205
  t79 := Tryz.underlying209
  a79 := Tryz.isAgg209
  z79 := Tryz.sizeOf209
  v79 := Tryz.zeroValue209
  t83 := Tryz.underlying214
  a83 := Tryz.isAgg214
  z83 := Tryz.sizeOf214
  v83 := Tryz.zeroValue214
  t84 := Tryz.underlying215
  a84 := Tryz.isAgg215
  z84 := Tryz.sizeOf215
  v84 := Tryz.zeroValue215 }
def Tryz.delete64_ren : Go.Shelf.Ren := ⟨fun | 45 => 173 | n => n, fun | 22 => 48 | 23 => 2 | 3 => 3 | 4 => 4 | 0 => 0 | n => n, fun | n => n⟩
theorem Tryz.delete64 : Go.Proofs.SlLaysN.n45 Tryz.prog Tryz.delete64_ren := {
  mixed := by kernel_rfl
  f45 := ⟨Tryz.f173.name, by decide, Tryz.func173.trans (congrArg some (by kernel_rfl))⟩
  t0 := Tryz.underlying0
  a0 := Tryz.isAgg0
  z0 := Tryz.sizeOf0
  v0 := Tryz.zeroValue0
  t3 := Tryz.underlying3
  a3 := Tryz.isAgg3
  z3 := Tryz.sizeOf3
  v3 := Tryz.zeroValue3
  t4 := Tryz.underlying4
  a4 := Tryz.isAgg4
  z4 := Tryz.sizeOf4
  v4 := Tryz.zeroValue4
  t22 := Tryz.underlying48
  a22 := Tryz.isAgg48
  z22 := Tryz.sizeOf48
  v22 := Tryz.zeroValue48
  t23 := Tryz.underlying2
  a23 := Tryz.isAgg2
  z23 := Tryz.sizeOf2
  v23 := Tryz.zeroValue2
  i23 := by kernel_rfl }
def Tryz.index64_ren : Go.Shelf.Ren := ⟨fun | 29 => 172 | n => n, fun | 22 => 48 | 23 => 2 | 3 => 3 | 0 => 0 | 4 => 4 | n => n, fun | n => n⟩
theorem Tryz.index64 : Go.Proofs.SlLaysN.n29 Tryz.prog Tryz.index64_ren := {
  mixed := by kernel_rfl
  f29 := ⟨Tryz.f172.name, by decide, Tryz.func172.trans (congrArg some (by kernel_rfl))⟩
  t0 := Tryz.underlying0
  a0 := Tryz.isAgg0
  z0 := Tryz.sizeOf0
  v0 := Tryz.zeroValue0
  t3 := Tryz.underlying3
  a3 := Tryz.isAgg3
  z3 := Tryz.sizeOf3
  v3 := Tryz.zeroValue3
  t4 := Tryz.underlying4
  a4 := Tryz.isAgg4
  z4 := Tryz.sizeOf4
  v4 := Tryz.zeroValue4
  t22 := Tryz.underlying48
  a22 := Tryz.isAgg48
  z22 := Tryz.sizeOf48
  v22 := Tryz.zeroValue48
  t23 := Tryz.underlying2
  a23 := Tryz.isAgg2
  z23 := Tryz.sizeOf2
  v23 := Tryz.zeroValue2 }
def Tryz.sortI_ren : Go.Shelf.Ren := ⟨fun | 53 => 98 | 64 => 135 | 63 => 134 | 78 => 161 | 79 => 162 | 70 => 152 | 71 => 153 | 72 => 154 | 73 => 155 | 74 => 156 | 75 => 157 | 59 => 158 | 76 => 159 | 77 => 160 | 88 => 174 | 89 => 175 | 90 => 176 | 91 => 177 | 92 => 178 | 68 => 179 | 96 => 184 | n => n, fun | 22 => 35 | 23 => 3 | 3 => 3 | 51 => 169 | 0 => 0 | 67 => 194 | 69 => 108 | 4 => 4 | 61 => 186 | 60 => 185 | 44 => 191 | 5 => 5 | 9 => 9 | 75 => 205 | 79 => 209 | 83 => 214 | 84 => 215 | n => n, fun | n => n⟩
theorem Tryz.sortI : Go.Proofs.SlLaysN.n53 Tryz.prog Tryz.sortI_ren := {
  mixed := by kernel_rfl
  f53 := ⟨Tryz.f98.name, by decide, Tryz.func98.trans (congrArg some (by kernel_rfl))⟩
  f59 := ⟨Tryz.f158.name, by decide, Tryz.func158.trans (congrArg some (by kernel_rfl))⟩
  f63 := ⟨Tryz.f134.name, by decide, Tryz.func134.trans (congrArg some (by kernel_rfl))⟩
  f64 := Tryz.func135.trans (congrArg some (by kernel_rfl))
  f68 := ⟨Tryz.f179.name, by decide, Tryz.func179.trans (congrArg some (by kernel_rfl))⟩
  f70 := ⟨Tryz.f152.name, by decide, Tryz.func152.trans (congrArg some (by kernel_rfl))⟩
  f71 := ⟨Tryz.f153.name, by decide, Tryz.func153.trans (congrArg some (by kernel_rfl))⟩
  f72 := ⟨Tryz.f154.name, by decide, Tryz.func154.trans (congrArg some (by kernel_rfl))⟩
  f73 := ⟨Tryz.f155.name, by decide, Tryz.func155.trans (congrArg some (by kernel_rfl))⟩
  f74 := ⟨Tryz.f156.name, by decide, Tryz.func156.trans (congrArg some (by kernel_rfl))⟩
  f75 := ⟨Tryz.f157.name, by decide, Tryz.func157.trans (congrArg some (by kernel_rfl))⟩
  f76 := ⟨Tryz.f159.name, by decide, Tryz.func159.trans (congrArg some (by kernel_rfl))⟩
  f77 := ⟨Tryz.f160.name, by decide, Tryz.func160.trans (congrArg some (by kernel_rfl))⟩
  f78 := Tryz.func161.trans (congrArg some (by kernel_rfl))
  f79 := Tryz.func162.trans (congrArg some (by kernel_rfl))
  f88 := ⟨Tryz.f174.name, by decide, Tryz.func174.trans (congrArg some (by kernel_rfl))⟩
  f89 := Tryz.func175.trans (congrArg some (by kernel_rfl))
  f90 := Tryz.func176.trans (congrArg some (by kernel_rfl))
  f91 := ⟨Tryz.f177.name, by decide, Tryz.func177.trans (congrArg some (by kernel_rfl))⟩
  f92 := ⟨Tryz.f178.name, by decide, Tryz.func178.trans (congrArg some (by kernel_rfl))⟩
  f96 := ⟨Tryz.f184.name, by decide, Tryz.func184.trans (congrArg some (by kernel_rfl))⟩
  t0 := Tryz.underlying0
  a0 := Tryz.isAgg0
  z0 := Tryz.sizeOf0
  v0 := Tryz.zeroValue0
  t3 := Tryz.underlying3
  a3 := Tryz.isAgg3
  z3 := Tryz.sizeOf3
  v3 := Tryz.zeroValue3
  t4 := Tryz.underlying4
  a4 := Tryz.isAgg4
  z4 := Tryz.sizeOf4
  v4 := Tryz.zeroValue4
  t5 := Tryz.underlying5
  a5 := Tryz.isAgg5
  z5 := Tryz.sizeOf5
  v5 := Tryz.zeroValue5
  t9 := Tryz.underlying9
  a9 := Tryz.isAgg9
  z9 := Tryz.sizeOf9
  v9 := Tryz.zeroValue9
  t22 := Tryz.underlying35
  a22 := Tryz.isAgg35
  z22 := Tryz.sizeOf35
  v22 := Tryz.zeroValue35
  t23 := Tryz.underlying3
  a23 := Tryz.isAgg3
  z23 := Tryz.sizeOf3
  v23 := Tryz.zeroValue3
  t44 := Tryz.underlying191
  a44 := Tryz.isAgg191
  z44 := Tryz.sizeOf191
  v44 := Tryz.zeroValue191
  t51 := Tryz.underlying169
  a51 := Tryz.isAgg169
  z51 := Tryz.sizeOf169
  v51 := Tryz.zeroValue169
  t60 := Tryz.underlying185
  a60 := Tryz.isAgg185
  z60 := Tryz.sizeOf185
  v60 := Tryz.zeroValue185
  t61 := Tryz.underlying186
  a61 := Tryz.isAgg186
  z61 := Tryz.sizeOf186
  v61 := Tryz.zeroValue186
  t67 := Tryz.underlying194
  a67 := Tryz.isAgg194
  z67 := Tryz.sizeOf194
  v67 := Tryz.zeroValue194
  t69 := Tryz.underlying108
  a69 := Tryz.isAgg108
  z69 := Tryz.sizeOf108
  v69 := Tryz.zeroValue108
  t75 := Tryz.underlying205
  a75 := Tryz.isAgg205
  z75 := Tryz.sizeOf205
  v75 := Tryz.zeroValue205
  t79 := Tryz.underlying209
  a79 := Tryz.isAgg209
  z79 := Tryz.sizeOf209
  v79 := Tryz.zeroValue209
  t83 := Tryz.underlying214
  a83 := Tryz.isAgg214
  z83 := Tryz.sizeOf214
  v83 := Tryz.zeroValue214
  t84 := Tryz.underlying215
  a84 := Tryz.isAgg215
  z84 := Tryz.sizeOf215
  v84 := Tryz.zeroValue215 }
end Go.Proofs
end
