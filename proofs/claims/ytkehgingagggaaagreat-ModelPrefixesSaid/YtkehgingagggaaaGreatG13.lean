/- General laws of walks. -/
import Derived.Test.YtkehgingagggaaaGreatG12
import Derived.Test.YtkehgingagggaaaGreatG9
import Derived.Test.YtkehgingagggaaaGreatG11
namespace Go.Proofs.YtkehgingagggaaaGreat.K
open Go.ChangeShapes Go.WideShapes Go.ChangeAt Go.RowKit
set_option linter.unusedVariables false
set_option linter.unusedSimpArgs false
section
theorem fl44rD0 : flatS Tryz.prog 44 [.int .i64 0, .int .i64 0, .int .i64 0, .int .i64 0, .slice none 0 0] = true := by kernel_rfl
theorem fl44rD4 : flatS Tryz.prog 44 [.int .i64 0, .int .i64 0, .int .i64 0, .int .i64 0, .slice none 0 0] = true := by kernel_rfl
theorem fl44rD5 : flatS Tryz.prog 44 [.int .i64 0, .int .i64 0, .int .i64 0, .int .i64 0, .slice none 0 0] = true := by kernel_rfl
theorem fl38cm : flatS Tryz.prog 38 [.int .i64 0, .int .i64 0, .int .i64 0, .int .i64 0, .int .i64 0, .slice none 0 0, .int .i64 0, .int .i64 0, .int .i64 0, .slice none 0 0] = true := by kernel_rfl
theorem doR_err {bl sz to ne fl : Int} {hi : Bool} {pins : List Int} {ws : List (Int × List (Int × List Int))} {kd at0 ix : Int} {it : List (Int × List Int)} {ne' fl' e9 : Int} {hi' : Bool} {ws' : List (Int × List (Int × List Int))} (h : doR bl sz to ne fl hi pins ws kd at0 ix it = (ne', hi', fl', ws', e9)) (he : ¬ e9 = 0) : ne' = ne ∧ hi' = hi ∧ fl' = fl ∧ ws' = ws := by
 unfold doR putR pruneR takeR publishR wrR at h
 repeat' split at h
 all_goals (simp only [Prod.mk.injEq] at h; obtain ⟨rfl, rfl, rfl, rfl, rfl⟩ := h; first | exact ⟨rfl, rfl, rfl, rfl⟩ | exact absurd rfl he | (exfalso; revert he; simp; done) | simp_all)
theorem pinR_err {fl at0 n : Int} {hi : Bool} {pins pins' : List Int} {e9 : Int} (h : pinR hi fl at0 n pins = (pins', e9)) (he : ¬ e9 = 0) : pins' = pins := by
 unfold pinR at h
 split at h
 all_goals (simp only [Prod.mk.injEq] at h; obtain ⟨rfl, rfl⟩ := h; first | rfl | exact absurd rfl he)
theorem unpinR_err {at0 : Int} {hi : Bool} {pins pins' : List Int} {e9 : Int} (h : unpinR hi at0 pins = (pins', e9)) (he : ¬ e9 = 0) : pins' = pins := by
 unfold unpinR at h
 split at h
 all_goals (simp only [Prod.mk.injEq] at h; obtain ⟨rfl, rfl⟩ := h; first | rfl | exact absurd rfl he)
theorem b2 {a b : Int} (ha : 0 ≤ a ∧ a ≤ 255) (hb : 0 ≤ b ∧ b ≤ 255) : ∀ j, j < [a, b].length → 0 ≤ [a, b].getD j 0 ∧ [a, b].getD j 0 ≤ 255 := fun j hj => by
 match j, hj with
 | 0, _ => exact ha
 | 1, _ => exact hb
theorem b3 {a b c : Int} (ha : 0 ≤ a ∧ a ≤ 255) (hb : 0 ≤ b ∧ b ≤ 255) (hc : 0 ≤ c ∧ c ≤ 255) : ∀ j, j < [a, b, c].length → 0 ≤ [a, b, c].getD j 0 ∧ [a, b, c].getD j 0 ≤ 255 := fun j hj => by
 match j, hj with
 | 0, _ => exact ha
 | 1, _ => exact hb
 | 2, _ => exact hc
def SmallI (l : List (Int × List Int)) : Prop := l.length ≤ 12 ∧ ∀ e ∈ l, e.2.length ≤ 40
theorem SmallI.ok {l : List (Int × List Int)} (h : SmallI l) : ItsOk l := fun e he => Nat.le_trans (h.2 e he) (by decide)
set_option maxRecDepth 100000
set_option maxHeartbeats 4000000
theorem rDo (X : Cx) (vo bl sz pe to ne fl : Int) (hi : Bool) (place pins : List Int) (ws : List (Int × List (Int × List Int))) (items : List (Int × List Int)) (pp pn pw : Option Addr) (cp cn9 cw : Nat) (pi : Option Addr) (ci : Nat) (kd v1 v2 v3 v4 v5 at0 ix : Int) (q1 : Option Addr) (n1 c1 : Nat) (w0 : World) (hk4 : kd ≠ 4) (hk5 : kd ≠ 5) (hne : -1000000000000000 ≤ ne ∧ ne ≤ 1000000000000000) (hl : ws.length ≤ 900000) (hp : pins.length ≤ 1000000) (hil : items.length ≤ 1000000) (hio : ItsOk items) (m0 : MemOk X w0 [(1, .dat (.slice pp place.length cp) (.ns .i64 place)), (2, .dat (.slice pn pins.length cn9) (.ns .i64 pins)), (3, .dat (.slice pw (ws.map wrD).length cw) (.l 2 (ws.map wrD))), (4, .dat (.slice pi items.length ci) (.l 2 (items.map itD)))] w0) :
   Calls Tryz.prog 40 #[.agg #[.int .i64 vo, .int .i64 bl, .int .i64 sz, .int .i64 pe, .slice pp place.length cp, .int .i64 to, .int .i64 ne, .bool hi, .int .i64 fl, .slice pn pins.length cn9, .slice pw (ws.map wrD).length cw], .agg #[.int .i64 kd, .int .i64 v1, .int .i64 v2, .int .i64 v3, .int .i64 v4, .slice q1 n1 c1, .int .i64 v5, .int .i64 at0, .int .i64 ix, .slice pi items.length ci]] w0 fun e w' => ∃ (ne' : Int) (hi' : Bool) (fl' : Int) (ws' : List (Int × List (Int × List Int))) (e9 rl rf rn : Int) (p3' : Option Addr) (d3' : Nat), e = .returned (.tuple #[.agg #[.int .i64 vo, .int .i64 bl, .int .i64 sz, .int .i64 pe, .slice pp place.length cp, .int .i64 to, .int .i64 ne', .bool hi', .int .i64 fl', .slice pn pins.length cn9, .slice p3' (ws'.map wrD).length d3'], .agg #[.int .i64 e9, .int .i64 rl, .int .i64 rf, .int .i64 rn, .slice none 0 0]]) ∧ doR bl sz to ne fl hi pins ws kd at0 ix items = (ne', hi', fl', ws', e9) ∧ ((e9 ≠ 0 ∧ rl = 0 ∧ rf = 0 ∧ rn = 0) ∨ (e9 = 0 ∧ rl = ws'.length ∧ rf = fl' ∧ rn = ne')) ∧ MemOk X w0 [(1, .dat (.slice pp place.length cp) (.ns .i64 place)), (2, .dat (.slice pn pins.length cn9) (.ns .i64 pins)), (3, .dat (.slice pw (ws.map wrD).length cw) (.l 2 (ws.map wrD))), (4, .dat (.slice pi items.length ci) (.l 2 (items.map itD))), (7, .dat (.slice p3' (ws'.map wrD).length d3') (.l 2 (ws'.map wrD)))] w' := by
 refine ent2 Tryz.func40 rfl Tryz.ntmps40 fun Az Hz => ?_
 refine zsr fun K0 hK0 => ?_
 refine plz (e_box Hz m0 20 (cs := [_, _, _, _, _, _, _, _, _, _, _]) rfl rfl rfl fun g1 Az w2 Hz m2 _ _ => ?_)
 refine plz (e_box Hz m2 21 (cs := [_, _, _, _, _, _, _, _, _, _]) rfl rfl rfl fun g3 Az w4 Hz m4 _ _ => ?_)
 refine plz (e_alloc Hz m4 22 fct14 rfl fun g5 Az w6 Hz m6 _ _ => ?_)
 refine plz (e_alloc Hz m6 23 fct27 rfl fun g7 Az w8 Hz m8 _ _ => ?_)
 refine znl (hK0 _ _ ?_)
 refine zsr fun K1 hK1 => ?_
 refine goCh Hz (.loadBR m8 (i := 20) rfl rfl U51 rfl fct13 (by simp) (by dsimp only [List.drop, List.take] <;> rfl) <| .loadBR m8 (i := 21) rfl rfl U38 rfl fct20 (by simp) (by dsimp only [List.drop, List.take] <;> rfl) .nil) fun Az Hz => ?_
 refine plz (ecl Hz Tryz.func89 rfl (rdone _ _ _ _ _ _ _ _ _ place pins ws items _ _ _ _ _ _ _ _ kd _ _ _ _ _ _ _ _ _ _ _ hk4 hk5 hne hl hp hil hio (m8.into [(1, 1), (2, 2), (3, 3), (4, 4)] (by decide) rfl)) ?_)
 rintro e w13 ⟨ne1, hi1, fl1, ws1, e1, p13, c13, rfl, hR, hm13⟩
 have mx13 := m8.back hm13 [(1, 1), (2, 2), (3, 3), (4, 4), (24, 7)] (by decide); clear hm13 m8
 have m13 := mx13.oz [1, 2, 3, 4, 24, 20, 21, 22, 23]
 refine ⟨_, rfl, ?_⟩; intro Az Hz
 refine goCh Hz (.move rfl <| .extract rfl rfl <| .extract rfl rfl .nil) fun Az Hz => ?_
 refine plz (e_alloc Hz m13 25 fct14 rfl fun g18 Az w19 Hz m19 _ _ => ?_)
 refine plz (stw Hz m19 25 fct13 fun w20 m20 _ => ?_)
 refine gz hK1 Hz (.assign rfl .nil) fun Az Hz => ?_
 refine wsk fun K2 hK2 => ?_
 replace Hz := Hz.oz [2, 4, 5, 6, 7]
 refine regS Hz (.move rfl <| .neq rfl rfl .nil) fun Az Hz => ?_
 refine bc Hz 15 ?_ ?_
 ·
  intro hb25 Hz; try simp only [QQ, Qax] at hb25
  refine wct Hz ?_
  refine zsr fun K3 hK3 => ?_
  refine goCh Hz (.loadBR m20 (i := 20) rfl rfl U51 rfl fct13 (by simp) (by dsimp only [List.drop, List.take] <;> rfl) <| .move rfl <| .build rfl fct27 fl44rD0 rfl (by dsimp only [setL, List.set] <;> rfl) .nil) fun Az Hz => ?_
  refine plz (stw Hz m20 22 fct13 fun w32 m32 _ => ?_)
  refine plz (stw Hz m32 23 fct26 fun w33 m33 _ => ?_)
  refine znl (hK3 _ _ ?_)
  refine rtd (retCC (fn := Tryz.f40) Hz m33 (i := 22) (i2 := 23) rfl rfl rfl rfl rfl U51 rfl fct13 U44 rfl fct26 ?_)
  revert Hz
  obtain ⟨rfl, rfl, rfl, rfl⟩ := doR_err hR (by assumption)
  intro Hz
  have m34 := m33.dat 26 rfl (m33.rd (i := 3) rfl)
  exact ⟨ne1, hi1, fl1, ws1, e1, 0, 0, 0, _, _, rfl, hR, .inl ⟨by assumption, rfl, rfl, rfl⟩, m34.ren [(1, 1), (2, 2), (3, 3), (4, 4), (7, 26)] (by decide)⟩
 intro hb25 Hz; try simp only [QQ, Qax] at hb25
 refine wcf Hz ?_
 refine zss (hK2 _ _ ?_)
 refine wsk fun K4 hK4 => ?_
 have m35 := m20.oz [1, 2, 3, 4, 20, 21, 22, 23, 24, 25]
 refine region_p 10 (B := [(25, _)]) (m35.to ⟨il, trivial⟩) m35 (by kernel_rfl) (fun w36 hP36 m36 => ?_); clear m35
 refine goR hP36 [0, 1, 3, 4, 5, 6] [0, 1, 4, 6] 6 0 123 Hz (m36.to ⟨il, trivial⟩) (.loadBR hh (i := 25) rfl rfl U51 rfl fct13 (by simp) (by dsimp only [List.drop, List.take] <;> rfl) <| .loadBR hh (i := 25) rfl rfl U51 rfl fct13 (by simp) (by dsimp only [List.drop, List.take] <;> rfl) <| .fa 8 rfl U51 <| .lb hh 25 U2 rfl rfl rfl <| .fa 6 rfl U51 <| .lb hh 25 U3 rfl rfl rfl .nil) fun Az Hz => ?_
 refine so 2 ?_
 refine ecb Hz Tryz.func39 rfl m36 (rlen_any _ _ _ _ _ _ _ _ _ _ _ _ _ _ _ _ _ _) fun Az w43 Hz m44 => ?_
 refine ⟨m44.to ⟨il, trivial⟩, ?_⟩
 refine goA hP36 [7] 1 127 255 Hz (m44.to ⟨il, trivial⟩) (.build rfl fct27 fl44rD0 rfl (by dsimp only [setL, List.set] <;> rfl) .nil) fun Az Hz => ?_
 refine so 8 ?_
 refine stw Hz m44 22 fct13 fun w47 m47 _ => ?_
 refine ⟨m47.to ⟨il, trivial⟩, ?_⟩
 refine so 9 ?_
 refine stw Hz m47 23 fct26 fun w48 m48 _ => ?_
 refine ⟨m48.to ⟨il, trivial⟩, ?_⟩
 refine wpAnyE_done (by kernel_rfl) ?_ _
 refine hK4 _ _ ?_
 refine rtd (retCC (fn := Tryz.f40) Hz m48 (i := 22) (i2 := 23) rfl rfl rfl rfl rfl U51 rfl fct13 U44 rfl fct26 ?_)
 revert Hz
 obtain rfl : e1 = 0 := by first | assumption | omega
 intro Hz
 exact ⟨ne1, hi1, fl1, ws1, 0, ws1.length, fl1, ne1, _, _, by rw [List.length_map], hR, .inr ⟨rfl, rfl, rfl, rfl⟩, m48.ren [(1, 1), (2, 2), (3, 3), (4, 4), (7, 24)] (by decide)⟩
theorem rDo4 (X : Cx) (vo bl sz pe to ne fl : Int) (hi : Bool) (place pins : List Int) (ws : List (Int × List (Int × List Int))) (pp pn pw : Option Addr) (cp cn9 cw : Nat) (v1 v2 v3 v4 v5 at0 v6 : Int) (q1 : Option Addr) (n1 c1 : Nat) (q2 : Option Addr) (n2 c2 : Nat) (w0 : World) (hp : pins.length ≤ 900000) (hsp : pins.Pairwise (· ≤ ·)) (m0 : MemOk X w0 [(1, .dat (.slice pp place.length cp) (.ns .i64 place)), (2, .dat (.slice pn pins.length cn9) (.ns .i64 pins)), (3, .dat (.slice pw (ws.map wrD).length cw) (.l 2 (ws.map wrD)))] w0) :
   Calls Tryz.prog 40 #[.agg #[.int .i64 vo, .int .i64 bl, .int .i64 sz, .int .i64 pe, .slice pp place.length cp, .int .i64 to, .int .i64 ne, .bool hi, .int .i64 fl, .slice pn pins.length cn9, .slice pw (ws.map wrD).length cw], .agg #[.int .i64 4, .int .i64 v1, .int .i64 v2, .int .i64 v3, .int .i64 v4, .slice q1 n1 c1, .int .i64 v5, .int .i64 at0, .int .i64 v6, .slice q2 n2 c2]] w0 fun e w' => ∃ (pins' : List Int) (e9 rl rf rn : Int) (p2' : Option Addr) (d2' : Nat), e = .returned (.tuple #[.agg #[.int .i64 vo, .int .i64 bl, .int .i64 sz, .int .i64 pe, .slice pp place.length cp, .int .i64 to, .int .i64 ne, .bool hi, .int .i64 fl, .slice p2' pins'.length d2', .slice pw (ws.map wrD).length cw], .agg #[.int .i64 e9, .int .i64 rl, .int .i64 rf, .int .i64 rn, .slice none 0 0]]) ∧ pinR hi fl at0 ws.length pins = (pins', e9) ∧ ((e9 ≠ 0 ∧ rl = 0 ∧ rf = 0 ∧ rn = 0) ∨ (e9 = 0 ∧ rl = ws.length ∧ rf = fl ∧ rn = ne)) ∧ MemOk X w0 [(1, .dat (.slice pp place.length cp) (.ns .i64 place)), (2, .dat (.slice pn pins.length cn9) (.ns .i64 pins)), (3, .dat (.slice pw (ws.map wrD).length cw) (.l 2 (ws.map wrD))), (6, .dat (.slice p2' pins'.length d2') (.ns .i64 pins'))] w' := by
 refine ent2 Tryz.func40 rfl Tryz.ntmps40 fun Az Hz => ?_
 refine zsr fun K0 hK0 => ?_
 refine plz (e_box Hz m0 20 (cs := [_, _, _, _, _, _, _, _, _, _, _]) rfl rfl rfl fun g1 Az w2 Hz m2 _ _ => ?_)
 refine plz (e_box Hz m2 21 (cs := [_, _, _, _, _, _, _, _, _, _]) rfl rfl rfl fun g3 Az w4 Hz m4 _ _ => ?_)
 refine plz (e_alloc Hz m4 22 fct14 rfl fun g5 Az w6 Hz m6 _ _ => ?_)
 refine plz (e_alloc Hz m6 23 fct27 rfl fun g7 Az w8 Hz m8 _ _ => ?_)
 refine znl (hK0 _ _ ?_)
 refine zsr fun K1 hK1 => ?_
 refine goCh Hz (.loadBR m8 (i := 20) rfl rfl U51 rfl fct13 (by simp) (by dsimp only [List.drop, List.take] <;> rfl) <| .loadBR m8 (i := 21) rfl rfl U38 rfl fct20 (by simp) (by dsimp only [List.drop, List.take] <;> rfl) .nil) fun Az Hz => ?_
 refine plz (ecl Hz Tryz.func89 rfl (rdone4 _ _ _ _ _ _ _ _ _ place pins ws _ _ _ _ _ _ _ _ _ _ _ _ _ _ _ _ _ _ _ _ hp hsp (m8.into [(1, 1), (2, 2), (3, 3)] (by decide) rfl)) ?_)
 rintro e w13 ⟨pins1, e1, p13, c13, rfl, hR, hm13⟩
 have mx13 := m8.back hm13 [(1, 1), (2, 2), (3, 3), (24, 6)] (by decide); clear hm13 m8
 have m13 := mx13.oz [1, 2, 3, 24, 20, 21, 22, 23]
 refine ⟨_, rfl, ?_⟩; intro Az Hz
 refine goCh Hz (.move rfl <| .extract rfl rfl <| .extract rfl rfl .nil) fun Az Hz => ?_
 refine plz (e_alloc Hz m13 25 fct14 rfl fun g18 Az w19 Hz m19 _ _ => ?_)
 refine plz (stw Hz m19 25 fct13 fun w20 m20 _ => ?_)
 refine gz hK1 Hz (.assign rfl .nil) fun Az Hz => ?_
 refine wsk fun K2 hK2 => ?_
 replace Hz := Hz.oz [2, 4, 5, 6, 7]
 refine regS Hz (.move rfl <| .neq rfl rfl .nil) fun Az Hz => ?_
 refine bc Hz 15 ?_ ?_
 ·
  intro hb25 Hz; try simp only [QQ, Qax] at hb25
  refine wct Hz ?_
  refine zsr fun K3 hK3 => ?_
  refine goCh Hz (.loadBR m20 (i := 20) rfl rfl U51 rfl fct13 (by simp) (by dsimp only [List.drop, List.take] <;> rfl) <| .move rfl <| .build rfl fct27 fl44rD4 rfl (by dsimp only [setL, List.set] <;> rfl) .nil) fun Az Hz => ?_
  refine plz (stw Hz m20 22 fct13 fun w32 m32 _ => ?_)
  refine plz (stw Hz m32 23 fct26 fun w33 m33 _ => ?_)
  refine znl (hK3 _ _ ?_)
  refine rtd (retCC (fn := Tryz.f40) Hz m33 (i := 22) (i2 := 23) rfl rfl rfl rfl rfl U51 rfl fct13 U44 rfl fct26 ?_)
  revert Hz
  obtain rfl := pinR_err hR (by assumption)
  intro Hz
  have m34 := m33.dat 26 rfl (m33.rd (i := 2) rfl)
  exact ⟨pins1, e1, 0, 0, 0, _, _, rfl, hR, .inl ⟨by assumption, rfl, rfl, rfl⟩, m34.ren [(1, 1), (2, 2), (3, 3), (6, 26)] (by decide)⟩
 intro hb25 Hz; try simp only [QQ, Qax] at hb25
 refine wcf Hz ?_
 refine zss (hK2 _ _ ?_)
 refine wsk fun K4 hK4 => ?_
 have m35 := m20.oz [1, 2, 3, 20, 21, 22, 23, 24, 25]
 refine region_p 10 (B := [(25, _)]) (m35.to ⟨il, trivial⟩) m35 (by kernel_rfl) (fun w36 hP36 m36 => ?_); clear m35
 refine goR hP36 [0, 1, 3, 4, 5, 6] [0, 1, 4, 6] 6 0 123 Hz (m36.to ⟨il, trivial⟩) (.loadBR hh (i := 25) rfl rfl U51 rfl fct13 (by simp) (by dsimp only [List.drop, List.take] <;> rfl) <| .loadBR hh (i := 25) rfl rfl U51 rfl fct13 (by simp) (by dsimp only [List.drop, List.take] <;> rfl) <| .fa 8 rfl U51 <| .lb hh 25 U2 rfl rfl rfl <| .fa 6 rfl U51 <| .lb hh 25 U3 rfl rfl rfl .nil) fun Az Hz => ?_
 refine so 2 ?_
 refine ecb Hz Tryz.func39 rfl m36 (rlen_any _ _ _ _ _ _ _ _ _ _ _ _ _ _ _ _ _ _) fun Az w43 Hz m44 => ?_
 refine ⟨m44.to ⟨il, trivial⟩, ?_⟩
 refine goA hP36 [7] 1 127 255 Hz (m44.to ⟨il, trivial⟩) (.build rfl fct27 fl44rD4 rfl (by dsimp only [setL, List.set] <;> rfl) .nil) fun Az Hz => ?_
 refine so 8 ?_
 refine stw Hz m44 22 fct13 fun w47 m47 _ => ?_
 refine ⟨m47.to ⟨il, trivial⟩, ?_⟩
 refine so 9 ?_
 refine stw Hz m47 23 fct26 fun w48 m48 _ => ?_
 refine ⟨m48.to ⟨il, trivial⟩, ?_⟩
 refine wpAnyE_done (by kernel_rfl) ?_ _
 refine hK4 _ _ ?_
 refine rtd (retCC (fn := Tryz.f40) Hz m48 (i := 22) (i2 := 23) rfl rfl rfl rfl rfl U51 rfl fct13 U44 rfl fct26 ?_)
 revert Hz
 obtain rfl : e1 = 0 := by first | assumption | omega
 intro Hz
 exact ⟨pins1, 0, ws.length, fl, ne, _, _, by rw [List.length_map], hR, .inr ⟨rfl, rfl, rfl, rfl⟩, m48.ren [(1, 1), (2, 2), (3, 3), (6, 24)] (by decide)⟩
theorem rDo5 (X : Cx) (vo bl sz pe to ne fl : Int) (hi : Bool) (place pins : List Int) (ws : List (Int × List (Int × List Int))) (pp pn pw : Option Addr) (cp cn9 cw : Nat) (v1 v2 v3 v4 v5 at0 v6 : Int) (q1 : Option Addr) (n1 c1 : Nat) (q2 : Option Addr) (n2 c2 : Nat) (w0 : World) (hp : pins.length ≤ 900000) (m0 : MemOk X w0 [(1, .dat (.slice pp place.length cp) (.ns .i64 place)), (2, .dat (.slice pn pins.length cn9) (.ns .i64 pins)), (3, .dat (.slice pw (ws.map wrD).length cw) (.l 2 (ws.map wrD)))] w0) :
   Calls Tryz.prog 40 #[.agg #[.int .i64 vo, .int .i64 bl, .int .i64 sz, .int .i64 pe, .slice pp place.length cp, .int .i64 to, .int .i64 ne, .bool hi, .int .i64 fl, .slice pn pins.length cn9, .slice pw (ws.map wrD).length cw], .agg #[.int .i64 5, .int .i64 v1, .int .i64 v2, .int .i64 v3, .int .i64 v4, .slice q1 n1 c1, .int .i64 v5, .int .i64 at0, .int .i64 v6, .slice q2 n2 c2]] w0 fun e w' => ∃ (pins' : List Int) (e9 rl rf rn : Int) (p2' : Option Addr) (d2' : Nat), e = .returned (.tuple #[.agg #[.int .i64 vo, .int .i64 bl, .int .i64 sz, .int .i64 pe, .slice pp place.length cp, .int .i64 to, .int .i64 ne, .bool hi, .int .i64 fl, .slice p2' pins'.length d2', .slice pw (ws.map wrD).length cw], .agg #[.int .i64 e9, .int .i64 rl, .int .i64 rf, .int .i64 rn, .slice none 0 0]]) ∧ unpinR hi at0 pins = (pins', e9) ∧ ((e9 ≠ 0 ∧ rl = 0 ∧ rf = 0 ∧ rn = 0) ∨ (e9 = 0 ∧ rl = ws.length ∧ rf = fl ∧ rn = ne)) ∧ MemOk X w0 [(1, .dat (.slice pp place.length cp) (.ns .i64 place)), (2, .dat (.slice pn pins.length cn9) (.ns .i64 pins)), (3, .dat (.slice pw (ws.map wrD).length cw) (.l 2 (ws.map wrD))), (6, .dat (.slice p2' pins'.length d2') (.ns .i64 pins'))] w' := by
 refine ent2 Tryz.func40 rfl Tryz.ntmps40 fun Az Hz => ?_
 refine zsr fun K0 hK0 => ?_
 refine plz (e_box Hz m0 20 (cs := [_, _, _, _, _, _, _, _, _, _, _]) rfl rfl rfl fun g1 Az w2 Hz m2 _ _ => ?_)
 refine plz (e_box Hz m2 21 (cs := [_, _, _, _, _, _, _, _, _, _]) rfl rfl rfl fun g3 Az w4 Hz m4 _ _ => ?_)
 refine plz (e_alloc Hz m4 22 fct14 rfl fun g5 Az w6 Hz m6 _ _ => ?_)
 refine plz (e_alloc Hz m6 23 fct27 rfl fun g7 Az w8 Hz m8 _ _ => ?_)
 refine znl (hK0 _ _ ?_)
 refine zsr fun K1 hK1 => ?_
 refine goCh Hz (.loadBR m8 (i := 20) rfl rfl U51 rfl fct13 (by simp) (by dsimp only [List.drop, List.take] <;> rfl) <| .loadBR m8 (i := 21) rfl rfl U38 rfl fct20 (by simp) (by dsimp only [List.drop, List.take] <;> rfl) .nil) fun Az Hz => ?_
 refine plz (ecl Hz Tryz.func89 rfl (rdone5 _ _ _ _ _ _ _ _ _ place pins ws _ _ _ _ _ _ _ _ _ _ _ _ _ _ _ _ _ _ _ _ hp (m8.into [(1, 1), (2, 2), (3, 3)] (by decide) rfl)) ?_)
 rintro e w13 ⟨pins1, e1, p13, c13, rfl, hR, hm13⟩
 have mx13 := m8.back hm13 [(1, 1), (2, 2), (3, 3), (24, 6)] (by decide); clear hm13 m8
 have m13 := mx13.oz [1, 2, 3, 24, 20, 21, 22, 23]
 refine ⟨_, rfl, ?_⟩; intro Az Hz
 refine goCh Hz (.move rfl <| .extract rfl rfl <| .extract rfl rfl .nil) fun Az Hz => ?_
 refine plz (e_alloc Hz m13 25 fct14 rfl fun g18 Az w19 Hz m19 _ _ => ?_)
 refine plz (stw Hz m19 25 fct13 fun w20 m20 _ => ?_)
 refine gz hK1 Hz (.assign rfl .nil) fun Az Hz => ?_
 refine wsk fun K2 hK2 => ?_
 replace Hz := Hz.oz [2, 4, 5, 6, 7]
 refine regS Hz (.move rfl <| .neq rfl rfl .nil) fun Az Hz => ?_
 refine bc Hz 15 ?_ ?_
 ·
  intro hb25 Hz; try simp only [QQ, Qax] at hb25
  refine wct Hz ?_
  refine zsr fun K3 hK3 => ?_
  refine goCh Hz (.loadBR m20 (i := 20) rfl rfl U51 rfl fct13 (by simp) (by dsimp only [List.drop, List.take] <;> rfl) <| .move rfl <| .build rfl fct27 fl44rD5 rfl (by dsimp only [setL, List.set] <;> rfl) .nil) fun Az Hz => ?_
  refine plz (stw Hz m20 22 fct13 fun w32 m32 _ => ?_)
  refine plz (stw Hz m32 23 fct26 fun w33 m33 _ => ?_)
  refine znl (hK3 _ _ ?_)
  refine rtd (retCC (fn := Tryz.f40) Hz m33 (i := 22) (i2 := 23) rfl rfl rfl rfl rfl U51 rfl fct13 U44 rfl fct26 ?_)
  revert Hz
  obtain rfl := unpinR_err hR (by assumption)
  intro Hz
  have m34 := m33.dat 26 rfl (m33.rd (i := 2) rfl)
  exact ⟨pins1, e1, 0, 0, 0, _, _, rfl, hR, .inl ⟨by assumption, rfl, rfl, rfl⟩, m34.ren [(1, 1), (2, 2), (3, 3), (6, 26)] (by decide)⟩
 intro hb25 Hz; try simp only [QQ, Qax] at hb25
 refine wcf Hz ?_
 refine zss (hK2 _ _ ?_)
 refine wsk fun K4 hK4 => ?_
 have m35 := m20.oz [1, 2, 3, 20, 21, 22, 23, 24, 25]
 refine region_p 10 (B := [(25, _)]) (m35.to ⟨il, trivial⟩) m35 (by kernel_rfl) (fun w36 hP36 m36 => ?_); clear m35
 refine goR hP36 [0, 1, 3, 4, 5, 6] [0, 1, 4, 6] 6 0 123 Hz (m36.to ⟨il, trivial⟩) (.loadBR hh (i := 25) rfl rfl U51 rfl fct13 (by simp) (by dsimp only [List.drop, List.take] <;> rfl) <| .loadBR hh (i := 25) rfl rfl U51 rfl fct13 (by simp) (by dsimp only [List.drop, List.take] <;> rfl) <| .fa 8 rfl U51 <| .lb hh 25 U2 rfl rfl rfl <| .fa 6 rfl U51 <| .lb hh 25 U3 rfl rfl rfl .nil) fun Az Hz => ?_
 refine so 2 ?_
 refine ecb Hz Tryz.func39 rfl m36 (rlen_any _ _ _ _ _ _ _ _ _ _ _ _ _ _ _ _ _ _) fun Az w43 Hz m44 => ?_
 refine ⟨m44.to ⟨il, trivial⟩, ?_⟩
 refine goA hP36 [7] 1 127 255 Hz (m44.to ⟨il, trivial⟩) (.build rfl fct27 fl44rD5 rfl (by dsimp only [setL, List.set] <;> rfl) .nil) fun Az Hz => ?_
 refine so 8 ?_
 refine stw Hz m44 22 fct13 fun w47 m47 _ => ?_
 refine ⟨m47.to ⟨il, trivial⟩, ?_⟩
 refine so 9 ?_
 refine stw Hz m47 23 fct26 fun w48 m48 _ => ?_
 refine ⟨m48.to ⟨il, trivial⟩, ?_⟩
 refine wpAnyE_done (by kernel_rfl) ?_ _
 refine hK4 _ _ ?_
 refine rtd (retCC (fn := Tryz.f40) Hz m48 (i := 22) (i2 := 23) rfl rfl rfl rfl rfl U51 rfl fct13 U44 rfl fct26 ?_)
 revert Hz
 obtain rfl : e1 = 0 := by first | assumption | omega
 intro Hz
 exact ⟨pins1, 0, ws.length, fl, ne, _, _, by rw [List.length_map], hR, .inr ⟨rfl, rfl, rfl, rfl⟩, m48.ren [(1, 1), (2, 2), (3, 3), (6, 24)] (by decide)⟩
theorem scmd_any (vo bl : Int) (z : Nat) (pe to ne fl : Int) (hi : Bool) (pp pn pw : Option Addr) (np cp nn9 cn9 nw cw : Nat) (wh xa xb xc : Int) (w0 : World) (hz : z ≤ 1000) (hnw : nw ≤ 1000000) (hne : -1000000000000000 ≤ ne ∧ ne ≤ 1000000000000000) (hw9 : 0 ≤ wh ∧ wh ≤ 255) (ha9 : 0 ≤ xa ∧ xa ≤ 255) (hb9 : 0 ≤ xb ∧ xb ≤ 255) (hc9 : 0 ≤ xc ∧ xc ≤ 255) :
   Calls Tryz.prog 41 #[.agg #[.int .i64 vo, .int .i64 bl, .int .i64 (z : Int), .int .i64 pe, .slice pp np cp, .int .i64 to, .int .i64 ne, .bool hi, .int .i64 fl, .slice pn nn9 cn9, .slice pw nw cw], .bool true, .int .u8 wh, .int .u8 xa, .int .u8 xb, .int .u8 xc] w0 fun e w' => ∃ (kd bl2 sz2 pe2 to2 at0 ix vo2 : Int) (it : List (Int × List Int)) (pi : Option Addr) (ci : Nat) (dd : Unit), e = .returned (.agg #[.int .i64 kd, .int .i64 vo2, .int .i64 bl2, .int .i64 sz2, .int .i64 pe2, .slice none 0 0, .int .i64 to2, .int .i64 at0, .int .i64 ix, .slice pi it.length ci]) ∧ (2 ≤ kd ∧ kd ≤ 8) ∧ it.length ≤ 8 ∧ ItsB it ∧ Rd (New w0) w' (.slice pi it.length ci) (.l 2 (it.map itD)) ∧ Below w0.heap.size w0 w' := by
 refine ent6 Tryz.func41 rfl Tryz.ntmps41 fun Az Hz => ?_
 have m0 := MemOk.start (fun _ => False) w0
 refine zsr fun K0 hK0 => ?_
 refine plz (e_box Hz m0 20 (cs := [_, _, _, _, _, _, _, _, _, _, _]) rfl rfl rfl fun g1 Az w2 Hz m2 _ _ => ?_)
 refine plz (e_alloc Hz m2 21 fct24 rfl fun g3 Az w4 Hz m4 _ _ => ?_)
 refine znl (hK0 _ _ ?_)
 refine wsk fun K1 hK1 => ?_
 refine regS Hz (.move rfl <| .not rfl .nil) fun Az Hz => ?_
 refine wcf Hz ?_
 refine zss (hK1 _ _ ?_)
 refine zsr fun K2 hK2 => ?_
 refine goCh Hz (.fa 0 rfl U51 <| .lb m4 20 U3 rfl rfl rfl <| .build rfl fct24 fl38cm rfl (by dsimp only [setL, List.set] <;> rfl) .nil) fun Az Hz => ?_
 refine plz (e_alloc Hz m4 22 fct24 rfl fun g13 Az w14 Hz m14 _ _ => ?_)
 refine plz (stw Hz m14 22 fct20 fun w15 m15 _ => ?_)
 refine znl (hK2 _ _ ?_)
 refine wsk fun K3 hK3 => ?_
 have hC3 : ∀ (a : Act) (w : World), (∃ (kd at0 ix : Int) (it : List (Int × List Int)) (pi : Option Addr) (ci : Nat) (B6 B12 B14 : Nat), (2 ≤ kd ∧ kd ≤ 8) ∧ it.length ≤ 8 ∧ ItsB it ∧ Has 131 [(2, .int .u8 wh), (3, .int .u8 xa), (4, .int .u8 xb), (5, .int .u8 xc), (6, .pointer (some ⟨B6, 0, none⟩)), (12, .pointer (some ⟨B12, 0, none⟩)), (14, .pointer (some ⟨B14, 0, none⟩))] a ∧ MemOk (cn w0) w0 [(6, .box B6 51 [.int .i64 vo, .int .i64 bl, .int .i64 (z : Int), .int .i64 pe, .slice pp np cp, .int .i64 to, .int .i64 ne, .bool hi, .int .i64 fl, .slice pn nn9 cn9, .slice pw nw cw]), (12, .box B12 38 [.int .i64 0, .int .i64 0, .int .i64 0, .int .i64 0, .int .i64 0, .slice none 0 0, .int .i64 0, .int .i64 0, .int .i64 0, .slice none 0 0]), (14, .box B14 38 [.int .i64 kd, .int .i64 vo, .int .i64 0, .int .i64 0, .int .i64 0, .slice none 0 0, .int .i64 0, .int .i64 at0, .int .i64 ix, .slice pi it.length ci]), (9, .dat (.slice pi it.length ci) (.l 2 (it.map itD)))] w) → K3 a w := by
   clear Hz m15
   rintro Az w16 ⟨kd, at0, ix, it, pi, ci, B6, B12, B14, hkd, hit8, hitb, Hz, m16⟩
   refine hK3 _ _ ?_
   refine wsk fun K4 hK4 => ?_
   refine zsr fun K5 hK5 => ?_
   refine goCh Hz (.fa 7 rfl U51 <| .lb m16 6 U4 rfl rfl rfl <| .move rfl .nil) fun Az Hz => ?_
   refine bc Hz 111 ?_ ?_
   ·
    intro hb23 Hz; try simp only [QQ, Qax] at hb23
    refine gz hK5 Hz (.moveZ rfl <| .remZ rfl rfl (by decide) rfl <| .lssZ rfl rfl <| .pickT rfl rfl <| .nil) fun Az Hz => ?_
    refine bc Hz 115 ?_ ?_
    ·
     intro hb28 Hz; try simp only [QQ, Qax] at hb28
     refine wct Hz ?_
     replace Hz := Hz.oz [3, 4, 5, 6, 12, 14]
     have m30 := m16.oz [6, 9, 12, 14]
     refine region_p 15 (B := [(6, _)]) (m30.to ⟨il, trivial⟩) m30 (by kernel_rfl) (fun w31 hP31 m31 => ?_); clear m30
     refine goR hP31 [0, 1, 2, 3, 4, 5, 6, 7, 8, 9, 10] [1, 3, 5, 7] 11 0 2047 Hz (m31.to ⟨il, trivial⟩) (.fa 0 rfl U51 <| .lb hh 6 U3 rfl rfl rfl <| .fa 6 rfl U51 <| .lb hh 6 U3 rfl rfl rfl <| .fa 1 rfl U51 <| .lb hh 6 U3 rfl rfl rfl <| .fa 2 rfl U51 <| .lb hh 6 U3 rfl rfl rfl <| .move rfl <| .move rfl <| .move rfl .nil) fun Az Hz => ?_
     refine so 11 ?_
     refine e_litN Hz m31 100 (k := .u8) rfl rfl U22 fct0 rfl rfl rfl rfl fun g43 Az w44 Hz m44 => ?_
     refine ⟨m44.to ⟨il, trivial⟩, ?_⟩
     have m45 := m44.freezeN 100 rfl
     refine so 12 ?_
     refine ecl Hz Tryz.func90 rfl (sitem_any bl z [xa, xb, xc] _ _ _ ((m45.rd (i := 100) rfl).any) (by simp) (b3 ha9 hb9 hc9) (by omega)) ?_
     rintro e w46 ⟨it, p46, c46, rfl, hit8, hpre9, hitb, hit1, hd46, hb46⟩
     have m47 := m45.callF 101 rfl hb46 hd46
     refine ⟨_, rfl, ?_⟩; intro Az Hz
     refine ⟨m47.to ⟨il, trivial⟩, ?_⟩
     refine goA hP31 [13] 1 8191 16383 Hz (m47.to ⟨il, trivial⟩) (.build rfl fct24 fl38cm rfl (by dsimp only [setL, List.set] <;> rfl) .nil) fun Az Hz => ?_
     refine so 14 ?_
     refine stw Hz m47 14 fct20 fun w50 m50 _ => ?_
     refine ⟨m50.to ⟨il, trivial⟩, ?_⟩
     refine wpAnyE_done (by kernel_rfl) ?_ _
     refine hK4 _ _ ?_
     replace Hz := Hz.oz [12, 14]
     refine zsr fun K6 hK6 => ?_
     refine goCh Hz (.loadBR m50 (i := 14) rfl rfl U38 rfl fct20 (by simp) (by dsimp only [List.drop, List.take] <;> rfl) .nil) fun Az Hz => ?_
     refine plz (stw Hz m50 12 fct20 fun w54 m54 _ => ?_)
     refine znl (hK6 _ _ ?_)
     refine rtd (retC (fn := Tryz.f41) Hz m54 (i := 12) rfl rfl rfl U38 rfl fct20 ?_)
     exact ⟨_, _, _, _, _, _, _, _, _, _, _, (), rfl, by first | assumption | decide, by first | assumption, by first | assumption, m54.outF (i := 101) rfl, m54.below⟩
    intro hb28 Hz; try simp only [QQ, Qax] at hb28
    refine wcf Hz ?_
    refine zss (hK4 _ _ ?_)
    replace Hz := Hz.oz [12, 14]
    refine zsr fun K7 hK7 => ?_
    refine goCh Hz (.loadBR m16 (i := 14) rfl rfl U38 rfl fct20 (by simp) (by dsimp only [List.drop, List.take] <;> rfl) .nil) fun Az Hz => ?_
    refine plz (stw Hz m16 12 fct20 fun w58 m58 _ => ?_)
    refine znl (hK7 _ _ ?_)
    refine rtd (retC (fn := Tryz.f41) Hz m58 (i := 12) rfl rfl rfl U38 rfl fct20 ?_)
    exact ⟨_, _, _, _, _, _, _, _, _, _, _, (), rfl, by first | assumption | decide, by first | assumption, by first | assumption, m58.outF (i := 9) rfl, m58.below⟩
   intro hb23 Hz; try simp only [QQ, Qax] at hb23
   refine gz hK5 Hz (.sk <| .sk <| .sk <| .pickF rfl rfl <| .nil) fun Az Hz => ?_
   refine wcf Hz ?_
   refine zss (hK4 _ _ ?_)
   replace Hz := Hz.oz [12, 14]
   refine zsr fun K8 hK8 => ?_
   refine goCh Hz (.loadBR m16 (i := 14) rfl rfl U38 rfl fct20 (by simp) (by dsimp only [List.drop, List.take] <;> rfl) .nil) fun Az Hz => ?_
   refine plz (stw Hz m16 12 fct20 fun w66 m66 _ => ?_)
   refine znl (hK8 _ _ ?_)
   refine rtd (retC (fn := Tryz.f41) Hz m66 (i := 12) rfl rfl rfl U38 rfl fct20 ?_)
   exact ⟨_, _, _, _, _, _, _, _, _, _, _, (), rfl, by first | assumption | decide, by first | assumption, by first | assumption, m66.outF (i := 9) rfl, m66.below⟩
 replace Hz := Hz.oz [2, 3, 4, 5, 6, 12, 14]
 refine regS Hz (.move rfl <| .rem rfl rfl (by decide) rfl .nil) fun Az Hz => ?_
 refine wp_block ?_
 refine wsk fun K9 hK9 => ?_
 refine regS Hz (.eql rfl rfl <| .assign rfl .nil) fun Az Hz => ?_
 refine bc Hz 39 ?_ ?_
 ·
  intro hb72 Hz; try simp only [QQ, Qax] at hb72
  refine wct Hz ?_
  refine zss (hK9 _ _ ?_)
  refine wct Hz ?_
  refine wp_region_lit ?_
  refine goCh Hz (.fa 1 rfl U51 <| .lb m15 20 U3 rfl rfl rfl <| .fa 2 rfl U51 <| .lb m15 20 U3 rfl rfl rfl <| .move rfl <| .move rfl <| .move rfl .nil) fun Az Hz => ?_
  refine plz (e_litN Hz m15 23 (k := .u8) rfl rfl U22 fct0 rfl rfl rfl rfl fun g80 Az w81 Hz m81 => ?_)
  have m82 := m81.freezeN 23 rfl
  refine plz (ecl Hz Tryz.func90 rfl (sitem_any bl z [xa, xb, xc] _ _ _ ((m82.rd (i := 23) rfl).any) (by simp) (b3 ha9 hb9 hc9) (by omega)) ?_)
  rintro e w83 ⟨it, p83, c83, rfl, hit8, hpre9, hitb, hit1, hd83, hb83⟩
  have m84 := m82.callF 24 rfl hb83 hd83
  refine ⟨_, rfl, ?_⟩; intro Az Hz
  refine goCh Hz (.fieldAddr (off := 0) rfl U38 rfl (s := 0) (by kernel_rfl) rfl .nil) fun Az Hz => ?_
  refine plz (st1 Hz m84 22 fct15 fun w87 m87 _ => ?_)
  refine goCh Hz (.fieldAddr (off := 9) rfl U38 rfl (s := 0) (by kernel_rfl) rfl .nil) fun Az Hz => ?_
  refine plz (st1 Hz m87 22 fct6 fun w89 m89 _ => ?_)
  refine wpList_nil ?_
  show K3 _ _
  exact hC3 _ _ ⟨_, _, _, it, _, _, _, _, _, by decide, hit8, hitb, Hz.only [2, 3, 4, 5, 6, 12, 14], m89.ren [(6, 20), (12, 21), (14, 22), (9, 24)] (by decide)⟩
 intro hb72 Hz; try simp only [QQ, Qax] at hb72
 refine wcf Hz ?_
 refine regS Hz (.eql rfl rfl <| .assign rfl .nil) fun Az Hz => ?_
 refine bc Hz 39 ?_ ?_
 ·
  intro hb92 Hz; try simp only [QQ, Qax] at hb92
  refine wct Hz ?_
  refine zss (hK9 _ _ ?_)
  refine wct Hz ?_
  refine wp_region_lit ?_
  refine goCh Hz (.fa 1 rfl U51 <| .lb m15 20 U3 rfl rfl rfl <| .fa 2 rfl U51 <| .lb m15 20 U3 rfl rfl rfl <| .move rfl <| .move rfl <| .move rfl .nil) fun Az Hz => ?_
  refine plz (e_litN Hz m15 23 (k := .u8) rfl rfl U22 fct0 rfl rfl rfl rfl fun g100 Az w101 Hz m101 => ?_)
  have m102 := m101.freezeN 23 rfl
  refine plz (ecl Hz Tryz.func90 rfl (sitem_any bl z [xa, xb, xc] _ _ _ ((m102.rd (i := 23) rfl).any) (by simp) (b3 ha9 hb9 hc9) (by omega)) ?_)
  rintro e w103 ⟨it, p103, c103, rfl, hit8, hpre9, hitb, hit1, hd103, hb103⟩
  have m104 := m102.callF 24 rfl hb103 hd103
  refine ⟨_, rfl, ?_⟩; intro Az Hz
  refine goCh Hz (.fieldAddr (off := 0) rfl U38 rfl (s := 0) (by kernel_rfl) rfl .nil) fun Az Hz => ?_
  refine plz (st1 Hz m104 22 fct15 fun w107 m107 _ => ?_)
  refine goCh Hz (.fieldAddr (off := 9) rfl U38 rfl (s := 0) (by kernel_rfl) rfl .nil) fun Az Hz => ?_
  refine plz (st1 Hz m107 22 fct6 fun w109 m109 _ => ?_)
  refine wpList_nil ?_
  show K3 _ _
  exact hC3 _ _ ⟨_, _, _, it, _, _, _, _, _, by decide, hit8, hitb, Hz.only [2, 3, 4, 5, 6, 12, 14], m109.ren [(6, 20), (12, 21), (14, 22), (9, 24)] (by decide)⟩
 intro hb92 Hz; try simp only [QQ, Qax] at hb92
 refine wcf Hz ?_
 refine regS Hz (.eql rfl rfl <| .assign rfl .nil) fun Az Hz => ?_
 refine bc Hz 39 ?_ ?_
 ·
  intro hb112 Hz; try simp only [QQ, Qax] at hb112
  refine wct Hz ?_
  refine zss (hK9 _ _ ?_)
  refine wct Hz ?_
  refine wp_region_lit ?_
  refine goCh Hz (.fa 1 rfl U51 <| .lb m15 20 U3 rfl rfl rfl <| .fa 2 rfl U51 <| .lb m15 20 U3 rfl rfl rfl <| .move rfl <| .move rfl <| .move rfl .nil) fun Az Hz => ?_
  refine plz (e_litN Hz m15 23 (k := .u8) rfl rfl U22 fct0 rfl rfl rfl rfl fun g120 Az w121 Hz m121 => ?_)
  have m122 := m121.freezeN 23 rfl
  refine plz (ecl Hz Tryz.func90 rfl (sitem_any bl z [xa, xb, xc] _ _ _ ((m122.rd (i := 23) rfl).any) (by simp) (b3 ha9 hb9 hc9) (by omega)) ?_)
  rintro e w123 ⟨it, p123, c123, rfl, hit8, hpre9, hitb, hit1, hd123, hb123⟩
  have m124 := m122.callF 24 rfl hb123 hd123
  refine ⟨_, rfl, ?_⟩; intro Az Hz
  refine goCh Hz (.fieldAddr (off := 0) rfl U38 rfl (s := 0) (by kernel_rfl) rfl .nil) fun Az Hz => ?_
  refine plz (st1 Hz m124 22 fct15 fun w127 m127 _ => ?_)
  refine goCh Hz (.fieldAddr (off := 9) rfl U38 rfl (s := 0) (by kernel_rfl) rfl .nil) fun Az Hz => ?_
  refine plz (st1 Hz m127 22 fct6 fun w129 m129 _ => ?_)
  refine wpList_nil ?_
  show K3 _ _
  exact hC3 _ _ ⟨_, _, _, it, _, _, _, _, _, by decide, hit8, hitb, Hz.only [2, 3, 4, 5, 6, 12, 14], m129.ren [(6, 20), (12, 21), (14, 22), (9, 24)] (by decide)⟩
 intro hb112 Hz; try simp only [QQ, Qax] at hb112
 refine wcf Hz ?_
 refine wp_region_lit ?_
 refine gz hK9 Hz (.eql rfl rfl <| .assign rfl <| .nil) fun Az Hz => ?_
 refine bc Hz 39 ?_ ?_
 ·
  intro hb132 Hz; try simp only [QQ, Qax] at hb132
  refine wct Hz ?_
  replace Hz := Hz.oz [2, 3, 4, 5, 6, 12, 14, 37]
  refine wp_region_lit ?_
  refine goCh Hz (.fa 1 rfl U51 <| .lb m15 20 U3 rfl rfl rfl <| .fa 2 rfl U51 <| .lb m15 20 U3 rfl rfl rfl <| .move rfl <| .move rfl <| .move rfl .nil) fun Az Hz => ?_
  refine plz (e_litN Hz m15 23 (k := .u8) rfl rfl U22 fct0 rfl rfl rfl rfl fun g141 Az w142 Hz m142 => ?_)
  have m143 := m142.freezeN 23 rfl
  refine plz (ecl Hz Tryz.func90 rfl (sitem_any bl z [xa, xb, xc] _ _ _ ((m143.rd (i := 23) rfl).any) (by simp) (b3 ha9 hb9 hc9) (by omega)) ?_)
  rintro e w144 ⟨it, p144, c144, rfl, hit8, hpre9, hitb, hit1, hd144, hb144⟩
  have m145 := m143.callF 24 rfl hb144 hd144
  refine ⟨_, rfl, ?_⟩; intro Az Hz
  refine goCh Hz (.fieldAddr (off := 0) rfl U38 rfl (s := 0) (by kernel_rfl) rfl .nil) fun Az Hz => ?_
  refine plz (st1 Hz m145 22 fct15 fun w148 m148 _ => ?_)
  refine goCh Hz (.fieldAddr (off := 9) rfl U38 rfl (s := 0) (by kernel_rfl) rfl .nil) fun Az Hz => ?_
  refine plz (st1 Hz m148 22 fct6 fun w150 m150 _ => ?_)
  refine wpList_nil ?_
  show K3 _ _
  exact hC3 _ _ ⟨_, _, _, it, _, _, _, _, _, by decide, hit8, hitb, Hz.only [2, 3, 4, 5, 6, 12, 14], m150.ren [(6, 20), (12, 21), (14, 22), (9, 24)] (by decide)⟩
 intro hb132 Hz; try simp only [QQ, Qax] at hb132
 refine wcf Hz ?_
 replace Hz := Hz.oz [2, 3, 4, 5, 6, 12, 14, 37]
 refine regS Hz (.eql rfl rfl <| .assign rfl .nil) fun Az Hz => ?_
 refine bc Hz 55 ?_ ?_
 ·
  intro hb154 Hz; try simp only [QQ, Qax] at hb154
  refine wct Hz ?_
  have m155 := m15.oz [20, 21, 22]
  refine region_p 10 (B := [(20, _)]) (m155.to ⟨il, trivial⟩) m155 (by kernel_rfl) (fun w156 hP156 m156 => ?_); clear m155
  refine goR hP156 [0, 1, 2, 6] [2] 4 0 71 Hz (m156.to ⟨il, trivial⟩) (.move rfl <| .conv rfl U5 U2 (r := xa) (IntWalk.i64_in _ (by omega)) <| .loadBR hh (i := 20) rfl rfl U51 rfl fct13 (by simp) (by dsimp only [List.drop, List.take] <;> rfl) <| .fa 0 rfl U38 .nil) fun Az Hz => ?_
  refine so 3 ?_
  refine ecb Hz Tryz.func39 rfl m156 (rlen_any _ _ _ _ _ _ _ _ _ _ _ _ _ _ _ _ _ _) fun Az w161 Hz m162 => ?_
  refine ⟨m162.to ⟨il, trivial⟩, ?_⟩
  refine goA hP156 [4, 5] 2 79 127 Hz (m162.to ⟨il, trivial⟩) (.add rfl rfl (r := (nw : Int) + 2) (IntWalk.i64_in _ (by omega)) <| .rem rfl rfl (by omega) rfl .nil) fun Az Hz => ?_
  refine so 7 ?_
  refine st1 Hz m162 22 fct15 fun w166 m166 _ => ?_
  refine ⟨m166.to ⟨il, trivial⟩, ?_⟩
  refine goA hP156 [8] 1 255 511 Hz (m166.to ⟨il, trivial⟩) (.fa 7 rfl U38 .nil) fun Az Hz => ?_
  refine so 9 ?_
  refine st1 Hz m166 22 fct19 fun w168 m168 _ => ?_
  refine ⟨m168.to ⟨il, trivial⟩, ?_⟩
  refine wpAnyE_done (by kernel_rfl) ?_ _
  have m169 := m168.dat 23 rfl (Rd.l0 none 0 2)
  show K3 _ _
  exact hC3 _ _ ⟨_, _, _, [], _, _, _, _, _, by decide, by decide, (fun _ h => by cases h), Hz.only [2, 3, 4, 5, 6, 12, 14], m169.ren [(6, 20), (12, 21), (14, 22), (9, 23)] (by decide)⟩
 intro hb154 Hz; try simp only [QQ, Qax] at hb154
 refine wcf Hz ?_
 refine regS Hz (.eql rfl rfl <| .assign rfl .nil) fun Az Hz => ?_
 refine bc Hz 65 ?_ ?_
 ·
  intro hb172 Hz; try simp only [QQ, Qax] at hb172
  refine wct Hz ?_
  have m173 := m15.oz [20, 21, 22]
  refine region_p 10 (B := [(20, _)]) (m173.to ⟨il, trivial⟩) m173 (by kernel_rfl) (fun w174 hP174 m174 => ?_); clear m173
  refine goR hP174 [0, 1, 2, 6] [2] 4 0 71 Hz (m174.to ⟨il, trivial⟩) (.move rfl <| .conv rfl U5 U2 (r := xa) (IntWalk.i64_in _ (by omega)) <| .loadBR hh (i := 20) rfl rfl U51 rfl fct13 (by simp) (by dsimp only [List.drop, List.take] <;> rfl) <| .fa 0 rfl U38 .nil) fun Az Hz => ?_
  refine so 3 ?_
  refine ecb Hz Tryz.func39 rfl m174 (rlen_any _ _ _ _ _ _ _ _ _ _ _ _ _ _ _ _ _ _) fun Az w179 Hz m180 => ?_
  refine ⟨m180.to ⟨il, trivial⟩, ?_⟩
  refine goA hP174 [4, 5] 2 79 127 Hz (m180.to ⟨il, trivial⟩) (.add rfl rfl (r := (nw : Int) + 2) (IntWalk.i64_in _ (by omega)) <| .rem rfl rfl (by omega) rfl .nil) fun Az Hz => ?_
  refine so 7 ?_
  refine st1 Hz m180 22 fct15 fun w184 m184 _ => ?_
  refine ⟨m184.to ⟨il, trivial⟩, ?_⟩
  refine goA hP174 [8] 1 255 511 Hz (m184.to ⟨il, trivial⟩) (.fa 7 rfl U38 .nil) fun Az Hz => ?_
  refine so 9 ?_
  refine st1 Hz m184 22 fct19 fun w186 m186 _ => ?_
  refine ⟨m186.to ⟨il, trivial⟩, ?_⟩
  refine wpAnyE_done (by kernel_rfl) ?_ _
  have m187 := m186.dat 23 rfl (Rd.l0 none 0 2)
  show K3 _ _
  exact hC3 _ _ ⟨_, _, _, [], _, _, _, _, _, by decide, by decide, (fun _ h => by cases h), Hz.only [2, 3, 4, 5, 6, 12, 14], m187.ren [(6, 20), (12, 21), (14, 22), (9, 23)] (by decide)⟩
 intro hb172 Hz; try simp only [QQ, Qax] at hb172
 refine wcf Hz ?_
 refine regS Hz (.eql rfl rfl <| .assign rfl .nil) fun Az Hz => ?_
 refine bc Hz 75 ?_ ?_
 ·
  intro hb190 Hz; try simp only [QQ, Qax] at hb190
  refine wct Hz ?_
  replace Hz := Hz.oz [2, 3, 4, 5, 6, 12, 14, 37]
  have m192 := m15.oz [20, 21, 22]
  refine region_p 10 (B := [(20, _)]) (m192.to ⟨il, trivial⟩) m192 (by kernel_rfl) (fun w193 hP193 m193 => ?_); clear m192
  refine goR hP193 [0, 1, 2, 6] [2] 4 0 71 Hz (m193.to ⟨il, trivial⟩) (.move rfl <| .conv rfl U5 U2 (r := xa) (IntWalk.i64_in _ (by omega)) <| .loadBR hh (i := 20) rfl rfl U51 rfl fct13 (by simp) (by dsimp only [List.drop, List.take] <;> rfl) <| .fa 0 rfl U38 .nil) fun Az Hz => ?_
  refine so 3 ?_
  refine ecb Hz Tryz.func39 rfl m193 (rlen_any _ _ _ _ _ _ _ _ _ _ _ _ _ _ _ _ _ _) fun Az w198 Hz m199 => ?_
  refine ⟨m199.to ⟨il, trivial⟩, ?_⟩
  refine goA hP193 [4, 5] 2 79 127 Hz (m199.to ⟨il, trivial⟩) (.add rfl rfl (r := (nw : Int) + 2) (IntWalk.i64_in _ (by omega)) <| .rem rfl rfl (by omega) rfl .nil) fun Az Hz => ?_
  refine so 7 ?_
  refine st1 Hz m199 22 fct15 fun w203 m203 _ => ?_
  refine ⟨m203.to ⟨il, trivial⟩, ?_⟩
  refine goA hP193 [8] 1 255 511 Hz (m203.to ⟨il, trivial⟩) (.fa 7 rfl U38 .nil) fun Az Hz => ?_
  refine so 9 ?_
  refine st1 Hz m203 22 fct19 fun w205 m205 _ => ?_
  refine ⟨m205.to ⟨il, trivial⟩, ?_⟩
  refine wpAnyE_done (by kernel_rfl) ?_ _
  have m206 := m205.dat 23 rfl (Rd.l0 none 0 2)
  show K3 _ _
  exact hC3 _ _ ⟨_, _, _, [], _, _, _, _, _, by decide, by decide, (fun _ h => by cases h), Hz.only [2, 3, 4, 5, 6, 12, 14], m206.ren [(6, 20), (12, 21), (14, 22), (9, 23)] (by decide)⟩
 intro hb190 Hz; try simp only [QQ, Qax] at hb190
 refine wcf Hz ?_
 replace Hz := Hz.oz [2, 3, 4, 5, 6, 12, 14, 37]
 refine regS Hz (.eql rfl rfl <| .assign rfl .nil) fun Az Hz => ?_
 refine bc Hz 85 ?_ ?_
 ·
  intro hb210 Hz; try simp only [QQ, Qax] at hb210
  refine wct Hz ?_
  refine wp_region_lit ?_
  refine goCh Hz (.fieldAddr (off := 0) rfl U38 rfl (s := 0) (by kernel_rfl) rfl .nil) fun Az Hz => ?_
  refine plz (st1 Hz m15 22 fct15 fun w212 m212 _ => ?_)
  refine wpList_nil ?_
  have m213 := m212.dat 23 rfl (Rd.l0 none 0 2)
  show K3 _ _
  exact hC3 _ _ ⟨_, _, _, [], _, _, _, _, _, by decide, by decide, (fun _ h => by cases h), Hz.only [2, 3, 4, 5, 6, 12, 14], m213.ren [(6, 20), (12, 21), (14, 22), (9, 23)] (by decide)⟩
 intro hb210 Hz; try simp only [QQ, Qax] at hb210
 refine wcf Hz ?_
 refine regS Hz (.eql rfl rfl <| .assign rfl .nil) fun Az Hz => ?_
 refine bc Hz 88 ?_ ?_
 ·
  intro hb216 Hz; try simp only [QQ, Qax] at hb216
  refine wct Hz ?_
  have m217 := m15.oz [20, 21, 22]
  refine region_p 22 (B := [(20, _)]) (m217.to ⟨il, trivial⟩) m217 (by kernel_rfl) (fun w218 hP218 m218 => ?_); clear m217
  refine goR hP218 [0, 1, 2, 3, 4, 5, 6, 7, 8, 9, 10, 11, 12, 13, 16] [1, 9, 11] 15 0 81919 Hz (m218.to ⟨il, trivial⟩) (.fa 6 rfl U51 <| .lb hh 20 U3 rfl rfl rfl <| .move rfl <| .rem rfl rfl (by decide) (Int.tmod_eq_emod_of_nonneg (by omega)) <| .conv rfl U5 U3 (r := xc % 5) (IntWalk.i64_in _ (by omega)) <| .quo rfl rfl (by decide) (r := xc % 5 / 4) (by rw [Int.tdiv_eq_ediv_of_nonneg (by omega)]; exact IntWalk.i64_in _ (by omega)) <| .sub rfl rfl (r := ne - xc % 5 / 4) (IntWalk.i64_in _ (by omega)) <| .p (fun _ _ h_ => y_max h_ rfl rfl rfl) <| .fa 1 rfl U51 <| .lb hh 20 U3 rfl rfl rfl <| .fa 2 rfl U51 <| .lb hh 20 U3 rfl rfl rfl <| .move rfl <| .move rfl <| .fa 0 rfl U38 .nil) fun Az Hz => ?_
  refine so 14 ?_
  refine e_litN Hz m218 23 (k := .u8) rfl rfl U22 fct0 rfl rfl rfl rfl fun g234 Az w235 Hz m235 => ?_
  refine ⟨m235.to ⟨il, trivial⟩, ?_⟩
  have m236 := m235.freezeN 23 rfl
  refine so 15 ?_
  refine ecl Hz Tryz.func90 rfl (sitem_any bl z [xa, xb] _ _ _ ((m236.rd (i := 23) rfl).any) (by simp) (b2 ha9 hb9) (by omega)) ?_
  rintro e w237 ⟨it, p237, c237, rfl, hit8, hpre9, hitb, hit1, hd237, hb237⟩
  have m238 := m236.callF 24 rfl hb237 hd237
  refine ⟨_, rfl, ?_⟩; intro Az Hz
  refine ⟨m238.to ⟨il, trivial⟩, ?_⟩
  refine so 17 ?_
  refine st1 Hz m238 22 fct15 fun w240 m240 _ => ?_
  refine ⟨m240.to ⟨il, trivial⟩, ?_⟩
  refine goA hP218 [18] 1 262143 524287 Hz (m240.to ⟨il, trivial⟩) (.fa 8 rfl U38 .nil) fun Az Hz => ?_
  refine so 19 ?_
  refine st1 Hz m240 22 fct15 fun w242 m242 _ => ?_
  refine ⟨m242.to ⟨il, trivial⟩, ?_⟩
  refine goA hP218 [20] 1 1048575 2097151 Hz (m242.to ⟨il, trivial⟩) (.fa 9 rfl U38 .nil) fun Az Hz => ?_
  refine so 21 ?_
  refine st1 Hz m242 22 fct6 fun w244 m244 _ => ?_
  refine ⟨m244.to ⟨il, trivial⟩, ?_⟩
  refine wpAnyE_done (by kernel_rfl) ?_ _
  show K3 _ _
  exact hC3 _ _ ⟨_, _, _, it, _, _, _, _, _, by decide, hit8, hitb, Hz.only [2, 3, 4, 5, 6, 12, 14], m244.ren [(6, 20), (12, 21), (14, 22), (9, 24)] (by decide)⟩
 intro hb216 Hz; try simp only [QQ, Qax] at hb216
 refine wcf Hz ?_
 refine wp_region_lit ?_
 refine goCh Hz (.fieldAddr (off := 0) rfl U38 rfl (s := 0) (by kernel_rfl) rfl .nil) fun Az Hz => ?_
 refine plz (st1 Hz m15 22 fct15 fun w246 m246 _ => ?_)
 refine wpList_nil ?_
 have m247 := m246.dat 23 rfl (Rd.l0 none 0 2)
 show K3 _ _
 exact hC3 _ _ ⟨_, _, _, [], _, _, _, _, _, by decide, by decide, (fun _ h => by cases h), Hz.only [2, 3, 4, 5, 6, 12, 14], m247.ren [(6, 20), (12, 21), (14, 22), (9, 23)] (by decide)⟩
end
section
abbrev PI := Int × List Int
abbrev PWr := Int × List PI
theorem pinspre_iff {fl : Int} {n : Nat} {pins : List Int} : PinsPre fl n pins pins.length ↔ pins.Pairwise (· ≤ ·) ∧ ∀ p ∈ pins, fl ≤ p ∧ p ≤ n := by
 constructor
 · intro h
   have hadj : ∀ j, j + 1 < pins.length → pins.getD j 0 ≤ pins.getD (j + 1) 0 := fun j hj => (h (j + 1) hj).1
   have hmono : ∀ d i, i + d < pins.length → pins.getD i 0 ≤ pins.getD (i + d) 0 := by
     intro d
     induction d with
     | zero => intro i _; exact Int.le_refl _
     | succ d ih => intro i hi; have h1 := ih i (by omega); have h2 := hadj (i + d) (by omega); rw [Nat.add_assoc] at h2; omega
   refine ⟨List.pairwise_iff_getElem.2 (fun i j hi hj hij => ?_), fun p hp => ?_⟩
   · have h1 := hmono (j - i) i (by omega)
     rw [show i + (j - i) = j by omega, List.getD, List.getD, List.getElem?_eq_getElem hi, List.getElem?_eq_getElem hj] at h1
     exact h1
   obtain ⟨j, hj, rfl⟩ := List.getElem_of_mem hp
   have h0 : fl ≤ pins.getD 0 0 := (h 0 (by omega)).1
   have h1 := hmono j 0 (by omega)
   have h2 := (h j hj).2
   rw [Nat.zero_add] at h1
   rw [show pins[j] = pins.getD j 0 by rw [List.getD, List.getElem?_eq_getElem hj]; rfl]
   omega
 rintro ⟨h1, h2⟩ j hj
 have hm : pins.getD j 0 ∈ pins := getD_mem hj
 refine ⟨?_, (h2 _ hm).2⟩
 cases j with
 | zero => exact (h2 _ hm).1
 | succ j =>
   show pins.getD j 0 ≤ pins.getD (j + 1) 0
   rw [List.getD, List.getD, List.getElem?_eq_getElem (by omega), List.getElem?_eq_getElem hj]
   exact List.pairwise_iff_getElem.1 h1 j (j + 1) (by omega) hj (by omega)
theorem lowL_le {n : Nat} {pins : List Int} : lowL n pins ≤ n ∧ ∀ p ∈ pins, lowL n pins ≤ p := by
 unfold lowL
 have key : ∀ (l : List Int) (x : Int), l.foldl min x ≤ x ∧ ∀ p ∈ l, l.foldl min x ≤ p := by
   intro l
   induction l with
   | nil => intro x; exact ⟨Int.le_refl _, fun p hp => by cases hp⟩
   | cons y r ih =>
     intro x
     obtain ⟨h1, h2⟩ := ih (min x y)
     refine ⟨by simp only [List.foldl_cons]; omega, fun p hp => ?_⟩
     simp only [List.foldl_cons]
     rcases List.mem_cons.1 hp with rfl | hp
     · omega
     exact h2 p hp
 exact key pins n
theorem wrpre_app2 {bl sz : Int} {ws : List PWr} {it : List PI} (h : WrPre bl sz ws ws.length) (hI : ItemsR bl sz it) : WrPre bl sz (ws ++ [((ws.length : Int) + 1, it)]) (ws.length + 1) := fun j hj => by
 rcases Nat.lt_or_ge j ws.length with h1 | h1
 · have h2 := h j h1
   rw [show (ws ++ [((ws.length : Int) + 1, it)]).getD j w1 = ws.getD j w1 by simp [List.getD, List.getElem?_append, h1]]
   exact h2
 obtain rfl : j = ws.length := by omega
 rw [show (ws ++ [((ws.length : Int) + 1, it)]).getD ws.length w1 = ((ws.length : Int) + 1, it) by simp [List.getD]]
 exact ⟨rfl, hI⟩
section
variable {vo bl sz pe to ne fl : Int} {hi : Bool} {place pins : List Int} {ws : List PWr}
theorem VolR.sorted (h : VolR vo bl sz pe to ne fl hi place pins ws) : pins.Pairwise (· ≤ ·) := by
 obtain ⟨h1, h2, h3, h4, h5, h6, h7, h8, h9⟩ := h
 exact (pinspre_iff.1 h8).1
theorem VolR.write (h : VolR vo bl sz pe to ne fl hi place pins ws) {it : List PI} (hI : ItemsR bl sz it) : VolR vo bl sz pe to ne fl hi place pins (ws ++ [((ws.length : Int) + 1, it)]) := by
 obtain ⟨h1, h2, h3, h4, h5, h6, h7, h8, h9⟩ := h
 refine ⟨h1, h2, h3, h4, h5, h6, by rw [List.length_append]; simp; omega, ?_, by rw [List.length_append]; exact wrpre_app2 h9 hI⟩
 obtain ⟨g1, g2⟩ := pinspre_iff.1 h8
 exact pinspre_iff.2 ⟨g1, fun p hp => by have := g2 p hp; rw [List.length_append]; simp; omega⟩
theorem VolR.do (h : VolR vo bl sz pe to ne fl hi place pins ws) (hh : hi = true → pins = []) {kd at0 ix : Int} {it : List PI} {ne' fl' e9 : Int} {hi' : Bool} {ws' : List PWr} (hd : doR bl sz to ne fl hi pins ws kd at0 ix it = (ne', hi', fl', ws', e9)) :
   VolR vo bl sz pe to ne' fl' hi' place pins ws' ∧ (hi' = true → pins = []) ∧ ws'.length ≤ ws.length + 1 := by
 have hsame : VolR vo bl sz pe to ne fl hi place pins ws ∧ (hi = true → pins = []) ∧ ws.length ≤ ws.length + 1 := ⟨h, hh, by omega⟩
 unfold doR at hd
 split at hd
 · unfold putR at hd
   split at hd
   · simp only [Prod.mk.injEq] at hd; obtain ⟨rfl, rfl, rfl, rfl, rfl⟩ := hd; exact hsame
   unfold wrR at hd
   split at hd
   · rename_i hI
     simp only [Prod.mk.injEq] at hd; obtain ⟨rfl, rfl, rfl, rfl, rfl⟩ := hd
     exact ⟨h.write hI, hh, by simp⟩
   simp only [Prod.mk.injEq] at hd; obtain ⟨rfl, rfl, rfl, rfl, rfl⟩ := hd; exact hsame
 split at hd
 · unfold pruneR at hd
   split at hd
   · rename_i hr
     simp only [Prod.mk.injEq] at hd; obtain ⟨rfl, rfl, rfl, rfl, rfl⟩ := hd
     unfold reachR at hr
     split at hr
     · cases hr
     split at hr
     · cases hr
     split at hr
     · cases hr
     rename_i a1 a2 a3
     obtain ⟨h1, h2, h3, h4, h5, h6, h7, h8, h9⟩ := h
     have hl := @lowL_le ws.length pins
     obtain ⟨g1, g2⟩ := pinspre_iff.1 h8
     exact ⟨⟨h1, h2, h3, h4, h5, by omega, by omega, pinspre_iff.2 ⟨g1, fun p hp => by have b1 := hl.2 p hp; have b2 := g2 p hp; omega⟩, h9⟩, hh, by omega⟩
   simp only [Prod.mk.injEq] at hd; obtain ⟨rfl, rfl, rfl, rfl, rfl⟩ := hd; exact hsame
 split at hd
 · unfold takeR at hd
   split at hd
   · simp only [Prod.mk.injEq] at hd; obtain ⟨rfl, rfl, rfl, rfl, rfl⟩ := hd; exact hsame
   split at hd
   · simp only [Prod.mk.injEq] at hd; obtain ⟨rfl, rfl, rfl, rfl, rfl⟩ := hd; exact hsame
   split at hd
   · simp only [Prod.mk.injEq] at hd; obtain ⟨rfl, rfl, rfl, rfl, rfl⟩ := hd; exact hsame
   rename_i b1 b2 b3
   by_cases hI : ItemsR bl sz it
   · rw [show wrR bl sz ws it = (ws ++ [((ws.length : Int) + 1, it)], 0) from by rw [wrR, if_pos hI]] at hd
     rw [if_pos rfl] at hd
     simp only [Prod.mk.injEq] at hd; obtain ⟨rfl, rfl, rfl, rfl, rfl⟩ := hd
     obtain ⟨h1, h2, h3, h4, h5, h6, h7, h8, h9⟩ := h.write hI
     refine ⟨⟨h1, by omega, ?_, h4, fun e => absurd e b1, h6, h7, h8, h9⟩, hh, by simp⟩
     have : ne ≠ to := fun e => b3 (.inr e)
     omega
   rw [show wrR bl sz ws it = (ws, 23) from by rw [wrR, if_neg hI]] at hd
   rw [if_neg (by simp)] at hd
   simp only [Prod.mk.injEq] at hd; obtain ⟨rfl, rfl, rfl, rfl, rfl⟩ := hd; exact hsame
 split at hd
 · unfold publishR at hd
   split at hd
   · simp only [Prod.mk.injEq] at hd; obtain ⟨rfl, rfl, rfl, rfl, rfl⟩ := hd; exact hsame
   rename_i b1
   simp only [Prod.mk.injEq] at hd; obtain ⟨rfl, rfl, rfl, rfl, rfl⟩ := hd
   obtain ⟨h1, h2, h3, h4, h5, h6, h7, h8, h9⟩ := h
   have e1 : hi = true := by cases hi with | true => rfl | false => exact absurd (.inl rfl) b1
   have e2 : ne = to := by
     by_cases e : ne = to
     · exact e
     exact absurd (.inr e) b1
   have e3 := hh e1
   subst e3
   exact ⟨⟨h1, h2, h3, (fun e => by cases e), (fun _ => e2), by omega, by omega, (fun j hj => by simp at hj), h9⟩, (fun e => by cases e), by omega⟩
 split at hd
 · simp only [Prod.mk.injEq] at hd; obtain ⟨rfl, rfl, rfl, rfl, rfl⟩ := hd; exact hsame
 simp only [Prod.mk.injEq] at hd; obtain ⟨rfl, rfl, rfl, rfl, rfl⟩ := hd; exact hsame
theorem VolR.pin (h : VolR vo bl sz pe to ne fl hi place pins ws) (hh : hi = true → pins = []) {at0 e9 : Int} {pins' : List Int} (hd : pinR hi fl at0 ws.length pins = (pins', e9)) :
   VolR vo bl sz pe to ne fl hi place pins' ws ∧ (hi = true → pins' = []) ∧ pins'.length ≤ pins.length + 1 := by
 unfold pinR at hd
 split at hd
 · rename_i hr
   simp only [Prod.mk.injEq] at hd; obtain ⟨rfl, rfl⟩ := hd
   unfold reachR at hr
   split at hr
   · cases hr
   split at hr
   · cases hr
   split at hr
   · cases hr
   rename_i a1 a2 a3
   obtain ⟨h1, h2, h3, h4, h5, h6, h7, h8, h9⟩ := h
   obtain ⟨g1, g2⟩ := pinspre_iff.1 h8
   refine ⟨⟨h1, h2, h3, h4, h5, h6, h7, pinspre_iff.2 ⟨sortP_sorted _, fun p hp => ?_⟩, h9⟩, fun e => absurd e a1, by simp [sortP]⟩
   rw [sortP, List.mem_mergeSort] at hp
   rcases List.mem_append.1 hp with hp | hp
   · exact g2 p hp
   simp at hp; subst hp; omega
 simp only [Prod.mk.injEq] at hd; obtain ⟨rfl, rfl⟩ := hd
 exact ⟨h, hh, by omega⟩
theorem VolR.unpin (h : VolR vo bl sz pe to ne fl hi place pins ws) (hh : hi = true → pins = []) {at0 e9 : Int} {pins' : List Int} (hd : unpinR hi at0 pins = (pins', e9)) :
   VolR vo bl sz pe to ne fl hi place pins' ws ∧ (hi = true → pins' = []) ∧ pins'.length ≤ pins.length + 1 := by
 unfold unpinR at hd
 split at hd
 · simp only [Prod.mk.injEq] at hd; obtain ⟨rfl, rfl⟩ := hd
   exact ⟨h, hh, by omega⟩
 rename_i b1
 simp only [Prod.mk.injEq] at hd; obtain ⟨rfl, rfl⟩ := hd
 obtain ⟨h1, h2, h3, h4, h5, h6, h7, h8, h9⟩ := h
 obtain ⟨g1, g2⟩ := pinspre_iff.1 h8
 have hs : (pins.take (Lib.idxOf pins at0).toNat ++ pins.drop ((Lib.idxOf pins at0).toNat + 1)).Sublist pins := by
   rw [← List.eraseIdx_eq_take_drop_succ]; exact List.eraseIdx_sublist _ _
 exact ⟨⟨h1, h2, h3, h4, h5, h6, h7, pinspre_iff.2 ⟨g1.sublist hs, fun p hp => g2 p (hs.subset hp)⟩, h9⟩, fun e => absurd (.inl e) b1, by have := hs.length_le; omega⟩
theorem VolR.its (h : VolR vo bl sz pe to ne fl hi place pins ws) : WrsOk ws ∧ (∀ e ∈ ws, e.2.length ≤ 8) := by
 obtain ⟨⟨a1, a2, a3, a4, a5, a6, a7⟩, h2, h3, h4, h5, h6, h7, h8, h9⟩ := h
 have key : ∀ e ∈ ws, e.2.length ≤ 8 ∧ ∀ x ∈ e.2, x.2.length ≤ 32 := fun e he => by
   obtain ⟨j, hj, rfl⟩ := List.getElem_of_mem he
   have h10 := (h9 j hj).2
   rw [List.getD, List.getElem?_eq_getElem hj] at h10
   refine ⟨h10.2.1, fun x hx => ?_⟩
   obtain ⟨i, hi, rfl⟩ := List.getElem_of_mem hx
   have h11 := (h10.2.2 i hi).2.2.1
   simp only [Option.getD_some] at h11
   rw [List.getD, List.getElem?_eq_getElem hi] at h11
   simp only [Option.getD_some] at h11
   omega
 exact ⟨fun e he => ⟨Nat.le_trans (key e he).1 (by decide), fun x hx => Nat.le_trans ((key e he).2 x hx) (by decide)⟩, fun e he => (key e he).1⟩
theorem VolR.new {vo bl sz pe to : Int} {place : List Int} (hN : NewOk vo bl sz pe to place) : VolR vo bl sz pe to 0 0 (decide (0 < to)) place [] [] := by
 have hN' := hN
 obtain ⟨h1, h2, h3, h4, h5, h6, h7, h8, h9, h10, h11⟩ := hN'
 exact ⟨hN, by omega, by omega, (fun e => by simp at e; omega), (fun e => by simp at e; omega), by omega, by simp, (fun j hj => by simp at hj), (fun j hj => by simp at hj)⟩
end
end
section
theorem flatten_put {α : Type} {mm : Nat} (vs : List α) (hv : vs.length = mm) : ∀ (cs : List (List α)) (J : Nat), (∀ c ∈ cs, c.length = mm) → J < cs.length → cs.flatten.take (J * mm) ++ vs ++ cs.flatten.drop (J * mm + mm) = (cs.set J vs).flatten
 | [], J, _, h => by simp at h
 | a :: cs, 0, hc, h => by
   have ha := hc a (by simp)
   rw [List.set_cons_zero, List.flatten_cons, List.flatten_cons, Nat.zero_mul, Nat.zero_add, List.take_zero, List.nil_append, List.drop_left' ha]
 | a :: cs, J + 1, hc, h => by
   have ha := hc a (by simp)
   have ih := flatten_put vs hv cs J (fun c h => hc c (by simp [h])) (by simpa using h)
   have e1 : (J + 1) * mm = a.length + J * mm := by rw [ha, Nat.add_mul]; omega
   rw [List.set_cons_succ, List.flatten_cons, List.flatten_cons, ← ih, e1, Nat.add_assoc, List.take_append, List.drop_append, List.take_of_length_le (by omega), List.drop_of_length_le (by omega)]
   rw [show a.length + J * mm - a.length = J * mm by omega, show a.length + (J * mm + mm) - a.length = J * mm + mm by omega]
   simp
section
variable {P : Program} {n : Nat} {T : List (Nat × Value)} {a : Act} {w w0 : World} {X : Cx} {M : Mm} {tt : TypeId} {pos : String} {af : Array Edge} {gd : Option (Nat × Bool)} {Q : Exit → Act → World → Prop} {K : Act → World → Prop}
end
end
section
structure VolV where
 vo : Int
 bl : Int
 sz : Int
 pe : Int
 place : List Int
 to : Int
 ne : Int
 hi : Bool
 fl : Int
 pins : List Int
 ws : List PWr
def volD (x : VolV) : List D := [.v (.int .i64 x.vo), .v (.int .i64 x.bl), .v (.int .i64 x.sz), .v (.int .i64 x.pe), .ns .i64 x.place, .v (.int .i64 x.to), .v (.int .i64 x.ne), .v (.bool x.hi), .v (.int .i64 x.fl), .ns .i64 x.pins, .l 2 (x.ws.map wrD)]
theorem volD_get {L : List VolV} {k : Nat} {x : VolV} (h : L[k]? = some x) : (L.map volD)[k]? = some [.v (.int .i64 x.vo), .v (.int .i64 x.bl), .v (.int .i64 x.sz), .v (.int .i64 x.pe), .ns .i64 x.place, .v (.int .i64 x.to), .v (.int .i64 x.ne), .v (.bool x.hi), .v (.int .i64 x.fl), .ns .i64 x.pins, .l 2 (x.ws.map wrD)] := by simp [h, volD]
def WBy (ws : List PWr) : Prop := ∀ e ∈ ws, ∀ x ∈ e.2, BytesL x.2
theorem WBy.snoc {ws : List PWr} {s : Int} {it : List PI} (h : WBy ws) (hi : ∀ e ∈ it, BytesL e.2) : WBy (ws ++ [(s, it)]) := fun e he => by
 rcases List.mem_append.1 he with h1 | h1
 · exact h e h1
 rw [List.mem_singleton.1 h1]; exact hi
theorem doR_by {bl sz to ne fl : Int} {hi : Bool} {pins : List Int} {ws : List PWr} {kd at0 ix : Int} {it : List PI} {ne' fl' e9 : Int} {hi' : Bool} {ws' : List PWr} (h : doR bl sz to ne fl hi pins ws kd at0 ix it = (ne', hi', fl', ws', e9)) (hw : WBy ws) (hb : ∀ e ∈ it, BytesL e.2) : WBy ws' := by
 unfold doR putR pruneR takeR publishR wrR at h
 repeat' split at h
 all_goals (simp only [Prod.mk.injEq] at h; obtain ⟨-, -, -, rfl, -⟩ := h; first | exact hw | exact hw.snoc hb)
def VolS (n : Nat) (x : VolV) : Prop := VolR x.vo x.bl x.sz x.pe x.to x.ne x.fl x.hi x.place x.pins x.ws ∧ (x.hi = true → x.pins = []) ∧ x.pins.length ≤ n ∧ x.ws.length ≤ n ∧ WBy x.ws
theorem VolS.up {n m : Nat} {x : VolV} (h : VolS n x) (hm : n ≤ m) : VolS m x := ⟨h.1, h.2.1, by have := h.2.2.1; omega, by have := h.2.2.2.1; omega, h.2.2.2.2⟩
def MacS (n : Nat) (L : List VolV) : Prop := L.length ≤ n ∧ ∀ x ∈ L, VolS n x
theorem MacS.set {n : Nat} {L : List VolV} {x : VolV} (h : MacS n L) (hx : VolS (n + 1) x) (k : Nat) : MacS (n + 1) (L.set k x) := ⟨by rw [List.length_set]; have := h.1; omega, fun y hy => by
 rcases List.mem_or_eq_of_mem_set hy with hy | rfl
 · exact (h.2 y hy).up (by omega)
 exact hx⟩
theorem MacS.ins {n : Nat} {L : List VolV} {x : VolV} (h : MacS n L) (hx : VolS (n + 1) x) (k : Nat) : MacS (n + 1) (L.take k ++ [x] ++ L.drop k) := ⟨by simp only [List.length_append, List.length_take, List.length_drop, List.length_singleton]; have := h.1; omega, fun y hy => by
 rcases List.mem_append.1 hy with hy | hy
 · rcases List.mem_append.1 hy with hy | hy
   · exact (h.2 y (List.mem_of_mem_take hy)).up (by omega)
   rw [List.mem_singleton.1 hy]; exact hx
 exact (h.2 y (List.mem_of_mem_drop hy)).up (by omega)⟩
theorem MacS.up {n m : Nat} {L : List VolV} (h : MacS n L) (hm : n ≤ m) : MacS m L := ⟨by have := h.1; omega, fun x hx => (h.2 x hx).up hm⟩
set_option maxRecDepth 100000
set_option maxHeartbeats 4000000
theorem rfind (X : Cx) (B : Nat) (L : List VolV) (p : Option Addr) (c : Nat) (vo : Int) (w0 : World) (hl : L.length ≤ 1000000) (m0 : MemOk X w0 [(1, .box B 32 [.slice p (L.map volD).length c]), (2, .dat (.slice p (L.map volD).length c) (.l 11 (L.map volD)))] w0) :
   Calls Tryz.prog 49 #[.pointer (some ⟨B, 0, none⟩), .int .i64 vo] w0 fun e w' => ∃ j : Int, e = .returned (.int .i64 j) ∧ -1 ≤ j ∧ j < L.length ∧ MemOk X w0 [(1, .box B 32 [.slice p (L.map volD).length c]), (2, .dat (.slice p (L.map volD).length c) (.l 11 (L.map volD)))] w' := by
 refine ent2 Tryz.func49 rfl Tryz.ntmps49 fun Az Hz => ?_
 refine regS Hz (.assign rfl .nil) fun Az Hz => ?_
 refine wsk fun K0 hK0 => ?_
 refine regS Hz (.assign rfl .nil) fun Az Hz => ?_
 refine wp_block ?_
 refine wp_loop_ghost (fun g a w => ∃ (k : Nat), k ≤ L.length ∧ g = L.length - k ∧ Has 26 [(0, .pointer (some ⟨B, 0, none⟩)), (1, .int .i64 vo), (5, .int .i64 k)] a ∧ MemOk X w0 [(1, .box B 32 [.slice p (L.map volD).length c]), (2, .dat (.slice p (L.map volD).length c) (.l 11 (L.map volD)))] w) (L.length) ?_ ?_
 · exact ⟨0, Nat.zero_le _, rfl, Hz.only [0, 1, 5], m0.only [1, 2]⟩
 clear Hz m0
 rintro g Az w3 ⟨k, hkl, hg, Hz, m3⟩
 refine wsk fun K1 hK1 => ?_
 refine regS Hz (.move rfl <| .move rfl <| .nilCheck rfl <| .fa 0 rfl U32 <| .lb m3 1 U30 rfl rfl rfl <| .len rfl U30 <| .lss rfl rfl .nil) fun Az Hz => ?_
 refine bc Hz 12 ?_ ?_
 ·
  intro hb11 Hz; try simp only [QQ, Qax] at hb11
  have hk : k < L.length := by have := hb11; simp at this; omega
  obtain ⟨x, hes⟩ : ∃ x, L[k]? = some x := ⟨_, List.getElem?_eq_getElem (by simpa using hk)⟩
  refine wct Hz ?_
  refine zss (hK1 _ _ ?_)
  refine wsk fun K2 hK2 => ?_
  refine wp_block ?_
  replace Hz := Hz.oz [0, 1, 5]
  refine zsr fun K3 hK3 => ?_
  refine goCh Hz (.move rfl <| .nilCheck rfl <| .fa 0 rfl U32 <| .lb m3 1 U30 rfl rfl rfl <| .move rfl .nil) fun Az Hz => ?_
  obtain ⟨b24, o24, vs24, hp24, hR24, ho24, m24⟩ := m3.openR (i := 2) rfl (k) (r := [.v (.int .i64 x.vo), .v (.int .i64 x.bl), .v (.int .i64 x.sz), .v (.int .i64 x.pe), .ns .i64 x.place, .v (.int .i64 x.to), .v (.int .i64 x.ne), .v (.bool x.hi), .v (.int .i64 x.fl), .ns .i64 x.pins, .l 2 (x.ws.map wrD)]) (volD_get hes) 100 rfl
  revert Hz
  cases hp24; clear m3 ho24
  rcases hR24 with _ | ⟨hd24_0, _ | ⟨hd24_1, _ | ⟨hd24_2, _ | ⟨hd24_3, _ | ⟨hd24_4, _ | ⟨hd24_5, _ | ⟨hd24_6, _ | ⟨hd24_7, _ | ⟨hd24_8, _ | ⟨hd24_9, _ | ⟨hd24_10, _ | _⟩⟩⟩⟩⟩⟩⟩⟩⟩⟩⟩
  obtain rfl := hd24_0.v_out
  clear hd24_0
  obtain rfl := hd24_1.v_out
  clear hd24_1
  obtain rfl := hd24_2.v_out
  clear hd24_2
  obtain rfl := hd24_3.v_out
  clear hd24_3
  obtain ⟨p25, c25, hv25, hc25⟩ := hd24_4.ns_shape; subst hv25
  intro Hz
  have m25 := m24.dat 101 rfl (hd24_4.cast (fun _ h => (free_add rfl h))); clear m24 hd24_4
  revert Hz
  obtain rfl := hd24_5.v_out
  clear hd24_5
  obtain rfl := hd24_6.v_out
  clear hd24_6
  obtain rfl := hd24_7.v_out
  clear hd24_7
  obtain rfl := hd24_8.v_out
  clear hd24_8
  obtain ⟨p26, c26, hv26, hc26⟩ := hd24_9.ns_shape; subst hv26
  intro Hz
  have m26 := m25.dat 102 rfl (hd24_9.cast (fun _ h => (free_add rfl (free_add rfl h)))); clear m25 hd24_9
  revert Hz
  obtain ⟨p27, c27, hv27, hc27⟩ := hd24_10.l_shape; subst hv27
  intro Hz
  have m27 := m26.dat 103 rfl (hd24_10.cast (fun _ h => (free_add rfl (free_add rfl (free_add rfl h))))); clear m26 hd24_10
  refine gz hK3 Hz (.c rfl (fun _ h_ => y_idx h_ rfl rfl U30 fct13 (k) rfl (by simpa using hk)) <| .fieldAddrQ 0 rfl U51 rfl (s := 0) (by kernel_rfl) rfl <| .loadC0 m27 (i := 100) rfl rfl U3 rfl <| .move rfl <| .eql rfl rfl <| .nil) fun Az Hz => ?_
  refine bc Hz 24 ?_ ?_
  ·
   intro hb33 Hz; try simp only [QQ, Qax] at hb33
   refine wct Hz ?_
   replace Hz := Hz.oz [0, 1, 5]
   refine regS Hz (.move rfl <| .assign rfl .nil) fun Az Hz => ?_
   refine rt1 Hz ?_
   first | exact ⟨k, rfl, by omega, by omega, m27.only [1, 2]⟩ | exact ⟨-1, rfl, by omega, by omega, m27.only [1, 2]⟩
  intro hb33 Hz; try simp only [QQ, Qax] at hb33
  refine wcf Hz ?_
  refine zss (hK2 _ _ ?_)
  replace Hz := Hz.oz [0, 1, 5]
  refine wp_region_lit ?_
  refine goCh Hz (.move rfl <| .inc (k + 1) <| .assign rfl .nil) fun Az Hz => ?_
  refine wpList_nil ?_
  show ∃ n', n' < _ ∧ _
  exact ⟨L.length - (k + 1), by omega, k + 1, by omega, rfl, Hz.only [0, 1, 5], m27.only [1, 2]⟩
 intro hb11 Hz; try simp only [QQ, Qax] at hb11
 refine wcf Hz ?_
 refine wp_exit ?_
 refine hK0 _ _ ?_
 replace Hz := Hz.oz [0, 1, 5]
 refine regS Hz (.assign rfl .nil) fun Az Hz => ?_
 refine rt1 Hz ?_
 first | exact ⟨k, rfl, by omega, by omega, m3.only [1, 2]⟩ | exact ⟨-1, rfl, by omega, by omega, m3.only [1, 2]⟩
theorem rDoAny (X : Cx) (x : VolV) (n : Nat) (hx : VolS n x) (hn : n ≤ 800000) (items : List (Int × List Int)) (pp pn pw : Option Addr) (cp cn9 cw : Nat) (pi : Option Addr) (ci : Nat) (kd v1 v2 v3 v4 v5 at0 ix : Int) (q1 : Option Addr) (n1 c1 : Nat) (w0 : World) (hil : items.length ≤ 1000000) (hio : ItsOk items) (hiy : ∀ e ∈ items, BytesL e.2) (m0 : MemOk X w0 [(1, .dat (.slice pp x.place.length cp) (.ns .i64 x.place)), (2, .dat (.slice pn x.pins.length cn9) (.ns .i64 x.pins)), (3, .dat (.slice pw (x.ws.map wrD).length cw) (.l 2 (x.ws.map wrD))), (4, .dat (.slice pi (items.map itD).length ci) (.l 2 (items.map itD)))] w0) :
   Calls Tryz.prog 40 #[.agg #[.int .i64 x.vo, .int .i64 x.bl, .int .i64 x.sz, .int .i64 x.pe, .slice pp x.place.length cp, .int .i64 x.to, .int .i64 x.ne, .bool x.hi, .int .i64 x.fl, .slice pn x.pins.length cn9, .slice pw (x.ws.map wrD).length cw], .agg #[.int .i64 kd, .int .i64 v1, .int .i64 v2, .int .i64 v3, .int .i64 v4, .slice q1 n1 c1, .int .i64 v5, .int .i64 at0, .int .i64 ix, .slice pi (items.map itD).length ci]] w0 fun e w' => ∃ (y : VolV) (e9 rl rf rn : Int) (p1 p2 p3 : Option Addr) (d1 d2 d3 : Nat), e = .returned (.tuple #[.agg #[.int .i64 y.vo, .int .i64 y.bl, .int .i64 y.sz, .int .i64 y.pe, .slice p1 y.place.length d1, .int .i64 y.to, .int .i64 y.ne, .bool y.hi, .int .i64 y.fl, .slice p2 y.pins.length d2, .slice p3 (y.ws.map wrD).length d3], .agg #[.int .i64 e9, .int .i64 rl, .int .i64 rf, .int .i64 rn, .slice none 0 0]]) ∧ y.vo = x.vo ∧ VolS (n + 1) y ∧ MemOk X w0 [(1, .dat (.slice p1 y.place.length d1) (.ns .i64 y.place)), (2, .dat (.slice p2 y.pins.length d2) (.ns .i64 y.pins)), (3, .dat (.slice p3 (y.ws.map wrD).length d3) (.l 2 (y.ws.map wrD)))] w' := by
 obtain ⟨h1, h2, h3, h4, h5⟩ := hx
 obtain ⟨vo, bl, sz, pe, place, to, ne, hi, fl, pins, ws⟩ := x
 simp only at *
 have hI : (items.map itD).length = items.length := List.length_map ..
 rw [hI] at m0 ⊢
 have hne : -1000000000000000 ≤ ne ∧ ne ≤ 1000000000000000 := by
   obtain ⟨⟨a1, a2, a3, a4, a5, a6, a7, a8, a9, a10, a11⟩, b1, b2, b3⟩ := h1
   omega
 by_cases k4 : kd = 4
 · subst k4
   refine (rDo4 X vo bl sz pe to ne fl hi place pins ws pp pn pw cp cn9 cw v1 v2 v3 v4 v5 at0 ix q1 n1 c1 pi items.length ci w0 (by omega) h1.sorted (m0.only [1, 2, 3])).mono ?_
   rintro e w' ⟨pins', e9, rl, rf, rn, p2, d2, rfl, hd, hr, m⟩
   obtain ⟨g1, g2, g3⟩ := h1.pin h2 hd
   exact ⟨⟨vo, bl, sz, pe, place, to, ne, hi, fl, pins', ws⟩, e9, rl, rf, rn, _, _, _, _, _, _, rfl, rfl, ⟨g1, g2, by simp only; omega, by simp only; omega, h5⟩, m.ren [(1, 1), (2, 6), (3, 3)] (by decide)⟩
 by_cases k5 : kd = 5
 · subst k5
   refine (rDo5 X vo bl sz pe to ne fl hi place pins ws pp pn pw cp cn9 cw v1 v2 v3 v4 v5 at0 ix q1 n1 c1 pi items.length ci w0 (by omega) (m0.only [1, 2, 3])).mono ?_
   rintro e w' ⟨pins', e9, rl, rf, rn, p2, d2, rfl, hd, hr, m⟩
   obtain ⟨g1, g2, g3⟩ := h1.unpin h2 hd
   exact ⟨⟨vo, bl, sz, pe, place, to, ne, hi, fl, pins', ws⟩, e9, rl, rf, rn, _, _, _, _, _, _, rfl, rfl, ⟨g1, g2, by simp only; omega, by simp only; omega, h5⟩, m.ren [(1, 1), (2, 6), (3, 3)] (by decide)⟩
 refine (rDo X vo bl sz pe to ne fl hi place pins ws items pp pn pw cp cn9 cw pi ci kd v1 v2 v3 v4 v5 at0 ix q1 n1 c1 w0 k4 k5 hne (by omega) (by omega) hil hio m0).mono ?_
 rintro e w' ⟨ne', hi', fl', ws', e9, rl, rf, rn, p3, d3, rfl, hd, hr, m⟩
 obtain ⟨g1, g2, g3⟩ := h1.do h2 hd
 exact ⟨⟨vo, bl, sz, pe, place, to, ne', hi', fl', pins, ws'⟩, e9, rl, rf, rn, _, _, _, _, _, _, rfl, rfl, ⟨g1, g2, by simp only; omega, by simp only; omega, doR_by hd h5 hiy⟩, m.ren [(1, 1), (2, 2), (3, 7)] (by decide)⟩
end
end Go.Proofs.YtkehgingagggaaaGreat.K
