/- General laws of walks: Vol17, Vol18, Ab22, Vol32, Vol25, Vol26, Vol31, Ab23, Vol33, Vol34, Vol13, Vol20, VolSm. -/
import Derived.Test.YteglmahnkfgelaaG3
import Derived.Test.YteglmahnkfgelaaG2
section
namespace Go.Proofs.Yteglmahnkfgelaa.K
open Go.ChangeShapes Go.WideShapes Go.ChangeAt Go.RowKit
set_option linter.unusedVariables false
set_option linter.unusedSimpArgs false
theorem fl76rD0 : flatS Try.prog 76 [.int .i64 0, .int .i64 0, .int .i64 0, .int .i64 0, .slice none 0 0] = true := by kernel_rfl
theorem fl76rD4 : flatS Try.prog 76 [.int .i64 0, .int .i64 0, .int .i64 0, .int .i64 0, .slice none 0 0] = true := by kernel_rfl
theorem fl76rD5 : flatS Try.prog 76 [.int .i64 0, .int .i64 0, .int .i64 0, .int .i64 0, .slice none 0 0] = true := by kernel_rfl
theorem fl73cm : flatS Try.prog 73 [.int .i64 0, .int .i64 0, .int .i64 0, .int .i64 0, .int .i64 0, .slice none 0 0, .int .i64 0, .int .i64 0, .int .i64 0, .slice none 0 0] = true := by kernel_rfl
theorem doR_err {bl sz to ne fl : Int} {hi : Bool} {pins : List Int} {ws : List (Int × List (Int × List Int))} {kd at0 ix : Int} {it : List (Int × List Int)} {ne' fl' e9 : Int} {hi' : Bool} {ws' : List (Int × List (Int × List Int))} (h : doR bl sz to ne fl hi pins ws kd at0 ix it = (ne', hi', fl', ws', e9)) (he : ¬ e9 = 0) : ne' = ne ∧ hi' = hi ∧ fl' = fl ∧ ws' = ws := by
 unfold doR putR pruneR takeR publishR wrR at h
 repeat' split at h
 all_goals (simp only [Prod.mk.injEq] at h; obtain ⟨rfl, rfl, rfl, rfl, rfl⟩ := h; first | exact ⟨rfl, rfl, rfl, rfl⟩ | exact absurd rfl he | (exfalso; revert he; simp; done) | simp_all)
theorem pinR_err {fl at0 n : Int} {hi : Bool} {pins pins' : List Int} {e9 : Int} (h : pinR hi fl at0 n pins = (pins', e9)) (he : ¬ e9 = 0) : pins' = pins := by
 unfold pinR at h
 split at h
 all_goals (simp only [Prod.mk.injEq] at h; obtain ⟨rfl, rfl⟩ := h; first | rfl | exact absurd rfl he)
theorem unpinR_err {at0 : Int} {hi : Bool} {pins pins' : List Int} {e9 : Int} (h : unpinR hi at0 pins = (pins', e9)) (he : ¬ e9 = 0) : pins' = pins := by
 unfold unpinR at h
 split at h
 all_goals (simp only [Prod.mk.injEq] at h; obtain ⟨rfl, rfl⟩ := h; first | rfl | exact absurd rfl he)
theorem b2 {a b : Int} (ha : 0 ≤ a ∧ a ≤ 255) (hb : 0 ≤ b ∧ b ≤ 255) : ∀ j, j < [a, b].length → 0 ≤ [a, b].getD j 0 ∧ [a, b].getD j 0 ≤ 255 := fun j hj => by
 match j, hj with
 | 0, _ => exact ha
 | 1, _ => exact hb
theorem b3 {a b c : Int} (ha : 0 ≤ a ∧ a ≤ 255) (hb : 0 ≤ b ∧ b ≤ 255) (hc : 0 ≤ c ∧ c ≤ 255) : ∀ j, j < [a, b, c].length → 0 ≤ [a, b, c].getD j 0 ∧ [a, b, c].getD j 0 ≤ 255 := fun j hj => by
 match j, hj with
 | 0, _ => exact ha
 | 1, _ => exact hb
 | 2, _ => exact hc
def SmallI (l : List (Int × List Int)) : Prop := l.length ≤ 12 ∧ ∀ e ∈ l, e.2.length ≤ 40
theorem SmallI.ok {l : List (Int × List Int)} (h : SmallI l) : ItsOk l := fun e he => Nat.le_trans (h.2 e he) (by decide)
set_option maxRecDepth 100000
set_option maxHeartbeats 4000000
theorem rDo (X : Cx) (vo bl sz pe to ne fl : Int) (hi : Bool) (place pins : List Int) (ws : List (Int × List (Int × List Int))) (items : List (Int × List Int)) (pp pn pw : Option Addr) (cp cn9 cw : Nat) (pi : Option Addr) (ci : Nat) (kd v1 v2 v3 v4 v5 at0 ix : Int) (q1 : Option Addr) (n1 c1 : Nat) (w0 : World) (hk4 : kd ≠ 4) (hk5 : kd ≠ 5) (hne : -1000000000000000 ≤ ne ∧ ne ≤ 1000000000000000) (hl : ws.length ≤ 900000) (hp : pins.length ≤ 1000000) (hil : items.length ≤ 1000000) (hio : ItsOk items) (m0 : MemOk X w0 [(1, .dat (.slice pp place.length cp) (.ns .i64 place)), (2, .dat (.slice pn pins.length cn9) (.ns .i64 pins)), (3, .dat (.slice pw (ws.map wrD).length cw) (.l 2 (ws.map wrD))), (4, .dat (.slice pi items.length ci) (.l 2 (items.map itD)))] w0) :
   Calls Try.prog 62 #[.agg #[.int .i64 vo, .int .i64 bl, .int .i64 sz, .int .i64 pe, .slice pp place.length cp, .int .i64 to, .int .i64 ne, .bool hi, .int .i64 fl, .slice pn pins.length cn9, .slice pw (ws.map wrD).length cw], .agg #[.int .i64 kd, .int .i64 v1, .int .i64 v2, .int .i64 v3, .int .i64 v4, .slice q1 n1 c1, .int .i64 v5, .int .i64 at0, .int .i64 ix, .slice pi items.length ci]] w0 fun e w' => ∃ (ne' : Int) (hi' : Bool) (fl' : Int) (ws' : List (Int × List (Int × List Int))) (e9 rl rf rn : Int) (p3' : Option Addr) (d3' : Nat), e = .returned (.tuple #[.agg #[.int .i64 vo, .int .i64 bl, .int .i64 sz, .int .i64 pe, .slice pp place.length cp, .int .i64 to, .int .i64 ne', .bool hi', .int .i64 fl', .slice pn pins.length cn9, .slice p3' (ws'.map wrD).length d3'], .agg #[.int .i64 e9, .int .i64 rl, .int .i64 rf, .int .i64 rn, .slice none 0 0]]) ∧ doR bl sz to ne fl hi pins ws kd at0 ix items = (ne', hi', fl', ws', e9) ∧ ((e9 ≠ 0 ∧ rl = 0 ∧ rf = 0 ∧ rn = 0) ∨ (e9 = 0 ∧ rl = ws'.length ∧ rf = fl' ∧ rn = ne')) ∧ MemOk X w0 [(1, .dat (.slice pp place.length cp) (.ns .i64 place)), (2, .dat (.slice pn pins.length cn9) (.ns .i64 pins)), (3, .dat (.slice pw (ws.map wrD).length cw) (.l 2 (ws.map wrD))), (4, .dat (.slice pi items.length ci) (.l 2 (items.map itD))), (7, .dat (.slice p3' (ws'.map wrD).length d3') (.l 2 (ws'.map wrD)))] w' := by
 refine ent2 Try.func62 rfl Try.ntmps62 fun Az Hz => ?_
 refine zsr fun K0 hK0 => ?_
 refine plz (e_box Hz m0 20 (cs := [_, _, _, _, _, _, _, _, _, _, _]) rfl rfl rfl fun g1 Az w2 Hz m2 _ _ => ?_)
 refine plz (e_box Hz m2 21 (cs := [_, _, _, _, _, _, _, _, _, _]) rfl rfl rfl fun g3 Az w4 Hz m4 _ _ => ?_)
 refine plz (e_alloc Hz m4 22 fct20 rfl fun g5 Az w6 Hz m6 _ _ => ?_)
 refine plz (e_alloc Hz m6 23 fct21 rfl fun g7 Az w8 Hz m8 _ _ => ?_)
 refine znl (hK0 _ _ ?_)
 refine zsr fun K1 hK1 => ?_
 refine goCh Hz (.loadBR m8 (i := 20) rfl rfl U28 rfl fct17 (by simp) (by dsimp only [List.drop, List.take] <;> rfl) <| .loadBR m8 (i := 21) rfl rfl U73 rfl fct18 (by simp) (by dsimp only [List.drop, List.take] <;> rfl) .nil) fun Az Hz => ?_
 refine plz (ecl Hz Try.func85 rfl (rdone _ _ _ _ _ _ _ _ _ place pins ws items _ _ _ _ _ _ _ _ kd _ _ _ _ _ _ _ _ _ _ _ hk4 hk5 hne hl hp hil hio (m8.into [(1, 1), (2, 2), (3, 3), (4, 4)] (by decide) rfl)) ?_)
 rintro e w13 ⟨ne1, hi1, fl1, ws1, e1, p13, c13, rfl, hR, hm13⟩
 have mx13 := m8.back hm13 [(1, 1), (2, 2), (3, 3), (4, 4), (24, 7)] (by decide); clear hm13 m8
 have m13 := mx13.oz [1, 2, 3, 4, 24, 20, 21, 22, 23]
 refine ⟨_, rfl, ?_⟩; intro Az Hz
 refine goCh Hz (.move rfl <| .extract rfl rfl <| .extract rfl rfl .nil) fun Az Hz => ?_
 refine plz (e_alloc Hz m13 25 fct20 rfl fun g18 Az w19 Hz m19 _ _ => ?_)
 refine plz (stw Hz m19 25 fct17 fun w20 m20 _ => ?_)
 refine gz hK1 Hz (.assign rfl .nil) fun Az Hz => ?_
 refine wsk fun K2 hK2 => ?_
 replace Hz := Hz.oz [2, 4, 5, 6, 7]
 refine regS Hz (.move rfl <| .neq rfl rfl .nil) fun Az Hz => ?_
 refine bc Hz 15 ?_ ?_
 ·
  intro hb25 Hz; try simp only [QQ, Qax] at hb25
  refine wct Hz ?_
  refine zsr fun K3 hK3 => ?_
  refine goCh Hz (.loadBR m20 (i := 20) rfl rfl U28 rfl fct17 (by simp) (by dsimp only [List.drop, List.take] <;> rfl) <| .move rfl <| .build rfl fct21 fl76rD0 rfl (by dsimp only [setL, List.set] <;> rfl) .nil) fun Az Hz => ?_
  refine plz (stw Hz m20 22 fct17 fun w32 m32 _ => ?_)
  refine plz (stw Hz m32 23 fct19 fun w33 m33 _ => ?_)
  refine znl (hK3 _ _ ?_)
  refine rtd (retCC (fn := Try.f62) Hz m33 (i := 22) (i2 := 23) rfl rfl rfl rfl rfl U28 rfl fct17 U76 rfl fct19 ?_)
  revert Hz
  obtain ⟨rfl, rfl, rfl, rfl⟩ := doR_err hR (by assumption)
  intro Hz
  have m34 := m33.dat 26 rfl (m33.rd (i := 3) rfl)
  exact ⟨ne1, hi1, fl1, ws1, e1, 0, 0, 0, _, _, rfl, hR, .inl ⟨by assumption, rfl, rfl, rfl⟩, m34.ren [(1, 1), (2, 2), (3, 3), (4, 4), (7, 26)] (by decide)⟩
 intro hb25 Hz; try simp only [QQ, Qax] at hb25
 refine wcf Hz ?_
 refine zss (hK2 _ _ ?_)
 refine wsk fun K4 hK4 => ?_
 have m35 := m20.oz [1, 2, 3, 4, 20, 21, 22, 23, 24, 25]
 refine region_p 10 (B := [(25, _)]) (m35.to ⟨il, trivial⟩) m35 (by kernel_rfl) (fun w36 hP36 m36 => ?_); clear m35
 refine goR hP36 [0, 1, 3, 4, 5, 6] [0, 1, 4, 6] 6 0 123 Hz (m36.to ⟨il, trivial⟩) (.loadBR hh (i := 25) rfl rfl U28 rfl fct17 (by simp) (by dsimp only [List.drop, List.take] <;> rfl) <| .loadBR hh (i := 25) rfl rfl U28 rfl fct17 (by simp) (by dsimp only [List.drop, List.take] <;> rfl) <| .fa 8 rfl U28 <| .lb hh 25 U2 rfl rfl rfl <| .fa 6 rfl U28 <| .lb hh 25 U3 rfl rfl rfl .nil) fun Az Hz => ?_
 refine so 2 ?_
 refine ecb Hz Try.func9 rfl m36 (rlen_any _ _ _ _ _ _ _ _ _ _ _ _ _ _ _ _ _ _) fun Az w43 Hz m44 => ?_
 refine ⟨m44.to ⟨il, trivial⟩, ?_⟩
 refine goA hP36 [7] 1 127 255 Hz (m44.to ⟨il, trivial⟩) (.build rfl fct21 fl76rD0 rfl (by dsimp only [setL, List.set] <;> rfl) .nil) fun Az Hz => ?_
 refine so 8 ?_
 refine stw Hz m44 22 fct17 fun w47 m47 _ => ?_
 refine ⟨m47.to ⟨il, trivial⟩, ?_⟩
 refine so 9 ?_
 refine stw Hz m47 23 fct19 fun w48 m48 _ => ?_
 refine ⟨m48.to ⟨il, trivial⟩, ?_⟩
 refine wpAnyE_done (by kernel_rfl) ?_ _
 refine hK4 _ _ ?_
 refine rtd (retCC (fn := Try.f62) Hz m48 (i := 22) (i2 := 23) rfl rfl rfl rfl rfl U28 rfl fct17 U76 rfl fct19 ?_)
 revert Hz
 obtain rfl : e1 = 0 := by first | assumption | omega
 intro Hz
 exact ⟨ne1, hi1, fl1, ws1, 0, ws1.length, fl1, ne1, _, _, by rw [List.length_map], hR, .inr ⟨rfl, rfl, rfl, rfl⟩, m48.ren [(1, 1), (2, 2), (3, 3), (4, 4), (7, 24)] (by decide)⟩
theorem rDo4 (X : Cx) (vo bl sz pe to ne fl : Int) (hi : Bool) (place pins : List Int) (ws : List (Int × List (Int × List Int))) (pp pn pw : Option Addr) (cp cn9 cw : Nat) (v1 v2 v3 v4 v5 at0 v6 : Int) (q1 : Option Addr) (n1 c1 : Nat) (q2 : Option Addr) (n2 c2 : Nat) (w0 : World) (hp : pins.length ≤ 900000) (hsp : pins.Pairwise (· ≤ ·)) (m0 : MemOk X w0 [(1, .dat (.slice pp place.length cp) (.ns .i64 place)), (2, .dat (.slice pn pins.length cn9) (.ns .i64 pins)), (3, .dat (.slice pw (ws.map wrD).length cw) (.l 2 (ws.map wrD)))] w0) :
   Calls Try.prog 62 #[.agg #[.int .i64 vo, .int .i64 bl, .int .i64 sz, .int .i64 pe, .slice pp place.length cp, .int .i64 to, .int .i64 ne, .bool hi, .int .i64 fl, .slice pn pins.length cn9, .slice pw (ws.map wrD).length cw], .agg #[.int .i64 4, .int .i64 v1, .int .i64 v2, .int .i64 v3, .int .i64 v4, .slice q1 n1 c1, .int .i64 v5, .int .i64 at0, .int .i64 v6, .slice q2 n2 c2]] w0 fun e w' => ∃ (pins' : List Int) (e9 rl rf rn : Int) (p2' : Option Addr) (d2' : Nat), e = .returned (.tuple #[.agg #[.int .i64 vo, .int .i64 bl, .int .i64 sz, .int .i64 pe, .slice pp place.length cp, .int .i64 to, .int .i64 ne, .bool hi, .int .i64 fl, .slice p2' pins'.length d2', .slice pw (ws.map wrD).length cw], .agg #[.int .i64 e9, .int .i64 rl, .int .i64 rf, .int .i64 rn, .slice none 0 0]]) ∧ pinR hi fl at0 ws.length pins = (pins', e9) ∧ ((e9 ≠ 0 ∧ rl = 0 ∧ rf = 0 ∧ rn = 0) ∨ (e9 = 0 ∧ rl = ws.length ∧ rf = fl ∧ rn = ne)) ∧ MemOk X w0 [(1, .dat (.slice pp place.length cp) (.ns .i64 place)), (2, .dat (.slice pn pins.length cn9) (.ns .i64 pins)), (3, .dat (.slice pw (ws.map wrD).length cw) (.l 2 (ws.map wrD))), (6, .dat (.slice p2' pins'.length d2') (.ns .i64 pins'))] w' := by
 refine ent2 Try.func62 rfl Try.ntmps62 fun Az Hz => ?_
 refine zsr fun K0 hK0 => ?_
 refine plz (e_box Hz m0 20 (cs := [_, _, _, _, _, _, _, _, _, _, _]) rfl rfl rfl fun g1 Az w2 Hz m2 _ _ => ?_)
 refine plz (e_box Hz m2 21 (cs := [_, _, _, _, _, _, _, _, _, _]) rfl rfl rfl fun g3 Az w4 Hz m4 _ _ => ?_)
 refine plz (e_alloc Hz m4 22 fct20 rfl fun g5 Az w6 Hz m6 _ _ => ?_)
 refine plz (e_alloc Hz m6 23 fct21 rfl fun g7 Az w8 Hz m8 _ _ => ?_)
 refine znl (hK0 _ _ ?_)
 refine zsr fun K1 hK1 => ?_
 refine goCh Hz (.loadBR m8 (i := 20) rfl rfl U28 rfl fct17 (by simp) (by dsimp only [List.drop, List.take] <;> rfl) <| .loadBR m8 (i := 21) rfl rfl U73 rfl fct18 (by simp) (by dsimp only [List.drop, List.take] <;> rfl) .nil) fun Az Hz => ?_
 refine plz (ecl Hz Try.func85 rfl (rdone4 _ _ _ _ _ _ _ _ _ place pins ws _ _ _ _ _ _ _ _ _ _ _ _ _ _ _ _ _ _ _ _ hp hsp (m8.into [(1, 1), (2, 2), (3, 3)] (by decide) rfl)) ?_)
 rintro e w13 ⟨pins1, e1, p13, c13, rfl, hR, hm13⟩
 have mx13 := m8.back hm13 [(1, 1), (2, 2), (3, 3), (24, 6)] (by decide); clear hm13 m8
 have m13 := mx13.oz [1, 2, 3, 24, 20, 21, 22, 23]
 refine ⟨_, rfl, ?_⟩; intro Az Hz
 refine goCh Hz (.move rfl <| .extract rfl rfl <| .extract rfl rfl .nil) fun Az Hz => ?_
 refine plz (e_alloc Hz m13 25 fct20 rfl fun g18 Az w19 Hz m19 _ _ => ?_)
 refine plz (stw Hz m19 25 fct17 fun w20 m20 _ => ?_)
 refine gz hK1 Hz (.assign rfl .nil) fun Az Hz => ?_
 refine wsk fun K2 hK2 => ?_
 replace Hz := Hz.oz [2, 4, 5, 6, 7]
 refine regS Hz (.move rfl <| .neq rfl rfl .nil) fun Az Hz => ?_
 refine bc Hz 15 ?_ ?_
 ·
  intro hb25 Hz; try simp only [QQ, Qax] at hb25
  refine wct Hz ?_
  refine zsr fun K3 hK3 => ?_
  refine goCh Hz (.loadBR m20 (i := 20) rfl rfl U28 rfl fct17 (by simp) (by dsimp only [List.drop, List.take] <;> rfl) <| .move rfl <| .build rfl fct21 fl76rD4 rfl (by dsimp only [setL, List.set] <;> rfl) .nil) fun Az Hz => ?_
  refine plz (stw Hz m20 22 fct17 fun w32 m32 _ => ?_)
  refine plz (stw Hz m32 23 fct19 fun w33 m33 _ => ?_)
  refine znl (hK3 _ _ ?_)
  refine rtd (retCC (fn := Try.f62) Hz m33 (i := 22) (i2 := 23) rfl rfl rfl rfl rfl U28 rfl fct17 U76 rfl fct19 ?_)
  revert Hz
  obtain rfl := pinR_err hR (by assumption)
  intro Hz
  have m34 := m33.dat 26 rfl (m33.rd (i := 2) rfl)
  exact ⟨pins1, e1, 0, 0, 0, _, _, rfl, hR, .inl ⟨by assumption, rfl, rfl, rfl⟩, m34.ren [(1, 1), (2, 2), (3, 3), (6, 26)] (by decide)⟩
 intro hb25 Hz; try simp only [QQ, Qax] at hb25
 refine wcf Hz ?_
 refine zss (hK2 _ _ ?_)
 refine wsk fun K4 hK4 => ?_
 have m35 := m20.oz [1, 2, 3, 20, 21, 22, 23, 24, 25]
 refine region_p 10 (B := [(25, _)]) (m35.to ⟨il, trivial⟩) m35 (by kernel_rfl) (fun w36 hP36 m36 => ?_); clear m35
 refine goR hP36 [0, 1, 3, 4, 5, 6] [0, 1, 4, 6] 6 0 123 Hz (m36.to ⟨il, trivial⟩) (.loadBR hh (i := 25) rfl rfl U28 rfl fct17 (by simp) (by dsimp only [List.drop, List.take] <;> rfl) <| .loadBR hh (i := 25) rfl rfl U28 rfl fct17 (by simp) (by dsimp only [List.drop, List.take] <;> rfl) <| .fa 8 rfl U28 <| .lb hh 25 U2 rfl rfl rfl <| .fa 6 rfl U28 <| .lb hh 25 U3 rfl rfl rfl .nil) fun Az Hz => ?_
 refine so 2 ?_
 refine ecb Hz Try.func9 rfl m36 (rlen_any _ _ _ _ _ _ _ _ _ _ _ _ _ _ _ _ _ _) fun Az w43 Hz m44 => ?_
 refine ⟨m44.to ⟨il, trivial⟩, ?_⟩
 refine goA hP36 [7] 1 127 255 Hz (m44.to ⟨il, trivial⟩) (.build rfl fct21 fl76rD4 rfl (by dsimp only [setL, List.set] <;> rfl) .nil) fun Az Hz => ?_
 refine so 8 ?_
 refine stw Hz m44 22 fct17 fun w47 m47 _ => ?_
 refine ⟨m47.to ⟨il, trivial⟩, ?_⟩
 refine so 9 ?_
 refine stw Hz m47 23 fct19 fun w48 m48 _ => ?_
 refine ⟨m48.to ⟨il, trivial⟩, ?_⟩
 refine wpAnyE_done (by kernel_rfl) ?_ _
 refine hK4 _ _ ?_
 refine rtd (retCC (fn := Try.f62) Hz m48 (i := 22) (i2 := 23) rfl rfl rfl rfl rfl U28 rfl fct17 U76 rfl fct19 ?_)
 revert Hz
 obtain rfl : e1 = 0 := by first | assumption | omega
 intro Hz
 exact ⟨pins1, 0, ws.length, fl, ne, _, _, by rw [List.length_map], hR, .inr ⟨rfl, rfl, rfl, rfl⟩, m48.ren [(1, 1), (2, 2), (3, 3), (6, 24)] (by decide)⟩
theorem rDo5 (X : Cx) (vo bl sz pe to ne fl : Int) (hi : Bool) (place pins : List Int) (ws : List (Int × List (Int × List Int))) (pp pn pw : Option Addr) (cp cn9 cw : Nat) (v1 v2 v3 v4 v5 at0 v6 : Int) (q1 : Option Addr) (n1 c1 : Nat) (q2 : Option Addr) (n2 c2 : Nat) (w0 : World) (hp : pins.length ≤ 900000) (m0 : MemOk X w0 [(1, .dat (.slice pp place.length cp) (.ns .i64 place)), (2, .dat (.slice pn pins.length cn9) (.ns .i64 pins)), (3, .dat (.slice pw (ws.map wrD).length cw) (.l 2 (ws.map wrD)))] w0) :
   Calls Try.prog 62 #[.agg #[.int .i64 vo, .int .i64 bl, .int .i64 sz, .int .i64 pe, .slice pp place.length cp, .int .i64 to, .int .i64 ne, .bool hi, .int .i64 fl, .slice pn pins.length cn9, .slice pw (ws.map wrD).length cw], .agg #[.int .i64 5, .int .i64 v1, .int .i64 v2, .int .i64 v3, .int .i64 v4, .slice q1 n1 c1, .int .i64 v5, .int .i64 at0, .int .i64 v6, .slice q2 n2 c2]] w0 fun e w' => ∃ (pins' : List Int) (e9 rl rf rn : Int) (p2' : Option Addr) (d2' : Nat), e = .returned (.tuple #[.agg #[.int .i64 vo, .int .i64 bl, .int .i64 sz, .int .i64 pe, .slice pp place.length cp, .int .i64 to, .int .i64 ne, .bool hi, .int .i64 fl, .slice p2' pins'.length d2', .slice pw (ws.map wrD).length cw], .agg #[.int .i64 e9, .int .i64 rl, .int .i64 rf, .int .i64 rn, .slice none 0 0]]) ∧ unpinR hi at0 pins = (pins', e9) ∧ ((e9 ≠ 0 ∧ rl = 0 ∧ rf = 0 ∧ rn = 0) ∨ (e9 = 0 ∧ rl = ws.length ∧ rf = fl ∧ rn = ne)) ∧ MemOk X w0 [(1, .dat (.slice pp place.length cp) (.ns .i64 place)), (2, .dat (.slice pn pins.length cn9) (.ns .i64 pins)), (3, .dat (.slice pw (ws.map wrD).length cw) (.l 2 (ws.map wrD))), (6, .dat (.slice p2' pins'.length d2') (.ns .i64 pins'))] w' := by
 refine ent2 Try.func62 rfl Try.ntmps62 fun Az Hz => ?_
 refine zsr fun K0 hK0 => ?_
 refine plz (e_box Hz m0 20 (cs := [_, _, _, _, _, _, _, _, _, _, _]) rfl rfl rfl fun g1 Az w2 Hz m2 _ _ => ?_)
 refine plz (e_box Hz m2 21 (cs := [_, _, _, _, _, _, _, _, _, _]) rfl rfl rfl fun g3 Az w4 Hz m4 _ _ => ?_)
 refine plz (e_alloc Hz m4 22 fct20 rfl fun g5 Az w6 Hz m6 _ _ => ?_)
 refine plz (e_alloc Hz m6 23 fct21 rfl fun g7 Az w8 Hz m8 _ _ => ?_)
 refine znl (hK0 _ _ ?_)
 refine zsr fun K1 hK1 => ?_
 refine goCh Hz (.loadBR m8 (i := 20) rfl rfl U28 rfl fct17 (by simp) (by dsimp only [List.drop, List.take] <;> rfl) <| .loadBR m8 (i := 21) rfl rfl U73 rfl fct18 (by simp) (by dsimp only [List.drop, List.take] <;> rfl) .nil) fun Az Hz => ?_
 refine plz (ecl Hz Try.func85 rfl (rdone5 _ _ _ _ _ _ _ _ _ place pins ws _ _ _ _ _ _ _ _ _ _ _ _ _ _ _ _ _ _ _ _ hp (m8.into [(1, 1), (2, 2), (3, 3)] (by decide) rfl)) ?_)
 rintro e w13 ⟨pins1, e1, p13, c13, rfl, hR, hm13⟩
 have mx13 := m8.back hm13 [(1, 1), (2, 2), (3, 3), (24, 6)] (by decide); clear hm13 m8
 have m13 := mx13.oz [1, 2, 3, 24, 20, 21, 22, 23]
 refine ⟨_, rfl, ?_⟩; intro Az Hz
 refine goCh Hz (.move rfl <| .extract rfl rfl <| .extract rfl rfl .nil) fun Az Hz => ?_
 refine plz (e_alloc Hz m13 25 fct20 rfl fun g18 Az w19 Hz m19 _ _ => ?_)
 refine plz (stw Hz m19 25 fct17 fun w20 m20 _ => ?_)
 refine gz hK1 Hz (.assign rfl .nil) fun Az Hz => ?_
 refine wsk fun K2 hK2 => ?_
 replace Hz := Hz.oz [2, 4, 5, 6, 7]
 refine regS Hz (.move rfl <| .neq rfl rfl .nil) fun Az Hz => ?_
 refine bc Hz 15 ?_ ?_
 ·
  intro hb25 Hz; try simp only [QQ, Qax] at hb25
  refine wct Hz ?_
  refine zsr fun K3 hK3 => ?_
  refine goCh Hz (.loadBR m20 (i := 20) rfl rfl U28 rfl fct17 (by simp) (by dsimp only [List.drop, List.take] <;> rfl) <| .move rfl <| .build rfl fct21 fl76rD5 rfl (by dsimp only [setL, List.set] <;> rfl) .nil) fun Az Hz => ?_
  refine plz (stw Hz m20 22 fct17 fun w32 m32 _ => ?_)
  refine plz (stw Hz m32 23 fct19 fun w33 m33 _ => ?_)
  refine znl (hK3 _ _ ?_)
  refine rtd (retCC (fn := Try.f62) Hz m33 (i := 22) (i2 := 23) rfl rfl rfl rfl rfl U28 rfl fct17 U76 rfl fct19 ?_)
  revert Hz
  obtain rfl := unpinR_err hR (by assumption)
  intro Hz
  have m34 := m33.dat 26 rfl (m33.rd (i := 2) rfl)
  exact ⟨pins1, e1, 0, 0, 0, _, _, rfl, hR, .inl ⟨by assumption, rfl, rfl, rfl⟩, m34.ren [(1, 1), (2, 2), (3, 3), (6, 26)] (by decide)⟩
 intro hb25 Hz; try simp only [QQ, Qax] at hb25
 refine wcf Hz ?_
 refine zss (hK2 _ _ ?_)
 refine wsk fun K4 hK4 => ?_
 have m35 := m20.oz [1, 2, 3, 20, 21, 22, 23, 24, 25]
 refine region_p 10 (B := [(25, _)]) (m35.to ⟨il, trivial⟩) m35 (by kernel_rfl) (fun w36 hP36 m36 => ?_); clear m35
 refine goR hP36 [0, 1, 3, 4, 5, 6] [0, 1, 4, 6] 6 0 123 Hz (m36.to ⟨il, trivial⟩) (.loadBR hh (i := 25) rfl rfl U28 rfl fct17 (by simp) (by dsimp only [List.drop, List.take] <;> rfl) <| .loadBR hh (i := 25) rfl rfl U28 rfl fct17 (by simp) (by dsimp only [List.drop, List.take] <;> rfl) <| .fa 8 rfl U28 <| .lb hh 25 U2 rfl rfl rfl <| .fa 6 rfl U28 <| .lb hh 25 U3 rfl rfl rfl .nil) fun Az Hz => ?_
 refine so 2 ?_
 refine ecb Hz Try.func9 rfl m36 (rlen_any _ _ _ _ _ _ _ _ _ _ _ _ _ _ _ _ _ _) fun Az w43 Hz m44 => ?_
 refine ⟨m44.to ⟨il, trivial⟩, ?_⟩
 refine goA hP36 [7] 1 127 255 Hz (m44.to ⟨il, trivial⟩) (.build rfl fct21 fl76rD5 rfl (by dsimp only [setL, List.set] <;> rfl) .nil) fun Az Hz => ?_
 refine so 8 ?_
 refine stw Hz m44 22 fct17 fun w47 m47 _ => ?_
 refine ⟨m47.to ⟨il, trivial⟩, ?_⟩
 refine so 9 ?_
 refine stw Hz m47 23 fct19 fun w48 m48 _ => ?_
 refine ⟨m48.to ⟨il, trivial⟩, ?_⟩
 refine wpAnyE_done (by kernel_rfl) ?_ _
 refine hK4 _ _ ?_
 refine rtd (retCC (fn := Try.f62) Hz m48 (i := 22) (i2 := 23) rfl rfl rfl rfl rfl U28 rfl fct17 U76 rfl fct19 ?_)
 revert Hz
 obtain rfl : e1 = 0 := by first | assumption | omega
 intro Hz
 exact ⟨pins1, 0, ws.length, fl, ne, _, _, by rw [List.length_map], hR, .inr ⟨rfl, rfl, rfl, rfl⟩, m48.ren [(1, 1), (2, 2), (3, 3), (6, 24)] (by decide)⟩
theorem scmd_any (vo bl : Int) (z : Nat) (pe to ne fl : Int) (hi : Bool) (pp pn pw : Option Addr) (np cp nn9 cn9 nw cw : Nat) (wh xa xb xc : Int) (w0 : World) (hz : z ≤ 1000) (hnw : nw ≤ 1000000) (hne : -1000000000000000 ≤ ne ∧ ne ≤ 1000000000000000) (hw9 : 0 ≤ wh ∧ wh ≤ 255) (ha9 : 0 ≤ xa ∧ xa ≤ 255) (hb9 : 0 ≤ xb ∧ xb ≤ 255) (hc9 : 0 ≤ xc ∧ xc ≤ 255) :
   Calls Try.prog 23 #[.agg #[.int .i64 vo, .int .i64 bl, .int .i64 (z : Int), .int .i64 pe, .slice pp np cp, .int .i64 to, .int .i64 ne, .bool hi, .int .i64 fl, .slice pn nn9 cn9, .slice pw nw cw], .bool true, .int .u8 wh, .int .u8 xa, .int .u8 xb, .int .u8 xc] w0 fun e w' => ∃ (kd bl2 sz2 pe2 to2 at0 ix vo2 : Int) (it : List (Int × List Int)) (pi : Option Addr) (ci : Nat) (dd : Unit), e = .returned (.agg #[.int .i64 kd, .int .i64 vo2, .int .i64 bl2, .int .i64 sz2, .int .i64 pe2, .slice none 0 0, .int .i64 to2, .int .i64 at0, .int .i64 ix, .slice pi it.length ci]) ∧ (2 ≤ kd ∧ kd ≤ 8) ∧ it.length ≤ 8 ∧ ItsB it ∧ Rd (New w0) w' (.slice pi it.length ci) (.l 2 (it.map itD)) ∧ Below w0.heap.size w0 w' := by
 refine ent6 Try.func23 rfl Try.ntmps23 fun Az Hz => ?_
 have m0 := MemOk.start (fun _ => False) w0
 refine zsr fun K0 hK0 => ?_
 refine plz (e_box Hz m0 20 (cs := [_, _, _, _, _, _, _, _, _, _, _]) rfl rfl rfl fun g1 Az w2 Hz m2 _ _ => ?_)
 refine plz (e_alloc Hz m2 21 fct23 rfl fun g3 Az w4 Hz m4 _ _ => ?_)
 refine znl (hK0 _ _ ?_)
 refine wsk fun K1 hK1 => ?_
 refine regS Hz (.move rfl <| .not rfl .nil) fun Az Hz => ?_
 refine wcf Hz ?_
 refine zss (hK1 _ _ ?_)
 refine zsr fun K2 hK2 => ?_
 refine goCh Hz (.fa 0 rfl U28 <| .lb m4 20 U3 rfl rfl rfl <| .build rfl fct23 fl73cm rfl (by dsimp only [setL, List.set] <;> rfl) .nil) fun Az Hz => ?_
 refine plz (e_alloc Hz m4 22 fct23 rfl fun g13 Az w14 Hz m14 _ _ => ?_)
 refine plz (stw Hz m14 22 fct18 fun w15 m15 _ => ?_)
 refine znl (hK2 _ _ ?_)
 refine wsk fun K3 hK3 => ?_
 have hC3 : ∀ (a : Act) (w : World), (∃ (kd at0 ix : Int) (it : List (Int × List Int)) (pi : Option Addr) (ci : Nat) (B6 B12 B14 : Nat), (2 ≤ kd ∧ kd ≤ 8) ∧ it.length ≤ 8 ∧ ItsB it ∧ Has 131 [(2, .int .u8 wh), (3, .int .u8 xa), (4, .int .u8 xb), (5, .int .u8 xc), (6, .pointer (some ⟨B6, 0, none⟩)), (12, .pointer (some ⟨B12, 0, none⟩)), (14, .pointer (some ⟨B14, 0, none⟩))] a ∧ MemOk (cn w0) w0 [(6, .box B6 28 [.int .i64 vo, .int .i64 bl, .int .i64 (z : Int), .int .i64 pe, .slice pp np cp, .int .i64 to, .int .i64 ne, .bool hi, .int .i64 fl, .slice pn nn9 cn9, .slice pw nw cw]), (12, .box B12 73 [.int .i64 0, .int .i64 0, .int .i64 0, .int .i64 0, .int .i64 0, .slice none 0 0, .int .i64 0, .int .i64 0, .int .i64 0, .slice none 0 0]), (14, .box B14 73 [.int .i64 kd, .int .i64 vo, .int .i64 0, .int .i64 0, .int .i64 0, .slice none 0 0, .int .i64 0, .int .i64 at0, .int .i64 ix, .slice pi it.length ci]), (9, .dat (.slice pi it.length ci) (.l 2 (it.map itD)))] w) → K3 a w := by
   clear Hz m15
   rintro Az w16 ⟨kd, at0, ix, it, pi, ci, B6, B12, B14, hkd, hit8, hitb, Hz, m16⟩
   refine hK3 _ _ ?_
   refine wsk fun K4 hK4 => ?_
   refine zsr fun K5 hK5 => ?_
   refine goCh Hz (.fa 7 rfl U28 <| .lb m16 6 U4 rfl rfl rfl <| .move rfl .nil) fun Az Hz => ?_
   refine bc Hz 111 ?_ ?_
   ·
    intro hb23 Hz; try simp only [QQ, Qax] at hb23
    refine gz hK5 Hz (.moveZ rfl <| .remZ rfl rfl (by decide) rfl <| .lssZ rfl rfl <| .pickT rfl rfl <| .nil) fun Az Hz => ?_
    refine bc Hz 115 ?_ ?_
    ·
     intro hb28 Hz; try simp only [QQ, Qax] at hb28
     refine wct Hz ?_
     replace Hz := Hz.oz [3, 4, 5, 6, 12, 14]
     have m30 := m16.oz [6, 9, 12, 14]
     refine region_p 15 (B := [(6, _)]) (m30.to ⟨il, trivial⟩) m30 (by kernel_rfl) (fun w31 hP31 m31 => ?_); clear m30
     refine goR hP31 [0, 1, 2, 3, 4, 5, 6, 7, 8, 9, 10] [1, 3, 5, 7] 11 0 2047 Hz (m31.to ⟨il, trivial⟩) (.fa 0 rfl U28 <| .lb hh 6 U3 rfl rfl rfl <| .fa 6 rfl U28 <| .lb hh 6 U3 rfl rfl rfl <| .fa 1 rfl U28 <| .lb hh 6 U3 rfl rfl rfl <| .fa 2 rfl U28 <| .lb hh 6 U3 rfl rfl rfl <| .move rfl <| .move rfl <| .move rfl .nil) fun Az Hz => ?_
     refine so 11 ?_
     refine e_litN Hz m31 100 (k := .u8) rfl rfl U22 fct0 rfl rfl rfl rfl fun g43 Az w44 Hz m44 => ?_
     refine ⟨m44.to ⟨il, trivial⟩, ?_⟩
     have m45 := m44.freezeN 100 rfl
     refine so 12 ?_
     refine ecl Hz Try.func60 rfl (sitem_any bl z [xa, xb, xc] _ _ _ ((m45.rd (i := 100) rfl).any) (by simp) (b3 ha9 hb9 hc9) (by omega)) ?_
     rintro e w46 ⟨it, p46, c46, rfl, hit8, hpre9, hitb, hit1, hd46, hb46⟩
     have m47 := m45.callF 101 rfl hb46 hd46
     refine ⟨_, rfl, ?_⟩; intro Az Hz
     refine ⟨m47.to ⟨il, trivial⟩, ?_⟩
     refine goA hP31 [13] 1 8191 16383 Hz (m47.to ⟨il, trivial⟩) (.build rfl fct23 fl73cm rfl (by dsimp only [setL, List.set] <;> rfl) .nil) fun Az Hz => ?_
     refine so 14 ?_
     refine stw Hz m47 14 fct18 fun w50 m50 _ => ?_
     refine ⟨m50.to ⟨il, trivial⟩, ?_⟩
     refine wpAnyE_done (by kernel_rfl) ?_ _
     refine hK4 _ _ ?_
     replace Hz := Hz.oz [12, 14]
     refine zsr fun K6 hK6 => ?_
     refine goCh Hz (.loadBR m50 (i := 14) rfl rfl U73 rfl fct18 (by simp) (by dsimp only [List.drop, List.take] <;> rfl) .nil) fun Az Hz => ?_
     refine plz (stw Hz m50 12 fct18 fun w54 m54 _ => ?_)
     refine znl (hK6 _ _ ?_)
     refine rtd (retC (fn := Try.f23) Hz m54 (i := 12) rfl rfl rfl U73 rfl fct18 ?_)
     exact ⟨_, _, _, _, _, _, _, _, _, _, _, (), rfl, by first | assumption | decide, by first | assumption, by first | assumption, m54.outF (i := 101) rfl, m54.below⟩
    intro hb28 Hz; try simp only [QQ, Qax] at hb28
    refine wcf Hz ?_
    refine zss (hK4 _ _ ?_)
    replace Hz := Hz.oz [12, 14]
    refine zsr fun K7 hK7 => ?_
    refine goCh Hz (.loadBR m16 (i := 14) rfl rfl U73 rfl fct18 (by simp) (by dsimp only [List.drop, List.take] <;> rfl) .nil) fun Az Hz => ?_
    refine plz (stw Hz m16 12 fct18 fun w58 m58 _ => ?_)
    refine znl (hK7 _ _ ?_)
    refine rtd (retC (fn := Try.f23) Hz m58 (i := 12) rfl rfl rfl U73 rfl fct18 ?_)
    exact ⟨_, _, _, _, _, _, _, _, _, _, _, (), rfl, by first | assumption | decide, by first | assumption, by first | assumption, m58.outF (i := 9) rfl, m58.below⟩
   intro hb23 Hz; try simp only [QQ, Qax] at hb23
   refine gz hK5 Hz (.sk <| .sk <| .sk <| .pickF rfl rfl <| .nil) fun Az Hz => ?_
   refine wcf Hz ?_
   refine zss (hK4 _ _ ?_)
   replace Hz := Hz.oz [12, 14]
   refine zsr fun K8 hK8 => ?_
   refine goCh Hz (.loadBR m16 (i := 14) rfl rfl U73 rfl fct18 (by simp) (by dsimp only [List.drop, List.take] <;> rfl) .nil) fun Az Hz => ?_
   refine plz (stw Hz m16 12 fct18 fun w66 m66 _ => ?_)
   refine znl (hK8 _ _ ?_)
   refine rtd (retC (fn := Try.f23) Hz m66 (i := 12) rfl rfl rfl U73 rfl fct18 ?_)
   exact ⟨_, _, _, _, _, _, _, _, _, _, _, (), rfl, by first | assumption | decide, by first | assumption, by first | assumption, m66.outF (i := 9) rfl, m66.below⟩
 replace Hz := Hz.oz [2, 3, 4, 5, 6, 12, 14]
 refine regS Hz (.move rfl <| .rem rfl rfl (by decide) rfl .nil) fun Az Hz => ?_
 refine wp_block ?_
 refine wsk fun K9 hK9 => ?_
 refine regS Hz (.eql rfl rfl <| .assign rfl .nil) fun Az Hz => ?_
 refine bc Hz 39 ?_ ?_
 ·
  intro hb72 Hz; try simp only [QQ, Qax] at hb72
  refine wct Hz ?_
  refine zss (hK9 _ _ ?_)
  refine wct Hz ?_
  refine wp_region_lit ?_
  refine goCh Hz (.fa 1 rfl U28 <| .lb m15 20 U3 rfl rfl rfl <| .fa 2 rfl U28 <| .lb m15 20 U3 rfl rfl rfl <| .move rfl <| .move rfl <| .move rfl .nil) fun Az Hz => ?_
  refine plz (e_litN Hz m15 23 (k := .u8) rfl rfl U22 fct0 rfl rfl rfl rfl fun g80 Az w81 Hz m81 => ?_)
  have m82 := m81.freezeN 23 rfl
  refine plz (ecl Hz Try.func60 rfl (sitem_any bl z [xa, xb, xc] _ _ _ ((m82.rd (i := 23) rfl).any) (by simp) (b3 ha9 hb9 hc9) (by omega)) ?_)
  rintro e w83 ⟨it, p83, c83, rfl, hit8, hpre9, hitb, hit1, hd83, hb83⟩
  have m84 := m82.callF 24 rfl hb83 hd83
  refine ⟨_, rfl, ?_⟩; intro Az Hz
  refine goCh Hz (.fieldAddr (off := 0) rfl U73 rfl (s := 0) (by kernel_rfl) rfl .nil) fun Az Hz => ?_
  refine plz (st1 Hz m84 22 fct22 fun w87 m87 _ => ?_)
  refine goCh Hz (.fieldAddr (off := 9) rfl U73 rfl (s := 0) (by kernel_rfl) rfl .nil) fun Az Hz => ?_
  refine plz (st1 Hz m87 22 fct11 fun w89 m89 _ => ?_)
  refine wpList_nil ?_
  show K3 _ _
  exact hC3 _ _ ⟨_, _, _, it, _, _, _, _, _, by decide, hit8, hitb, Hz.only [2, 3, 4, 5, 6, 12, 14], m89.ren [(6, 20), (12, 21), (14, 22), (9, 24)] (by decide)⟩
 intro hb72 Hz; try simp only [QQ, Qax] at hb72
 refine wcf Hz ?_
 refine regS Hz (.eql rfl rfl <| .assign rfl .nil) fun Az Hz => ?_
 refine bc Hz 39 ?_ ?_
 ·
  intro hb92 Hz; try simp only [QQ, Qax] at hb92
  refine wct Hz ?_
  refine zss (hK9 _ _ ?_)
  refine wct Hz ?_
  refine wp_region_lit ?_
  refine goCh Hz (.fa 1 rfl U28 <| .lb m15 20 U3 rfl rfl rfl <| .fa 2 rfl U28 <| .lb m15 20 U3 rfl rfl rfl <| .move rfl <| .move rfl <| .move rfl .nil) fun Az Hz => ?_
  refine plz (e_litN Hz m15 23 (k := .u8) rfl rfl U22 fct0 rfl rfl rfl rfl fun g100 Az w101 Hz m101 => ?_)
  have m102 := m101.freezeN 23 rfl
  refine plz (ecl Hz Try.func60 rfl (sitem_any bl z [xa, xb, xc] _ _ _ ((m102.rd (i := 23) rfl).any) (by simp) (b3 ha9 hb9 hc9) (by omega)) ?_)
  rintro e w103 ⟨it, p103, c103, rfl, hit8, hpre9, hitb, hit1, hd103, hb103⟩
  have m104 := m102.callF 24 rfl hb103 hd103
  refine ⟨_, rfl, ?_⟩; intro Az Hz
  refine goCh Hz (.fieldAddr (off := 0) rfl U73 rfl (s := 0) (by kernel_rfl) rfl .nil) fun Az Hz => ?_
  refine plz (st1 Hz m104 22 fct22 fun w107 m107 _ => ?_)
  refine goCh Hz (.fieldAddr (off := 9) rfl U73 rfl (s := 0) (by kernel_rfl) rfl .nil) fun Az Hz => ?_
  refine plz (st1 Hz m107 22 fct11 fun w109 m109 _ => ?_)
  refine wpList_nil ?_
  show K3 _ _
  exact hC3 _ _ ⟨_, _, _, it, _, _, _, _, _, by decide, hit8, hitb, Hz.only [2, 3, 4, 5, 6, 12, 14], m109.ren [(6, 20), (12, 21), (14, 22), (9, 24)] (by decide)⟩
 intro hb92 Hz; try simp only [QQ, Qax] at hb92
 refine wcf Hz ?_
 refine regS Hz (.eql rfl rfl <| .assign rfl .nil) fun Az Hz => ?_
 refine bc Hz 39 ?_ ?_
 ·
  intro hb112 Hz; try simp only [QQ, Qax] at hb112
  refine wct Hz ?_
  refine zss (hK9 _ _ ?_)
  refine wct Hz ?_
  refine wp_region_lit ?_
  refine goCh Hz (.fa 1 rfl U28 <| .lb m15 20 U3 rfl rfl rfl <| .fa 2 rfl U28 <| .lb m15 20 U3 rfl rfl rfl <| .move rfl <| .move rfl <| .move rfl .nil) fun Az Hz => ?_
  refine plz (e_litN Hz m15 23 (k := .u8) rfl rfl U22 fct0 rfl rfl rfl rfl fun g120 Az w121 Hz m121 => ?_)
  have m122 := m121.freezeN 23 rfl
  refine plz (ecl Hz Try.func60 rfl (sitem_any bl z [xa, xb, xc] _ _ _ ((m122.rd (i := 23) rfl).any) (by simp) (b3 ha9 hb9 hc9) (by omega)) ?_)
  rintro e w123 ⟨it, p123, c123, rfl, hit8, hpre9, hitb, hit1, hd123, hb123⟩
  have m124 := m122.callF 24 rfl hb123 hd123
  refine ⟨_, rfl, ?_⟩; intro Az Hz
  refine goCh Hz (.fieldAddr (off := 0) rfl U73 rfl (s := 0) (by kernel_rfl) rfl .nil) fun Az Hz => ?_
  refine plz (st1 Hz m124 22 fct22 fun w127 m127 _ => ?_)
  refine goCh Hz (.fieldAddr (off := 9) rfl U73 rfl (s := 0) (by kernel_rfl) rfl .nil) fun Az Hz => ?_
  refine plz (st1 Hz m127 22 fct11 fun w129 m129 _ => ?_)
  refine wpList_nil ?_
  show K3 _ _
  exact hC3 _ _ ⟨_, _, _, it, _, _, _, _, _, by decide, hit8, hitb, Hz.only [2, 3, 4, 5, 6, 12, 14], m129.ren [(6, 20), (12, 21), (14, 22), (9, 24)] (by decide)⟩
 intro hb112 Hz; try simp only [QQ, Qax] at hb112
 refine wcf Hz ?_
 refine wp_region_lit ?_
 refine gz hK9 Hz (.eql rfl rfl <| .assign rfl <| .nil) fun Az Hz => ?_
 refine bc Hz 39 ?_ ?_
 ·
  intro hb132 Hz; try simp only [QQ, Qax] at hb132
  refine wct Hz ?_
  replace Hz := Hz.oz [2, 3, 4, 5, 6, 12, 14, 37]
  refine wp_region_lit ?_
  refine goCh Hz (.fa 1 rfl U28 <| .lb m15 20 U3 rfl rfl rfl <| .fa 2 rfl U28 <| .lb m15 20 U3 rfl rfl rfl <| .move rfl <| .move rfl <| .move rfl .nil) fun Az Hz => ?_
  refine plz (e_litN Hz m15 23 (k := .u8) rfl rfl U22 fct0 rfl rfl rfl rfl fun g141 Az w142 Hz m142 => ?_)
  have m143 := m142.freezeN 23 rfl
  refine plz (ecl Hz Try.func60 rfl (sitem_any bl z [xa, xb, xc] _ _ _ ((m143.rd (i := 23) rfl).any) (by simp) (b3 ha9 hb9 hc9) (by omega)) ?_)
  rintro e w144 ⟨it, p144, c144, rfl, hit8, hpre9, hitb, hit1, hd144, hb144⟩
  have m145 := m143.callF 24 rfl hb144 hd144
  refine ⟨_, rfl, ?_⟩; intro Az Hz
  refine goCh Hz (.fieldAddr (off := 0) rfl U73 rfl (s := 0) (by kernel_rfl) rfl .nil) fun Az Hz => ?_
  refine plz (st1 Hz m145 22 fct22 fun w148 m148 _ => ?_)
  refine goCh Hz (.fieldAddr (off := 9) rfl U73 rfl (s := 0) (by kernel_rfl) rfl .nil) fun Az Hz => ?_
  refine plz (st1 Hz m148 22 fct11 fun w150 m150 _ => ?_)
  refine wpList_nil ?_
  show K3 _ _
  exact hC3 _ _ ⟨_, _, _, it, _, _, _, _, _, by decide, hit8, hitb, Hz.only [2, 3, 4, 5, 6, 12, 14], m150.ren [(6, 20), (12, 21), (14, 22), (9, 24)] (by decide)⟩
 intro hb132 Hz; try simp only [QQ, Qax] at hb132
 refine wcf Hz ?_
 replace Hz := Hz.oz [2, 3, 4, 5, 6, 12, 14, 37]
 refine regS Hz (.eql rfl rfl <| .assign rfl .nil) fun Az Hz => ?_
 refine bc Hz 55 ?_ ?_
 ·
  intro hb154 Hz; try simp only [QQ, Qax] at hb154
  refine wct Hz ?_
  have m155 := m15.oz [20, 21, 22]
  refine region_p 10 (B := [(20, _)]) (m155.to ⟨il, trivial⟩) m155 (by kernel_rfl) (fun w156 hP156 m156 => ?_); clear m155
  refine goR hP156 [0, 1, 2, 6] [2] 4 0 71 Hz (m156.to ⟨il, trivial⟩) (.move rfl <| .conv rfl U5 U2 (r := xa) (IntWalk.i64_in _ (by omega)) <| .loadBR hh (i := 20) rfl rfl U28 rfl fct17 (by simp) (by dsimp only [List.drop, List.take] <;> rfl) <| .fa 0 rfl U73 .nil) fun Az Hz => ?_
  refine so 3 ?_
  refine ecb Hz Try.func9 rfl m156 (rlen_any _ _ _ _ _ _ _ _ _ _ _ _ _ _ _ _ _ _) fun Az w161 Hz m162 => ?_
  refine ⟨m162.to ⟨il, trivial⟩, ?_⟩
  refine goA hP156 [4, 5] 2 79 127 Hz (m162.to ⟨il, trivial⟩) (.add rfl rfl (r := (nw : Int) + 2) (IntWalk.i64_in _ (by omega)) <| .rem rfl rfl (by omega) rfl .nil) fun Az Hz => ?_
  refine so 7 ?_
  refine st1 Hz m162 22 fct22 fun w166 m166 _ => ?_
  refine ⟨m166.to ⟨il, trivial⟩, ?_⟩
  refine goA hP156 [8] 1 255 511 Hz (m166.to ⟨il, trivial⟩) (.fa 7 rfl U73 .nil) fun Az Hz => ?_
  refine so 9 ?_
  refine st1 Hz m166 22 fct9 fun w168 m168 _ => ?_
  refine ⟨m168.to ⟨il, trivial⟩, ?_⟩
  refine wpAnyE_done (by kernel_rfl) ?_ _
  have m169 := m168.dat 23 rfl (Rd.l0 none 0 2)
  show K3 _ _
  exact hC3 _ _ ⟨_, _, _, [], _, _, _, _, _, by decide, by decide, (fun _ h => by cases h), Hz.only [2, 3, 4, 5, 6, 12, 14], m169.ren [(6, 20), (12, 21), (14, 22), (9, 23)] (by decide)⟩
 intro hb154 Hz; try simp only [QQ, Qax] at hb154
 refine wcf Hz ?_
 refine regS Hz (.eql rfl rfl <| .assign rfl .nil) fun Az Hz => ?_
 refine bc Hz 65 ?_ ?_
 ·
  intro hb172 Hz; try simp only [QQ, Qax] at hb172
  refine wct Hz ?_
  have m173 := m15.oz [20, 21, 22]
  refine region_p 10 (B := [(20, _)]) (m173.to ⟨il, trivial⟩) m173 (by kernel_rfl) (fun w174 hP174 m174 => ?_); clear m173
  refine goR hP174 [0, 1, 2, 6] [2] 4 0 71 Hz (m174.to ⟨il, trivial⟩) (.move rfl <| .conv rfl U5 U2 (r := xa) (IntWalk.i64_in _ (by omega)) <| .loadBR hh (i := 20) rfl rfl U28 rfl fct17 (by simp) (by dsimp only [List.drop, List.take] <;> rfl) <| .fa 0 rfl U73 .nil) fun Az Hz => ?_
  refine so 3 ?_
  refine ecb Hz Try.func9 rfl m174 (rlen_any _ _ _ _ _ _ _ _ _ _ _ _ _ _ _ _ _ _) fun Az w179 Hz m180 => ?_
  refine ⟨m180.to ⟨il, trivial⟩, ?_⟩
  refine goA hP174 [4, 5] 2 79 127 Hz (m180.to ⟨il, trivial⟩) (.add rfl rfl (r := (nw : Int) + 2) (IntWalk.i64_in _ (by omega)) <| .rem rfl rfl (by omega) rfl .nil) fun Az Hz => ?_
  refine so 7 ?_
  refine st1 Hz m180 22 fct22 fun w184 m184 _ => ?_
  refine ⟨m184.to ⟨il, trivial⟩, ?_⟩
  refine goA hP174 [8] 1 255 511 Hz (m184.to ⟨il, trivial⟩) (.fa 7 rfl U73 .nil) fun Az Hz => ?_
  refine so 9 ?_
  refine st1 Hz m184 22 fct9 fun w186 m186 _ => ?_
  refine ⟨m186.to ⟨il, trivial⟩, ?_⟩
  refine wpAnyE_done (by kernel_rfl) ?_ _
  have m187 := m186.dat 23 rfl (Rd.l0 none 0 2)
  show K3 _ _
  exact hC3 _ _ ⟨_, _, _, [], _, _, _, _, _, by decide, by decide, (fun _ h => by cases h), Hz.only [2, 3, 4, 5, 6, 12, 14], m187.ren [(6, 20), (12, 21), (14, 22), (9, 23)] (by decide)⟩
 intro hb172 Hz; try simp only [QQ, Qax] at hb172
 refine wcf Hz ?_
 refine regS Hz (.eql rfl rfl <| .assign rfl .nil) fun Az Hz => ?_
 refine bc Hz 75 ?_ ?_
 ·
  intro hb190 Hz; try simp only [QQ, Qax] at hb190
  refine wct Hz ?_
  replace Hz := Hz.oz [2, 3, 4, 5, 6, 12, 14, 37]
  have m192 := m15.oz [20, 21, 22]
  refine region_p 10 (B := [(20, _)]) (m192.to ⟨il, trivial⟩) m192 (by kernel_rfl) (fun w193 hP193 m193 => ?_); clear m192
  refine goR hP193 [0, 1, 2, 6] [2] 4 0 71 Hz (m193.to ⟨il, trivial⟩) (.move rfl <| .conv rfl U5 U2 (r := xa) (IntWalk.i64_in _ (by omega)) <| .loadBR hh (i := 20) rfl rfl U28 rfl fct17 (by simp) (by dsimp only [List.drop, List.take] <;> rfl) <| .fa 0 rfl U73 .nil) fun Az Hz => ?_
  refine so 3 ?_
  refine ecb Hz Try.func9 rfl m193 (rlen_any _ _ _ _ _ _ _ _ _ _ _ _ _ _ _ _ _ _) fun Az w198 Hz m199 => ?_
  refine ⟨m199.to ⟨il, trivial⟩, ?_⟩
  refine goA hP193 [4, 5] 2 79 127 Hz (m199.to ⟨il, trivial⟩) (.add rfl rfl (r := (nw : Int) + 2) (IntWalk.i64_in _ (by omega)) <| .rem rfl rfl (by omega) rfl .nil) fun Az Hz => ?_
  refine so 7 ?_
  refine st1 Hz m199 22 fct22 fun w203 m203 _ => ?_
  refine ⟨m203.to ⟨il, trivial⟩, ?_⟩
  refine goA hP193 [8] 1 255 511 Hz (m203.to ⟨il, trivial⟩) (.fa 7 rfl U73 .nil) fun Az Hz => ?_
  refine so 9 ?_
  refine st1 Hz m203 22 fct9 fun w205 m205 _ => ?_
  refine ⟨m205.to ⟨il, trivial⟩, ?_⟩
  refine wpAnyE_done (by kernel_rfl) ?_ _
  have m206 := m205.dat 23 rfl (Rd.l0 none 0 2)
  show K3 _ _
  exact hC3 _ _ ⟨_, _, _, [], _, _, _, _, _, by decide, by decide, (fun _ h => by cases h), Hz.only [2, 3, 4, 5, 6, 12, 14], m206.ren [(6, 20), (12, 21), (14, 22), (9, 23)] (by decide)⟩
 intro hb190 Hz; try simp only [QQ, Qax] at hb190
 refine wcf Hz ?_
 replace Hz := Hz.oz [2, 3, 4, 5, 6, 12, 14, 37]
 refine regS Hz (.eql rfl rfl <| .assign rfl .nil) fun Az Hz => ?_
 refine bc Hz 85 ?_ ?_
 ·
  intro hb210 Hz; try simp only [QQ, Qax] at hb210
  refine wct Hz ?_
  refine wp_region_lit ?_
  refine goCh Hz (.fieldAddr (off := 0) rfl U73 rfl (s := 0) (by kernel_rfl) rfl .nil) fun Az Hz => ?_
  refine plz (st1 Hz m15 22 fct22 fun w212 m212 _ => ?_)
  refine wpList_nil ?_
  have m213 := m212.dat 23 rfl (Rd.l0 none 0 2)
  show K3 _ _
  exact hC3 _ _ ⟨_, _, _, [], _, _, _, _, _, by decide, by decide, (fun _ h => by cases h), Hz.only [2, 3, 4, 5, 6, 12, 14], m213.ren [(6, 20), (12, 21), (14, 22), (9, 23)] (by decide)⟩
 intro hb210 Hz; try simp only [QQ, Qax] at hb210
 refine wcf Hz ?_
 refine regS Hz (.eql rfl rfl <| .assign rfl .nil) fun Az Hz => ?_
 refine bc Hz 88 ?_ ?_
 ·
  intro hb216 Hz; try simp only [QQ, Qax] at hb216
  refine wct Hz ?_
  have m217 := m15.oz [20, 21, 22]
  refine region_p 22 (B := [(20, _)]) (m217.to ⟨il, trivial⟩) m217 (by kernel_rfl) (fun w218 hP218 m218 => ?_); clear m217
  refine goR hP218 [0, 1, 2, 3, 4, 5, 6, 7, 8, 9, 10, 11, 12, 13, 16] [1, 9, 11] 15 0 81919 Hz (m218.to ⟨il, trivial⟩) (.fa 6 rfl U28 <| .lb hh 20 U3 rfl rfl rfl <| .move rfl <| .rem rfl rfl (by decide) (Int.tmod_eq_emod_of_nonneg (by omega)) <| .conv rfl U5 U3 (r := xc % 5) (IntWalk.i64_in _ (by omega)) <| .quo rfl rfl (by decide) (r := xc % 5 / 4) (by rw [Int.tdiv_eq_ediv_of_nonneg (by omega)]; exact IntWalk.i64_in _ (by omega)) <| .sub rfl rfl (r := ne - xc % 5 / 4) (IntWalk.i64_in _ (by omega)) <| .p (fun _ _ h => y_max h rfl rfl rfl) <| .fa 1 rfl U28 <| .lb hh 20 U3 rfl rfl rfl <| .fa 2 rfl U28 <| .lb hh 20 U3 rfl rfl rfl <| .move rfl <| .move rfl <| .fa 0 rfl U73 .nil) fun Az Hz => ?_
  refine so 14 ?_
  refine e_litN Hz m218 23 (k := .u8) rfl rfl U22 fct0 rfl rfl rfl rfl fun g234 Az w235 Hz m235 => ?_
  refine ⟨m235.to ⟨il, trivial⟩, ?_⟩
  have m236 := m235.freezeN 23 rfl
  refine so 15 ?_
  refine ecl Hz Try.func60 rfl (sitem_any bl z [xa, xb] _ _ _ ((m236.rd (i := 23) rfl).any) (by simp) (b2 ha9 hb9) (by omega)) ?_
  rintro e w237 ⟨it, p237, c237, rfl, hit8, hpre9, hitb, hit1, hd237, hb237⟩
  have m238 := m236.callF 24 rfl hb237 hd237
  refine ⟨_, rfl, ?_⟩; intro Az Hz
  refine ⟨m238.to ⟨il, trivial⟩, ?_⟩
  refine so 17 ?_
  refine st1 Hz m238 22 fct22 fun w240 m240 _ => ?_
  refine ⟨m240.to ⟨il, trivial⟩, ?_⟩
  refine goA hP218 [18] 1 262143 524287 Hz (m240.to ⟨il, trivial⟩) (.fa 8 rfl U73 .nil) fun Az Hz => ?_
  refine so 19 ?_
  refine st1 Hz m240 22 fct22 fun w242 m242 _ => ?_
  refine ⟨m242.to ⟨il, trivial⟩, ?_⟩
  refine goA hP218 [20] 1 1048575 2097151 Hz (m242.to ⟨il, trivial⟩) (.fa 9 rfl U73 .nil) fun Az Hz => ?_
  refine so 21 ?_
  refine st1 Hz m242 22 fct11 fun w244 m244 _ => ?_
  refine ⟨m244.to ⟨il, trivial⟩, ?_⟩
  refine wpAnyE_done (by kernel_rfl) ?_ _
  show K3 _ _
  exact hC3 _ _ ⟨_, _, _, it, _, _, _, _, _, by decide, hit8, hitb, Hz.only [2, 3, 4, 5, 6, 12, 14], m244.ren [(6, 20), (12, 21), (14, 22), (9, 24)] (by decide)⟩
 intro hb216 Hz; try simp only [QQ, Qax] at hb216
 refine wcf Hz ?_
 refine wp_region_lit ?_
 refine goCh Hz (.fieldAddr (off := 0) rfl U73 rfl (s := 0) (by kernel_rfl) rfl .nil) fun Az Hz => ?_
 refine plz (st1 Hz m15 22 fct22 fun w246 m246 _ => ?_)
 refine wpList_nil ?_
 have m247 := m246.dat 23 rfl (Rd.l0 none 0 2)
 show K3 _ _
 exact hC3 _ _ ⟨_, _, _, [], _, _, _, _, _, by decide, by decide, (fun _ h => by cases h), Hz.only [2, 3, 4, 5, 6, 12, 14], m247.ren [(6, 20), (12, 21), (14, 22), (9, 23)] (by decide)⟩
end Go.Proofs.Yteglmahnkfgelaa.K
end
section
namespace Go.Proofs.Yteglmahnkfgelaa.K
open Go.ChangeShapes Go.WideShapes Go.ChangeAt Go.RowKit
set_option linter.unusedVariables false
set_option linter.unusedSimpArgs false
abbrev PI := Int × List Int
abbrev PWr := Int × List PI
theorem pinspre_iff {fl : Int} {n : Nat} {pins : List Int} : PinsPre fl n pins pins.length ↔ pins.Pairwise (· ≤ ·) ∧ ∀ p ∈ pins, fl ≤ p ∧ p ≤ n := by
 constructor
 · intro h
   have hadj : ∀ j, j + 1 < pins.length → pins.getD j 0 ≤ pins.getD (j + 1) 0 := fun j hj => (h (j + 1) hj).1
   have hmono : ∀ d i, i + d < pins.length → pins.getD i 0 ≤ pins.getD (i + d) 0 := by
     intro d
     induction d with
     | zero => intro i _; exact Int.le_refl _
     | succ d ih => intro i hi; have h1 := ih i (by omega); have h2 := hadj (i + d) (by omega); rw [Nat.add_assoc] at h2; omega
   refine ⟨List.pairwise_iff_getElem.2 (fun i j hi hj hij => ?_), fun p hp => ?_⟩
   · have h1 := hmono (j - i) i (by omega)
     rw [show i + (j - i) = j by omega, List.getD, List.getD, List.getElem?_eq_getElem hi, List.getElem?_eq_getElem hj] at h1
     exact h1
   obtain ⟨j, hj, rfl⟩ := List.getElem_of_mem hp
   have h0 : fl ≤ pins.getD 0 0 := (h 0 (by omega)).1
   have h1 := hmono j 0 (by omega)
   have h2 := (h j hj).2
   rw [Nat.zero_add] at h1
   rw [show pins[j] = pins.getD j 0 by rw [List.getD, List.getElem?_eq_getElem hj]; rfl]
   omega
 rintro ⟨h1, h2⟩ j hj
 have hm : pins.getD j 0 ∈ pins := getD_mem hj
 refine ⟨?_, (h2 _ hm).2⟩
 cases j with
 | zero => exact (h2 _ hm).1
 | succ j =>
   show pins.getD j 0 ≤ pins.getD (j + 1) 0
   rw [List.getD, List.getD, List.getElem?_eq_getElem (by omega), List.getElem?_eq_getElem hj]
   exact List.pairwise_iff_getElem.1 h1 j (j + 1) (by omega) hj (by omega)
theorem lowL_le {n : Nat} {pins : List Int} : lowL n pins ≤ n ∧ ∀ p ∈ pins, lowL n pins ≤ p := by
 unfold lowL
 have key : ∀ (l : List Int) (x : Int), l.foldl min x ≤ x ∧ ∀ p ∈ l, l.foldl min x ≤ p := by
   intro l
   induction l with
   | nil => intro x; exact ⟨Int.le_refl _, fun p hp => by cases hp⟩
   | cons y r ih =>
     intro x
     obtain ⟨h1, h2⟩ := ih (min x y)
     refine ⟨by simp only [List.foldl_cons]; omega, fun p hp => ?_⟩
     simp only [List.foldl_cons]
     rcases List.mem_cons.1 hp with rfl | hp
     · omega
     exact h2 p hp
 exact key pins n
theorem wrpre_app2 {bl sz : Int} {ws : List PWr} {it : List PI} (h : WrPre bl sz ws ws.length) (hI : ItemsR bl sz it) : WrPre bl sz (ws ++ [((ws.length : Int) + 1, it)]) (ws.length + 1) := fun j hj => by
 rcases Nat.lt_or_ge j ws.length with h1 | h1
 · have h2 := h j h1
   rw [show (ws ++ [((ws.length : Int) + 1, it)]).getD j w1 = ws.getD j w1 by simp [List.getD, List.getElem?_append, h1]]
   exact h2
 obtain rfl : j = ws.length := by omega
 rw [show (ws ++ [((ws.length : Int) + 1, it)]).getD ws.length w1 = ((ws.length : Int) + 1, it) by simp [List.getD]]
 exact ⟨rfl, hI⟩
section
variable {vo bl sz pe to ne fl : Int} {hi : Bool} {place pins : List Int} {ws : List PWr}
theorem VolR.sorted (h : VolR vo bl sz pe to ne fl hi place pins ws) : pins.Pairwise (· ≤ ·) := by
 obtain ⟨h1, h2, h3, h4, h5, h6, h7, h8, h9⟩ := h
 exact (pinspre_iff.1 h8).1
theorem VolR.write (h : VolR vo bl sz pe to ne fl hi place pins ws) {it : List PI} (hI : ItemsR bl sz it) : VolR vo bl sz pe to ne fl hi place pins (ws ++ [((ws.length : Int) + 1, it)]) := by
 obtain ⟨h1, h2, h3, h4, h5, h6, h7, h8, h9⟩ := h
 refine ⟨h1, h2, h3, h4, h5, h6, by rw [List.length_append]; simp; omega, ?_, by rw [List.length_append]; exact wrpre_app2 h9 hI⟩
 obtain ⟨g1, g2⟩ := pinspre_iff.1 h8
 exact pinspre_iff.2 ⟨g1, fun p hp => by have := g2 p hp; rw [List.length_append]; simp; omega⟩
theorem VolR.do (h : VolR vo bl sz pe to ne fl hi place pins ws) (hh : hi = true → pins = []) {kd at0 ix : Int} {it : List PI} {ne' fl' e9 : Int} {hi' : Bool} {ws' : List PWr} (hd : doR bl sz to ne fl hi pins ws kd at0 ix it = (ne', hi', fl', ws', e9)) :
   VolR vo bl sz pe to ne' fl' hi' place pins ws' ∧ (hi' = true → pins = []) ∧ ws'.length ≤ ws.length + 1 := by
 have hsame : VolR vo bl sz pe to ne fl hi place pins ws ∧ (hi = true → pins = []) ∧ ws.length ≤ ws.length + 1 := ⟨h, hh, by omega⟩
 unfold doR at hd
 split at hd
 · unfold putR at hd
   split at hd
   · simp only [Prod.mk.injEq] at hd; obtain ⟨rfl, rfl, rfl, rfl, rfl⟩ := hd; exact hsame
   unfold wrR at hd
   split at hd
   · rename_i hI
     simp only [Prod.mk.injEq] at hd; obtain ⟨rfl, rfl, rfl, rfl, rfl⟩ := hd
     exact ⟨h.write hI, hh, by simp⟩
   simp only [Prod.mk.injEq] at hd; obtain ⟨rfl, rfl, rfl, rfl, rfl⟩ := hd; exact hsame
 split at hd
 · unfold pruneR at hd
   split at hd
   · rename_i hr
     simp only [Prod.mk.injEq] at hd; obtain ⟨rfl, rfl, rfl, rfl, rfl⟩ := hd
     unfold reachR at hr
     split at hr
     · cases hr
     split at hr
     · cases hr
     split at hr
     · cases hr
     rename_i a1 a2 a3
     obtain ⟨h1, h2, h3, h4, h5, h6, h7, h8, h9⟩ := h
     have hl := @lowL_le ws.length pins
     obtain ⟨g1, g2⟩ := pinspre_iff.1 h8
     exact ⟨⟨h1, h2, h3, h4, h5, by omega, by omega, pinspre_iff.2 ⟨g1, fun p hp => by have b1 := hl.2 p hp; have b2 := g2 p hp; omega⟩, h9⟩, hh, by omega⟩
   simp only [Prod.mk.injEq] at hd; obtain ⟨rfl, rfl, rfl, rfl, rfl⟩ := hd; exact hsame
 split at hd
 · unfold takeR at hd
   split at hd
   · simp only [Prod.mk.injEq] at hd; obtain ⟨rfl, rfl, rfl, rfl, rfl⟩ := hd; exact hsame
   split at hd
   · simp only [Prod.mk.injEq] at hd; obtain ⟨rfl, rfl, rfl, rfl, rfl⟩ := hd; exact hsame
   split at hd
   · simp only [Prod.mk.injEq] at hd; obtain ⟨rfl, rfl, rfl, rfl, rfl⟩ := hd; exact hsame
   rename_i b1 b2 b3
   by_cases hI : ItemsR bl sz it
   · rw [show wrR bl sz ws it = (ws ++ [((ws.length : Int) + 1, it)], 0) from by rw [wrR, if_pos hI]] at hd
     rw [if_pos rfl] at hd
     simp only [Prod.mk.injEq] at hd; obtain ⟨rfl, rfl, rfl, rfl, rfl⟩ := hd
     obtain ⟨h1, h2, h3, h4, h5, h6, h7, h8, h9⟩ := h.write hI
     refine ⟨⟨h1, by omega, ?_, h4, fun e => absurd e b1, h6, h7, h8, h9⟩, hh, by simp⟩
     have : ne ≠ to := fun e => b3 (.inr e)
     omega
   rw [show wrR bl sz ws it = (ws, 23) from by rw [wrR, if_neg hI]] at hd
   rw [if_neg (by simp)] at hd
   simp only [Prod.mk.injEq] at hd; obtain ⟨rfl, rfl, rfl, rfl, rfl⟩ := hd; exact hsame
 split at hd
 · unfold publishR at hd
   split at hd
   · simp only [Prod.mk.injEq] at hd; obtain ⟨rfl, rfl, rfl, rfl, rfl⟩ := hd; exact hsame
   rename_i b1
   simp only [Prod.mk.injEq] at hd; obtain ⟨rfl, rfl, rfl, rfl, rfl⟩ := hd
   obtain ⟨h1, h2, h3, h4, h5, h6, h7, h8, h9⟩ := h
   have e1 : hi = true := by cases hi with | true => rfl | false => exact absurd (.inl rfl) b1
   have e2 : ne = to := by
     by_cases e : ne = to
     · exact e
     exact absurd (.inr e) b1
   have e3 := hh e1
   subst e3
   exact ⟨⟨h1, h2, h3, (fun e => by cases e), (fun _ => e2), by omega, by omega, (fun j hj => by simp at hj), h9⟩, (fun e => by cases e), by omega⟩
 split at hd
 · simp only [Prod.mk.injEq] at hd; obtain ⟨rfl, rfl, rfl, rfl, rfl⟩ := hd; exact hsame
 simp only [Prod.mk.injEq] at hd; obtain ⟨rfl, rfl, rfl, rfl, rfl⟩ := hd; exact hsame
theorem VolR.pin (h : VolR vo bl sz pe to ne fl hi place pins ws) (hh : hi = true → pins = []) {at0 e9 : Int} {pins' : List Int} (hd : pinR hi fl at0 ws.length pins = (pins', e9)) :
   VolR vo bl sz pe to ne fl hi place pins' ws ∧ (hi = true → pins' = []) ∧ pins'.length ≤ pins.length + 1 := by
 unfold pinR at hd
 split at hd
 · rename_i hr
   simp only [Prod.mk.injEq] at hd; obtain ⟨rfl, rfl⟩ := hd
   unfold reachR at hr
   split at hr
   · cases hr
   split at hr
   · cases hr
   split at hr
   · cases hr
   rename_i a1 a2 a3
   obtain ⟨h1, h2, h3, h4, h5, h6, h7, h8, h9⟩ := h
   obtain ⟨g1, g2⟩ := pinspre_iff.1 h8
   refine ⟨⟨h1, h2, h3, h4, h5, h6, h7, pinspre_iff.2 ⟨sortP_sorted _, fun p hp => ?_⟩, h9⟩, fun e => absurd e a1, by simp [sortP]⟩
   rw [sortP, List.mem_mergeSort] at hp
   rcases List.mem_append.1 hp with hp | hp
   · exact g2 p hp
   simp at hp; subst hp; omega
 simp only [Prod.mk.injEq] at hd; obtain ⟨rfl, rfl⟩ := hd
 exact ⟨h, hh, by omega⟩
theorem VolR.unpin (h : VolR vo bl sz pe to ne fl hi place pins ws) (hh : hi = true → pins = []) {at0 e9 : Int} {pins' : List Int} (hd : unpinR hi at0 pins = (pins', e9)) :
   VolR vo bl sz pe to ne fl hi place pins' ws ∧ (hi = true → pins' = []) ∧ pins'.length ≤ pins.length + 1 := by
 unfold unpinR at hd
 split at hd
 · simp only [Prod.mk.injEq] at hd; obtain ⟨rfl, rfl⟩ := hd
   exact ⟨h, hh, by omega⟩
 rename_i b1
 simp only [Prod.mk.injEq] at hd; obtain ⟨rfl, rfl⟩ := hd
 obtain ⟨h1, h2, h3, h4, h5, h6, h7, h8, h9⟩ := h
 obtain ⟨g1, g2⟩ := pinspre_iff.1 h8
 have hs : (pins.take (Lib.idxOf pins at0).toNat ++ pins.drop ((Lib.idxOf pins at0).toNat + 1)).Sublist pins := by
   rw [← List.eraseIdx_eq_take_drop_succ]; exact List.eraseIdx_sublist _ _
 exact ⟨⟨h1, h2, h3, h4, h5, h6, h7, pinspre_iff.2 ⟨g1.sublist hs, fun p hp => g2 p (hs.subset hp)⟩, h9⟩, fun e => absurd (.inl e) b1, by have := hs.length_le; omega⟩
theorem VolR.its (h : VolR vo bl sz pe to ne fl hi place pins ws) : WrsOk ws ∧ (∀ e ∈ ws, e.2.length ≤ 8) := by
 obtain ⟨⟨a1, a2, a3, a4, a5, a6, a7⟩, h2, h3, h4, h5, h6, h7, h8, h9⟩ := h
 have key : ∀ e ∈ ws, e.2.length ≤ 8 ∧ ∀ x ∈ e.2, x.2.length ≤ 32 := fun e he => by
   obtain ⟨j, hj, rfl⟩ := List.getElem_of_mem he
   have h10 := (h9 j hj).2
   rw [List.getD, List.getElem?_eq_getElem hj] at h10
   refine ⟨h10.2.1, fun x hx => ?_⟩
   obtain ⟨i, hi, rfl⟩ := List.getElem_of_mem hx
   have h11 := (h10.2.2 i hi).2.2.1
   simp only [Option.getD_some] at h11
   rw [List.getD, List.getElem?_eq_getElem hi] at h11
   simp only [Option.getD_some] at h11
   omega
 exact ⟨fun e he => ⟨Nat.le_trans (key e he).1 (by decide), fun x hx => Nat.le_trans ((key e he).2 x hx) (by decide)⟩, fun e he => (key e he).1⟩
theorem VolR.new {vo bl sz pe to : Int} {place : List Int} (hN : NewOk vo bl sz pe to place) : VolR vo bl sz pe to 0 0 (decide (0 < to)) place [] [] := by
 have hN' := hN
 obtain ⟨h1, h2, h3, h4, h5, h6, h7, h8, h9, h10, h11⟩ := hN'
 exact ⟨hN, by omega, by omega, (fun e => by simp at e; omega), (fun e => by simp at e; omega), by omega, by simp, (fun j hj => by simp at hj), (fun j hj => by simp at hj)⟩
end
end Go.Proofs.Yteglmahnkfgelaa.K
end
section
namespace Go.Proofs.Yteglmahnkfgelaa.K
open Go.ChangeShapes Go.WideShapes Go.ChangeAt Go.RowKit
set_option linter.unusedVariables false
set_option linter.unusedSimpArgs false
theorem flatten_put {α : Type} {mm : Nat} (vs : List α) (hv : vs.length = mm) : ∀ (cs : List (List α)) (J : Nat), (∀ c ∈ cs, c.length = mm) → J < cs.length → cs.flatten.take (J * mm) ++ vs ++ cs.flatten.drop (J * mm + mm) = (cs.set J vs).flatten
 | [], J, _, h => by simp at h
 | a :: cs, 0, hc, h => by
   have ha := hc a (by simp)
   rw [List.set_cons_zero, List.flatten_cons, List.flatten_cons, Nat.zero_mul, Nat.zero_add, List.take_zero, List.nil_append, List.drop_left' ha]
 | a :: cs, J + 1, hc, h => by
   have ha := hc a (by simp)
   have ih := flatten_put vs hv cs J (fun c h => hc c (by simp [h])) (by simpa using h)
   have e1 : (J + 1) * mm = a.length + J * mm := by rw [ha, Nat.add_mul]; omega
   rw [List.set_cons_succ, List.flatten_cons, List.flatten_cons, ← ih, e1, Nat.add_assoc, List.take_append, List.drop_append, List.take_of_length_le (by omega), List.drop_of_length_le (by omega)]
   rw [show a.length + J * mm - a.length = J * mm by omega, show a.length + (J * mm + mm) - a.length = J * mm + mm by omega]
   simp
section
variable {P : Program} {n : Nat} {T : List (Nat × Value)} {a : Act} {w w0 : World} {X : Cx} {M : Mm} {tt : TypeId} {pos : String} {af : Array Edge} {gd : Option (Nat × Bool)} {Q : Exit → Act → World → Prop} {K : Act → World → Prop}
end
end Go.Proofs.Yteglmahnkfgelaa.K
end
section
namespace Go.Proofs.Yteglmahnkfgelaa.K
open Go.ChangeShapes Go.WideShapes Go.ChangeAt Go.RowKit
set_option linter.unusedVariables false
set_option linter.unusedSimpArgs false
structure VolV where
 vo : Int
 bl : Int
 sz : Int
 pe : Int
 place : List Int
 to : Int
 ne : Int
 hi : Bool
 fl : Int
 pins : List Int
 ws : List PWr
def volD (x : VolV) : List D := [.v (.int .i64 x.vo), .v (.int .i64 x.bl), .v (.int .i64 x.sz), .v (.int .i64 x.pe), .ns .i64 x.place, .v (.int .i64 x.to), .v (.int .i64 x.ne), .v (.bool x.hi), .v (.int .i64 x.fl), .ns .i64 x.pins, .l 2 (x.ws.map wrD)]
theorem volD_get {L : List VolV} {k : Nat} {x : VolV} (h : L[k]? = some x) : (L.map volD)[k]? = some [.v (.int .i64 x.vo), .v (.int .i64 x.bl), .v (.int .i64 x.sz), .v (.int .i64 x.pe), .ns .i64 x.place, .v (.int .i64 x.to), .v (.int .i64 x.ne), .v (.bool x.hi), .v (.int .i64 x.fl), .ns .i64 x.pins, .l 2 (x.ws.map wrD)] := by simp [h, volD]
def WBy (ws : List PWr) : Prop := ∀ e ∈ ws, ∀ x ∈ e.2, BytesL x.2
theorem WBy.snoc {ws : List PWr} {s : Int} {it : List PI} (h : WBy ws) (hi : ∀ e ∈ it, BytesL e.2) : WBy (ws ++ [(s, it)]) := fun e he => by
 rcases List.mem_append.1 he with h1 | h1
 · exact h e h1
 rw [List.mem_singleton.1 h1]; exact hi
theorem doR_by {bl sz to ne fl : Int} {hi : Bool} {pins : List Int} {ws : List PWr} {kd at0 ix : Int} {it : List PI} {ne' fl' e9 : Int} {hi' : Bool} {ws' : List PWr} (h : doR bl sz to ne fl hi pins ws kd at0 ix it = (ne', hi', fl', ws', e9)) (hw : WBy ws) (hb : ∀ e ∈ it, BytesL e.2) : WBy ws' := by
 unfold doR putR pruneR takeR publishR wrR at h
 repeat' split at h
 all_goals (simp only [Prod.mk.injEq] at h; obtain ⟨-, -, -, rfl, -⟩ := h; first | exact hw | exact hw.snoc hb)
def VolS (n : Nat) (x : VolV) : Prop := VolR x.vo x.bl x.sz x.pe x.to x.ne x.fl x.hi x.place x.pins x.ws ∧ (x.hi = true → x.pins = []) ∧ x.pins.length ≤ n ∧ x.ws.length ≤ n ∧ WBy x.ws
theorem VolS.up {n m : Nat} {x : VolV} (h : VolS n x) (hm : n ≤ m) : VolS m x := ⟨h.1, h.2.1, by have := h.2.2.1; omega, by have := h.2.2.2.1; omega, h.2.2.2.2⟩
def MacS (n : Nat) (L : List VolV) : Prop := L.length ≤ n ∧ ∀ x ∈ L, VolS n x
theorem MacS.set {n : Nat} {L : List VolV} {x : VolV} (h : MacS n L) (hx : VolS (n + 1) x) (k : Nat) : MacS (n + 1) (L.set k x) := ⟨by rw [List.length_set]; have := h.1; omega, fun y hy => by
 rcases List.mem_or_eq_of_mem_set hy with hy | rfl
 · exact (h.2 y hy).up (by omega)
 exact hx⟩
theorem MacS.ins {n : Nat} {L : List VolV} {x : VolV} (h : MacS n L) (hx : VolS (n + 1) x) (k : Nat) : MacS (n + 1) (L.take k ++ [x] ++ L.drop k) := ⟨by simp only [List.length_append, List.length_take, List.length_drop, List.length_singleton]; have := h.1; omega, fun y hy => by
 rcases List.mem_append.1 hy with hy | hy
 · rcases List.mem_append.1 hy with hy | hy
   · exact (h.2 y (List.mem_of_mem_take hy)).up (by omega)
   rw [List.mem_singleton.1 hy]; exact hx
 exact (h.2 y (List.mem_of_mem_drop hy)).up (by omega)⟩
theorem MacS.up {n m : Nat} {L : List VolV} (h : MacS n L) (hm : n ≤ m) : MacS m L := ⟨by have := h.1; omega, fun x hx => (h.2 x hx).up hm⟩
set_option maxRecDepth 100000
set_option maxHeartbeats 4000000
theorem rfind (X : Cx) (B : Nat) (L : List VolV) (p : Option Addr) (c : Nat) (vo : Int) (w0 : World) (hl : L.length ≤ 1000000) (m0 : MemOk X w0 [(1, .box B 67 [.slice p (L.map volD).length c]), (2, .dat (.slice p (L.map volD).length c) (.l 11 (L.map volD)))] w0) :
   Calls Try.prog 55 #[.pointer (some ⟨B, 0, none⟩), .int .i64 vo] w0 fun e w' => ∃ j : Int, e = .returned (.int .i64 j) ∧ -1 ≤ j ∧ j < L.length ∧ MemOk X w0 [(1, .box B 67 [.slice p (L.map volD).length c]), (2, .dat (.slice p (L.map volD).length c) (.l 11 (L.map volD)))] w' := by
 refine ent2 Try.func55 rfl Try.ntmps55 fun Az Hz => ?_
 refine regS Hz (.assign rfl .nil) fun Az Hz => ?_
 refine wsk fun K0 hK0 => ?_
 refine regS Hz (.assign rfl .nil) fun Az Hz => ?_
 refine wp_block ?_
 refine wp_loop_ghost (fun g a w => ∃ (k : Nat), k ≤ L.length ∧ g = L.length - k ∧ Has 26 [(0, .pointer (some ⟨B, 0, none⟩)), (1, .int .i64 vo), (5, .int .i64 k)] a ∧ MemOk X w0 [(1, .box B 67 [.slice p (L.map volD).length c]), (2, .dat (.slice p (L.map volD).length c) (.l 11 (L.map volD)))] w) (L.length) ?_ ?_
 · exact ⟨0, Nat.zero_le _, rfl, Hz.only [0, 1, 5], m0.only [1, 2]⟩
 clear Hz m0
 rintro g Az w3 ⟨k, hkl, hg, Hz, m3⟩
 refine wsk fun K1 hK1 => ?_
 refine regS Hz (.move rfl <| .move rfl <| .nilCheck rfl <| .fa 0 rfl U67 <| .lb m3 1 U65 rfl rfl rfl <| .len rfl U65 <| .lss rfl rfl .nil) fun Az Hz => ?_
 refine bc Hz 12 ?_ ?_
 ·
  intro hb11 Hz; try simp only [QQ, Qax] at hb11
  have hk : k < L.length := by have := hb11; simp at this; omega
  obtain ⟨x, hes⟩ : ∃ x, L[k]? = some x := ⟨_, List.getElem?_eq_getElem (by simpa using hk)⟩
  refine wct Hz ?_
  refine zss (hK1 _ _ ?_)
  refine wsk fun K2 hK2 => ?_
  refine wp_block ?_
  replace Hz := Hz.oz [0, 1, 5]
  refine zsr fun K3 hK3 => ?_
  refine goCh Hz (.move rfl <| .nilCheck rfl <| .fa 0 rfl U67 <| .lb m3 1 U65 rfl rfl rfl <| .move rfl .nil) fun Az Hz => ?_
  obtain ⟨b24, o24, vs24, hp24, hR24, ho24, m24⟩ := m3.openR (i := 2) rfl (k) (r := [.v (.int .i64 x.vo), .v (.int .i64 x.bl), .v (.int .i64 x.sz), .v (.int .i64 x.pe), .ns .i64 x.place, .v (.int .i64 x.to), .v (.int .i64 x.ne), .v (.bool x.hi), .v (.int .i64 x.fl), .ns .i64 x.pins, .l 2 (x.ws.map wrD)]) (volD_get hes) 100 rfl
  revert Hz
  cases hp24; clear m3 ho24
  rcases hR24 with _ | ⟨hd24_0, _ | ⟨hd24_1, _ | ⟨hd24_2, _ | ⟨hd24_3, _ | ⟨hd24_4, _ | ⟨hd24_5, _ | ⟨hd24_6, _ | ⟨hd24_7, _ | ⟨hd24_8, _ | ⟨hd24_9, _ | ⟨hd24_10, _ | _⟩⟩⟩⟩⟩⟩⟩⟩⟩⟩⟩
  obtain rfl := hd24_0.v_out
  clear hd24_0
  obtain rfl := hd24_1.v_out
  clear hd24_1
  obtain rfl := hd24_2.v_out
  clear hd24_2
  obtain rfl := hd24_3.v_out
  clear hd24_3
  obtain ⟨p25, c25, hv25, hc25⟩ := hd24_4.ns_shape; subst hv25
  intro Hz
  have m25 := m24.dat 101 rfl (hd24_4.cast (fun _ h => (free_add rfl h))); clear m24 hd24_4
  revert Hz
  obtain rfl := hd24_5.v_out
  clear hd24_5
  obtain rfl := hd24_6.v_out
  clear hd24_6
  obtain rfl := hd24_7.v_out
  clear hd24_7
  obtain rfl := hd24_8.v_out
  clear hd24_8
  obtain ⟨p26, c26, hv26, hc26⟩ := hd24_9.ns_shape; subst hv26
  intro Hz
  have m26 := m25.dat 102 rfl (hd24_9.cast (fun _ h => (free_add rfl (free_add rfl h)))); clear m25 hd24_9
  revert Hz
  obtain ⟨p27, c27, hv27, hc27⟩ := hd24_10.l_shape; subst hv27
  intro Hz
  have m27 := m26.dat 103 rfl (hd24_10.cast (fun _ h => (free_add rfl (free_add rfl (free_add rfl h))))); clear m26 hd24_10
  refine gz hK3 Hz (.c rfl (fun _ h => y_idx h rfl rfl U65 fct17 (k) rfl (by simpa using hk)) <| .fieldAddrQ 0 rfl U28 rfl (s := 0) (by kernel_rfl) rfl <| .loadC0 m27 (i := 100) rfl rfl U3 rfl <| .move rfl <| .eql rfl rfl <| .nil) fun Az Hz => ?_
  refine bc Hz 24 ?_ ?_
  ·
   intro hb33 Hz; try simp only [QQ, Qax] at hb33
   refine wct Hz ?_
   replace Hz := Hz.oz [0, 1, 5]
   refine regS Hz (.move rfl <| .assign rfl .nil) fun Az Hz => ?_
   refine rt1 Hz ?_
   first | exact ⟨k, rfl, by omega, by omega, m27.only [1, 2]⟩ | exact ⟨-1, rfl, by omega, by omega, m27.only [1, 2]⟩
  intro hb33 Hz; try simp only [QQ, Qax] at hb33
  refine wcf Hz ?_
  refine zss (hK2 _ _ ?_)
  replace Hz := Hz.oz [0, 1, 5]
  refine wp_region_lit ?_
  refine goCh Hz (.move rfl <| .inc (k + 1) <| .assign rfl .nil) fun Az Hz => ?_
  refine wpList_nil ?_
  show ∃ n', n' < _ ∧ _
  exact ⟨L.length - (k + 1), by omega, k + 1, by omega, rfl, Hz.only [0, 1, 5], m27.only [1, 2]⟩
 intro hb11 Hz; try simp only [QQ, Qax] at hb11
 refine wcf Hz ?_
 refine wp_exit ?_
 refine hK0 _ _ ?_
 replace Hz := Hz.oz [0, 1, 5]
 refine regS Hz (.assign rfl .nil) fun Az Hz => ?_
 refine rt1 Hz ?_
 first | exact ⟨k, rfl, by omega, by omega, m3.only [1, 2]⟩ | exact ⟨-1, rfl, by omega, by omega, m3.only [1, 2]⟩
theorem rDoAny (X : Cx) (x : VolV) (n : Nat) (hx : VolS n x) (hn : n ≤ 800000) (items : List (Int × List Int)) (pp pn pw : Option Addr) (cp cn9 cw : Nat) (pi : Option Addr) (ci : Nat) (kd v1 v2 v3 v4 v5 at0 ix : Int) (q1 : Option Addr) (n1 c1 : Nat) (w0 : World) (hil : items.length ≤ 1000000) (hio : ItsOk items) (hiy : ∀ e ∈ items, BytesL e.2) (m0 : MemOk X w0 [(1, .dat (.slice pp x.place.length cp) (.ns .i64 x.place)), (2, .dat (.slice pn x.pins.length cn9) (.ns .i64 x.pins)), (3, .dat (.slice pw (x.ws.map wrD).length cw) (.l 2 (x.ws.map wrD))), (4, .dat (.slice pi (items.map itD).length ci) (.l 2 (items.map itD)))] w0) :
   Calls Try.prog 62 #[.agg #[.int .i64 x.vo, .int .i64 x.bl, .int .i64 x.sz, .int .i64 x.pe, .slice pp x.place.length cp, .int .i64 x.to, .int .i64 x.ne, .bool x.hi, .int .i64 x.fl, .slice pn x.pins.length cn9, .slice pw (x.ws.map wrD).length cw], .agg #[.int .i64 kd, .int .i64 v1, .int .i64 v2, .int .i64 v3, .int .i64 v4, .slice q1 n1 c1, .int .i64 v5, .int .i64 at0, .int .i64 ix, .slice pi (items.map itD).length ci]] w0 fun e w' => ∃ (y : VolV) (e9 rl rf rn : Int) (p1 p2 p3 : Option Addr) (d1 d2 d3 : Nat), e = .returned (.tuple #[.agg #[.int .i64 y.vo, .int .i64 y.bl, .int .i64 y.sz, .int .i64 y.pe, .slice p1 y.place.length d1, .int .i64 y.to, .int .i64 y.ne, .bool y.hi, .int .i64 y.fl, .slice p2 y.pins.length d2, .slice p3 (y.ws.map wrD).length d3], .agg #[.int .i64 e9, .int .i64 rl, .int .i64 rf, .int .i64 rn, .slice none 0 0]]) ∧ y.vo = x.vo ∧ VolS (n + 1) y ∧ MemOk X w0 [(1, .dat (.slice p1 y.place.length d1) (.ns .i64 y.place)), (2, .dat (.slice p2 y.pins.length d2) (.ns .i64 y.pins)), (3, .dat (.slice p3 (y.ws.map wrD).length d3) (.l 2 (y.ws.map wrD)))] w' := by
 obtain ⟨h1, h2, h3, h4, h5⟩ := hx
 obtain ⟨vo, bl, sz, pe, place, to, ne, hi, fl, pins, ws⟩ := x
 simp only at *
 have hI : (items.map itD).length = items.length := List.length_map ..
 rw [hI] at m0 ⊢
 have hne : -1000000000000000 ≤ ne ∧ ne ≤ 1000000000000000 := by
   obtain ⟨⟨a1, a2, a3, a4, a5, a6, a7, a8, a9, a10, a11⟩, b1, b2, b3⟩ := h1
   omega
 by_cases k4 : kd = 4
 · subst k4
   refine (rDo4 X vo bl sz pe to ne fl hi place pins ws pp pn pw cp cn9 cw v1 v2 v3 v4 v5 at0 ix q1 n1 c1 pi items.length ci w0 (by omega) h1.sorted (m0.only [1, 2, 3])).mono ?_
   rintro e w' ⟨pins', e9, rl, rf, rn, p2, d2, rfl, hd, hr, m⟩
   obtain ⟨g1, g2, g3⟩ := h1.pin h2 hd
   exact ⟨⟨vo, bl, sz, pe, place, to, ne, hi, fl, pins', ws⟩, e9, rl, rf, rn, _, _, _, _, _, _, rfl, rfl, ⟨g1, g2, by simp only; omega, by simp only; omega, h5⟩, m.ren [(1, 1), (2, 6), (3, 3)] (by decide)⟩
 by_cases k5 : kd = 5
 · subst k5
   refine (rDo5 X vo bl sz pe to ne fl hi place pins ws pp pn pw cp cn9 cw v1 v2 v3 v4 v5 at0 ix q1 n1 c1 pi items.length ci w0 (by omega) (m0.only [1, 2, 3])).mono ?_
   rintro e w' ⟨pins', e9, rl, rf, rn, p2, d2, rfl, hd, hr, m⟩
   obtain ⟨g1, g2, g3⟩ := h1.unpin h2 hd
   exact ⟨⟨vo, bl, sz, pe, place, to, ne, hi, fl, pins', ws⟩, e9, rl, rf, rn, _, _, _, _, _, _, rfl, rfl, ⟨g1, g2, by simp only; omega, by simp only; omega, h5⟩, m.ren [(1, 1), (2, 6), (3, 3)] (by decide)⟩
 refine (rDo X vo bl sz pe to ne fl hi place pins ws items pp pn pw cp cn9 cw pi ci kd v1 v2 v3 v4 v5 at0 ix q1 n1 c1 w0 k4 k5 hne (by omega) (by omega) hil hio m0).mono ?_
 rintro e w' ⟨ne', hi', fl', ws', e9, rl, rf, rn, p3, d3, rfl, hd, hr, m⟩
 obtain ⟨g1, g2, g3⟩ := h1.do h2 hd
 exact ⟨⟨vo, bl, sz, pe, place, to, ne', hi', fl', pins, ws'⟩, e9, rl, rf, rn, _, _, _, _, _, _, rfl, rfl, ⟨g1, g2, by simp only; omega, by simp only; omega, doR_by hd h5 hiy⟩, m.ren [(1, 1), (2, 2), (3, 7)] (by decide)⟩
end Go.Proofs.Yteglmahnkfgelaa.K
end
section
namespace Go.Proofs.Yteglmahnkfgelaa.K
open Go.ChangeShapes Go.WideShapes Go.ChangeAt Go.RowKit
set_option linter.unusedVariables false
set_option linter.unusedSimpArgs false
theorem snoc32 {l : List (Int × List Int)} {k : Nat} {xb : Int} {xd : List Int} (h : ∀ j, j < k → (l.getD j i0).2.length ≤ 32) (hes : l[k]? = some (xb, xd)) (hk : xd.length ≤ 32) : ∀ j, j < k + 1 → (l.getD j i0).2.length ≤ 32 := fun j hj => by
 rcases Nat.lt_or_ge j k with h1 | h1
 · exact h j h1
 obtain rfl : j = k := by omega
 rw [getI hes]; exact hk
theorem all32 {l : List (Int × List Int)} (h : ∀ j, j < l.length → (l.getD j i0).2.length ≤ 32) : ∀ e ∈ l, e.2.length ≤ 32 := fun e he => by
 obtain ⟨j, hj, rfl⟩ := List.getElem_of_mem he
 have := h j hj
 rwa [List.getD, List.getElem?_eq_getElem hj] at this
set_option maxRecDepth 100000
set_option maxHeartbeats 4000000
theorem within16 (n : Int) (w0 : World) : Calls Try.prog 77 #[.int .i64 n] w0 fun e w' => ∃ b : Bool, e = .returned (.bool b) ∧ Below w0.heap.size w0 w' := by
 refine ent1 Try.func77 rfl Try.ntmps77 fun Az Hz => ?_
 have m0 := MemOk.start (fun _ => False) w0
 refine regS Hz (.assign rfl .nil) fun Az Hz => ?_
 refine zsr fun K0 hK0 => ?_
 refine goCh Hz (.move rfl <| .geq rfl rfl <| .move rfl .nil) fun Az Hz => ?_
 refine bc Hz 5 ?_ ?_
 ·
  intro hb8 Hz; try simp only [QQ, Qax] at hb8
  refine gz hK0 Hz (.moveZ rfl <| .leqZ rfl rfl <| .pickT rfl rfl <| .assign rfl <| .nil) fun Az Hz => ?_
  refine rt1 Hz ?_
  exact ⟨_, rfl, m0.below⟩
 intro hb8 Hz; try simp only [QQ, Qax] at hb8
 refine gz hK0 Hz (.sk <| .sk <| .pickF rfl rfl <| .assign rfl <| .nil) fun Az Hz => ?_
 refine rt1 Hz ?_
 exact ⟨_, rfl, m0.below⟩
theorem rcmdRight (kd vo bl sz pe to at0 ix : Int) (place : List Int) (items : List (Int × List Int)) (pp pi : Option Addr) (cp ni ci : Nat) (w0 : World) (h0 : Rd (fun _ => True) w0 (.slice pp place.length cp) (.ns .i64 place)) (h1 : Rd (fun _ => True) w0 (.slice pi ni ci) (.l 2 (items.map itD))) (hp : place.length ≤ 1000000) (hl : items.length ≤ 1000000) :
   Calls Try.prog 56 #[.agg #[.int .i64 kd, .int .i64 vo, .int .i64 bl, .int .i64 sz, .int .i64 pe, .slice pp place.length cp, .int .i64 to, .int .i64 at0, .int .i64 ix, .slice pi ni ci]] w0 fun e w' => ∃ b : Bool, e = .returned (.bool b) ∧ (b = true → place.length ≤ 256 ∧ items.length ≤ 8 ∧ ∀ e ∈ items, e.2.length ≤ 32) ∧ Below w0.heap.size w0 w' := by
 obtain rfl : ni = items.length := by obtain ⟨pq, c9, hv, _⟩ := h1.l_shape; injection hv with _ e2 _; rw [List.length_map] at e2; exact e2
 refine ent1 Try.func56 rfl Try.ntmps56 fun Az Hz => ?_
 have m0 := MemOk.start (fun _ => False) w0
 refine zsr fun K0 hK0 => ?_
 refine plz (e_box Hz m0 20 (cs := [_, _, _, _, _, _, _, _, _, _]) rfl rfl rfl fun g1 Az w2 Hz m2 _ _ => ?_)
 refine gz hK0 Hz (.assign rfl .nil) fun Az Hz => ?_
 refine wsk fun K1 hK1 => ?_
 refine zsr fun K2 hK2 => ?_
 refine goCh Hz (.fa 0 rfl U73 <| .lb m2 20 U3 rfl rfl rfl <| .lss rfl rfl <| .move rfl .nil) fun Az Hz => ?_
 refine bc Hz 8 ?_ ?_
 ·
  intro hb12 Hz; try simp only [QQ, Qax] at hb12
  refine gz hK2 Hz (.sk <| .sk <| .sk <| .pickT rfl rfl <| .move rfl <| .sk <| .sk <| .sk <| .pickT rfl rfl <| .move rfl <| .sk <| .sk <| .sk <| .pickT rfl rfl <| .move rfl <| .sk <| .sk <| .sk <| .sk <| .pickT rfl rfl <| .move rfl <| .sk <| .sk <| .sk <| .sk <| .pickT rfl rfl <| .move rfl <| .sk <| .sk <| .sk <| .sk <| .pickT rfl rfl <| .move rfl <| .sk <| .sk <| .sk <| .sk <| .pickT rfl rfl <| .move rfl <| .sk <| .sk <| .sk <| .sk <| .pickT rfl rfl <| .move rfl <| .sk <| .sk <| .sk <| .sk <| .pickT rfl rfl <| .move rfl <| .sk <| .sk <| .sk <| .sk <| .pickT rfl rfl <| .move rfl <| .sk <| .sk <| .sk <| .sk <| .pickT rfl rfl <| .nil) fun Az Hz => ?_
  refine wct Hz ?_
  replace Hz := Hz.oz [1, 2]
  refine regS Hz (.assign rfl .nil) fun Az Hz => ?_
  refine rt1 Hz ?_
  exact ⟨false, rfl, (fun h => by cases h), m2.below⟩
 intro hb12 Hz; try simp only [QQ, Qax] at hb12
 refine goCh Hz (.faZ 0 rfl U73 <| .loadB1Z m2 (i := 20) rfl rfl rfl U3 rfl <| .gtrZ rfl rfl <| .pickF rfl rfl <| .move rfl .nil) fun Az Hz => ?_
 refine bc Hz 13 ?_ ?_
 ·
  intro hb82 Hz; try simp only [QQ, Qax] at hb82
  refine gz hK2 Hz (.sk <| .sk <| .sk <| .pickT rfl rfl <| .move rfl <| .sk <| .sk <| .sk <| .pickT rfl rfl <| .move rfl <| .sk <| .sk <| .sk <| .sk <| .pickT rfl rfl <| .move rfl <| .sk <| .sk <| .sk <| .sk <| .pickT rfl rfl <| .move rfl <| .sk <| .sk <| .sk <| .sk <| .pickT rfl rfl <| .move rfl <| .sk <| .sk <| .sk <| .sk <| .pickT rfl rfl <| .move rfl <| .sk <| .sk <| .sk <| .sk <| .pickT rfl rfl <| .move rfl <| .sk <| .sk <| .sk <| .sk <| .pickT rfl rfl <| .move rfl <| .sk <| .sk <| .sk <| .sk <| .pickT rfl rfl <| .move rfl <| .sk <| .sk <| .sk <| .sk <| .pickT rfl rfl <| .nil) fun Az Hz => ?_
  refine wct Hz ?_
  replace Hz := Hz.oz [1, 2]
  refine regS Hz (.assign rfl .nil) fun Az Hz => ?_
  refine rt1 Hz ?_
  exact ⟨false, rfl, (fun h => by cases h), m2.below⟩
 intro hb82 Hz; try simp only [QQ, Qax] at hb82
 refine goCh Hz (.faZ 1 rfl U73 <| .loadB1Z m2 (i := 20) rfl rfl rfl U3 rfl <| .lssZ rfl rfl <| .pickF rfl rfl <| .move rfl .nil) fun Az Hz => ?_
 refine bc Hz 18 ?_ ?_
 ·
  intro hb147 Hz; try simp only [QQ, Qax] at hb147
  refine gz hK2 Hz (.sk <| .sk <| .sk <| .pickT rfl rfl <| .move rfl <| .sk <| .sk <| .sk <| .sk <| .pickT rfl rfl <| .move rfl <| .sk <| .sk <| .sk <| .sk <| .pickT rfl rfl <| .move rfl <| .sk <| .sk <| .sk <| .sk <| .pickT rfl rfl <| .move rfl <| .sk <| .sk <| .sk <| .sk <| .pickT rfl rfl <| .move rfl <| .sk <| .sk <| .sk <| .sk <| .pickT rfl rfl <| .move rfl <| .sk <| .sk <| .sk <| .sk <| .pickT rfl rfl <| .move rfl <| .sk <| .sk <| .sk <| .sk <| .pickT rfl rfl <| .move rfl <| .sk <| .sk <| .sk <| .sk <| .pickT rfl rfl <| .nil) fun Az Hz => ?_
  refine wct Hz ?_
  replace Hz := Hz.oz [1, 2]
  refine regS Hz (.assign rfl .nil) fun Az Hz => ?_
  refine rt1 Hz ?_
  exact ⟨false, rfl, (fun h => by cases h), m2.below⟩
 intro hb147 Hz; try simp only [QQ, Qax] at hb147
 refine goCh Hz (.faZ 1 rfl U73 <| .loadB1Z m2 (i := 20) rfl rfl rfl U3 rfl <| .geqZ rfl rfl <| .pickF rfl rfl <| .move rfl .nil) fun Az Hz => ?_
 refine bc Hz 23 ?_ ?_
 ·
  intro hb207 Hz; try simp only [QQ, Qax] at hb207
  refine gz hK2 Hz (.sk <| .sk <| .sk <| .sk <| .pickT rfl rfl <| .move rfl <| .sk <| .sk <| .sk <| .sk <| .pickT rfl rfl <| .move rfl <| .sk <| .sk <| .sk <| .sk <| .pickT rfl rfl <| .move rfl <| .sk <| .sk <| .sk <| .sk <| .pickT rfl rfl <| .move rfl <| .sk <| .sk <| .sk <| .sk <| .pickT rfl rfl <| .move rfl <| .sk <| .sk <| .sk <| .sk <| .pickT rfl rfl <| .move rfl <| .sk <| .sk <| .sk <| .sk <| .pickT rfl rfl <| .move rfl <| .sk <| .sk <| .sk <| .sk <| .pickT rfl rfl <| .nil) fun Az Hz => ?_
  refine wct Hz ?_
  replace Hz := Hz.oz [1, 2]
  refine regS Hz (.assign rfl .nil) fun Az Hz => ?_
  refine rt1 Hz ?_
  exact ⟨false, rfl, (fun h => by cases h), m2.below⟩
 intro hb207 Hz; try simp only [QQ, Qax] at hb207
 refine goCh Hz (.faZ 2 rfl U73 <| .loadB1Z m2 (i := 20) rfl rfl rfl U3 rfl .nil) fun Az Hz => ?_
 refine stz Hz (ecl Hz Try.func77 rfl (within16 _ _) ?_)
 rintro e w259 ⟨wb259, rfl, hb259⟩
 have m260 := m2.later hb259
 refine ⟨_, rfl, ?_⟩; intro Az Hz
 refine goCh Hz (.notZ rfl <| .pickF rfl rfl <| .move rfl .nil) fun Az Hz => ?_
 refine bc Hz 29 ?_ ?_
 ·
  intro hb265 Hz; try simp only [QQ, Qax] at hb265
  refine gz hK2 Hz (.sk <| .sk <| .sk <| .sk <| .pickT rfl rfl <| .move rfl <| .sk <| .sk <| .sk <| .sk <| .pickT rfl rfl <| .move rfl <| .sk <| .sk <| .sk <| .sk <| .pickT rfl rfl <| .move rfl <| .sk <| .sk <| .sk <| .sk <| .pickT rfl rfl <| .move rfl <| .sk <| .sk <| .sk <| .sk <| .pickT rfl rfl <| .move rfl <| .sk <| .sk <| .sk <| .sk <| .pickT rfl rfl <| .move rfl <| .sk <| .sk <| .sk <| .sk <| .pickT rfl rfl <| .nil) fun Az Hz => ?_
  refine wct Hz ?_
  replace Hz := Hz.oz [1, 2]
  refine regS Hz (.assign rfl .nil) fun Az Hz => ?_
  refine rt1 Hz ?_
  exact ⟨false, rfl, (fun h => by cases h), m260.below⟩
 intro hb265 Hz; try simp only [QQ, Qax] at hb265
 refine goCh Hz (.faZ 3 rfl U73 <| .loadB1Z m260 (i := 20) rfl rfl rfl U3 rfl .nil) fun Az Hz => ?_
 refine stz Hz (ecl Hz Try.func77 rfl (within16 _ _) ?_)
 rintro e w311 ⟨wb311, rfl, hb311⟩
 have m312 := m260.later hb311
 refine ⟨_, rfl, ?_⟩; intro Az Hz
 refine goCh Hz (.notZ rfl <| .pickF rfl rfl <| .move rfl .nil) fun Az Hz => ?_
 refine bc Hz 35 ?_ ?_
 ·
  intro hb317 Hz; try simp only [QQ, Qax] at hb317
  refine gz hK2 Hz (.sk <| .sk <| .sk <| .sk <| .pickT rfl rfl <| .move rfl <| .sk <| .sk <| .sk <| .sk <| .pickT rfl rfl <| .move rfl <| .sk <| .sk <| .sk <| .sk <| .pickT rfl rfl <| .move rfl <| .sk <| .sk <| .sk <| .sk <| .pickT rfl rfl <| .move rfl <| .sk <| .sk <| .sk <| .sk <| .pickT rfl rfl <| .move rfl <| .sk <| .sk <| .sk <| .sk <| .pickT rfl rfl <| .nil) fun Az Hz => ?_
  refine wct Hz ?_
  replace Hz := Hz.oz [1, 2]
  refine regS Hz (.assign rfl .nil) fun Az Hz => ?_
  refine rt1 Hz ?_
  exact ⟨false, rfl, (fun h => by cases h), m312.below⟩
 intro hb317 Hz; try simp only [QQ, Qax] at hb317
 refine goCh Hz (.faZ 4 rfl U73 <| .loadB1Z m312 (i := 20) rfl rfl rfl U3 rfl .nil) fun Az Hz => ?_
 refine stz Hz (ecl Hz Try.func77 rfl (within16 _ _) ?_)
 rintro e w357 ⟨wb357, rfl, hb357⟩
 have m358 := m312.later hb357
 refine ⟨_, rfl, ?_⟩; intro Az Hz
 refine goCh Hz (.notZ rfl <| .pickF rfl rfl <| .move rfl .nil) fun Az Hz => ?_
 refine bc Hz 41 ?_ ?_
 ·
  intro hb363 Hz; try simp only [QQ, Qax] at hb363
  refine gz hK2 Hz (.sk <| .sk <| .sk <| .sk <| .pickT rfl rfl <| .move rfl <| .sk <| .sk <| .sk <| .sk <| .pickT rfl rfl <| .move rfl <| .sk <| .sk <| .sk <| .sk <| .pickT rfl rfl <| .move rfl <| .sk <| .sk <| .sk <| .sk <| .pickT rfl rfl <| .move rfl <| .sk <| .sk <| .sk <| .sk <| .pickT rfl rfl <| .nil) fun Az Hz => ?_
  refine wct Hz ?_
  replace Hz := Hz.oz [1, 2]
  refine regS Hz (.assign rfl .nil) fun Az Hz => ?_
  refine rt1 Hz ?_
  exact ⟨false, rfl, (fun h => by cases h), m358.below⟩
 intro hb363 Hz; try simp only [QQ, Qax] at hb363
 refine goCh Hz (.faZ 6 rfl U73 <| .loadB1Z m358 (i := 20) rfl rfl rfl U3 rfl .nil) fun Az Hz => ?_
 refine stz Hz (ecl Hz Try.func77 rfl (within16 _ _) ?_)
 rintro e w397 ⟨wb397, rfl, hb397⟩
 have m398 := m358.later hb397
 refine ⟨_, rfl, ?_⟩; intro Az Hz
 refine goCh Hz (.notZ rfl <| .pickF rfl rfl <| .move rfl .nil) fun Az Hz => ?_
 refine bc Hz 47 ?_ ?_
 ·
  intro hb403 Hz; try simp only [QQ, Qax] at hb403
  refine gz hK2 Hz (.sk <| .sk <| .sk <| .sk <| .pickT rfl rfl <| .move rfl <| .sk <| .sk <| .sk <| .sk <| .pickT rfl rfl <| .move rfl <| .sk <| .sk <| .sk <| .sk <| .pickT rfl rfl <| .move rfl <| .sk <| .sk <| .sk <| .sk <| .pickT rfl rfl <| .nil) fun Az Hz => ?_
  refine wct Hz ?_
  replace Hz := Hz.oz [1, 2]
  refine regS Hz (.assign rfl .nil) fun Az Hz => ?_
  refine rt1 Hz ?_
  exact ⟨false, rfl, (fun h => by cases h), m398.below⟩
 intro hb403 Hz; try simp only [QQ, Qax] at hb403
 refine goCh Hz (.faZ 8 rfl U73 <| .loadB1Z m398 (i := 20) rfl rfl rfl U3 rfl .nil) fun Az Hz => ?_
 refine stz Hz (ecl Hz Try.func77 rfl (within16 _ _) ?_)
 rintro e w431 ⟨wb431, rfl, hb431⟩
 have m432 := m398.later hb431
 refine ⟨_, rfl, ?_⟩; intro Az Hz
 refine goCh Hz (.notZ rfl <| .pickF rfl rfl <| .move rfl .nil) fun Az Hz => ?_
 refine bc Hz 53 ?_ ?_
 ·
  intro hb437 Hz; try simp only [QQ, Qax] at hb437
  refine gz hK2 Hz (.sk <| .sk <| .sk <| .sk <| .pickT rfl rfl <| .move rfl <| .sk <| .sk <| .sk <| .sk <| .pickT rfl rfl <| .move rfl <| .sk <| .sk <| .sk <| .sk <| .pickT rfl rfl <| .nil) fun Az Hz => ?_
  refine wct Hz ?_
  replace Hz := Hz.oz [1, 2]
  refine regS Hz (.assign rfl .nil) fun Az Hz => ?_
  refine rt1 Hz ?_
  exact ⟨false, rfl, (fun h => by cases h), m432.below⟩
 intro hb437 Hz; try simp only [QQ, Qax] at hb437
 refine goCh Hz (.faZ 7 rfl U73 <| .loadB1Z m432 (i := 20) rfl rfl rfl U2 rfl .nil) fun Az Hz => ?_
 refine stz Hz (ecl Hz Try.func77 rfl (within16 _ _) ?_)
 rintro e w459 ⟨wb459, rfl, hb459⟩
 have m460 := m432.later hb459
 refine ⟨_, rfl, ?_⟩; intro Az Hz
 refine goCh Hz (.notZ rfl <| .pickF rfl rfl <| .move rfl .nil) fun Az Hz => ?_
 refine bc Hz 59 ?_ ?_
 ·
  intro hb465 Hz; try simp only [QQ, Qax] at hb465
  refine gz hK2 Hz (.sk <| .sk <| .sk <| .sk <| .pickT rfl rfl <| .move rfl <| .sk <| .sk <| .sk <| .sk <| .pickT rfl rfl <| .nil) fun Az Hz => ?_
  refine wct Hz ?_
  replace Hz := Hz.oz [1, 2]
  refine regS Hz (.assign rfl .nil) fun Az Hz => ?_
  refine rt1 Hz ?_
  exact ⟨false, rfl, (fun h => by cases h), m460.below⟩
 intro hb465 Hz; try simp only [QQ, Qax] at hb465
 refine goCh Hz (.faZ 5 rfl U73 <| .loadB1Z m460 (i := 20) rfl rfl rfl U24 rfl <| .lenZ rfl U24 <| .gtrZ rfl rfl <| .pickF rfl rfl <| .move rfl .nil) fun Az Hz => ?_
 refine bc Hz 65 ?_ ?_
 ·
  intro hb485 Hz; try simp only [QQ, Qax] at hb485
  refine gz hK2 Hz (.sk <| .sk <| .sk <| .sk <| .pickT rfl rfl <| .nil) fun Az Hz => ?_
  refine wct Hz ?_
  replace Hz := Hz.oz [1, 2]
  refine regS Hz (.assign rfl .nil) fun Az Hz => ?_
  refine rt1 Hz ?_
  exact ⟨false, rfl, (fun h => by cases h), m460.below⟩
 intro hb485 Hz; try simp only [QQ, Qax] at hb485
 refine gz hK2 Hz (.faZ 9 rfl U73 <| .loadB1Z m460 (i := 20) rfl rfl rfl U51 rfl <| .lenZ rfl U51 <| .gtrZ rfl rfl <| .pickF rfl rfl <| .nil) fun Az Hz => ?_
 refine bc Hz 70 ?_ ?_
 ·
  intro hb498 Hz; try simp only [QQ, Qax] at hb498
  refine wct Hz ?_
  replace Hz := Hz.oz [1, 2]
  refine regS Hz (.assign rfl .nil) fun Az Hz => ?_
  refine rt1 Hz ?_
  exact ⟨false, rfl, (fun h => by cases h), m460.below⟩
 intro hb498 Hz; try simp only [QQ, Qax] at hb498
 refine wcf Hz ?_
 refine zss (hK1 _ _ ?_)
 refine wsk fun K3 hK3 => ?_
 replace Hz := Hz.oz [1, 2]
 refine regS Hz (.assign rfl .nil) fun Az Hz => ?_
 refine wp_block ?_
 refine wp_loop_ghost (fun g a w => ∃ (k B : Nat), k ≤ place.length ∧ g = place.length - k ∧ Has 125 [(1, .pointer (some ⟨B, 0, none⟩)), (3, .int .i64 k)] a ∧ MemOk (cn w0) w0 [(9, .box B 73 [.int .i64 kd, .int .i64 vo, .int .i64 bl, .int .i64 sz, .int .i64 pe, .slice pp place.length cp, .int .i64 to, .int .i64 at0, .int .i64 ix, .slice pi items.length ci])] w) (place.length) ?_ ?_
 · exact ⟨0, _, Nat.zero_le _, rfl, Hz.only [1, 3], m460.ren [(9, 20)] (by decide)⟩
 clear Hz m460
 rintro g Az w503 ⟨k, B, hkl, hg, Hz, m503⟩
 refine wsk fun K4 hK4 => ?_
 refine regS Hz (.move rfl <| .fa 5 rfl U73 <| .lb m503 9 U24 rfl rfl rfl <| .len rfl U24 <| .lss rfl rfl .nil) fun Az Hz => ?_
 refine bc Hz 75 ?_ ?_
 ·
  intro hb509 Hz; try simp only [QQ, Qax] at hb509
  have hk : k < place.length := by omega
  refine wct Hz ?_
  refine zss (hK4 _ _ ?_)
  refine wsk fun K5 hK5 => ?_
  refine wp_block ?_
  refine zsr fun K6 hK6 => ?_
  refine goCh Hz (.fa 5 rfl U73 <| .lb m503 9 U24 rfl rfl rfl <| .move rfl .nil) fun Az Hz => ?_
  obtain ⟨gx517, ox517, hp517, hl517, hrg517⟩ := h0.extN (k) hk
  revert Hz
  cases hp517
  intro Hz
  refine goCh Hz (.c rfl (fun _ h => y_idx h rfl rfl U24 fct22 (k) rfl hk) <| .loadAt1 (hrg517 m503 rfl) (q := 0) rfl rfl rfl U3 rfl <| .lss rfl rfl <| .move rfl .nil) fun Az Hz => ?_
  refine bc Hz 84 ?_ ?_
  ·
   intro hb522 Hz; try simp only [QQ, Qax] at hb522
   refine gz hK6 Hz (.sk <| .sk <| .sk <| .sk <| .sk <| .sk <| .pickT rfl rfl <| .nil) fun Az Hz => ?_
   refine wct Hz ?_
   replace Hz := Hz.oz [1, 3]
   refine regS Hz (.assign rfl .nil) fun Az Hz => ?_
   refine rt1 Hz ?_
   exact ⟨false, rfl, (fun h => by cases h), m503.below⟩
  intro hb522 Hz; try simp only [QQ, Qax] at hb522
  refine goCh Hz (.faZ 5 rfl U73 <| .loadB1Z m503 (i := 9) rfl rfl rfl U24 rfl <| .moveZ rfl .nil) fun Az Hz => ?_
  obtain ⟨gx535, ox535, hp535, hl535, hrg535⟩ := h0.extN (k) hk
  revert Hz
  cases hp535
  intro Hz
  refine gz hK6 Hz (.g rfl rfl rfl rfl (fun _ h => y_idx h rfl rfl U24 fct22 (k) rfl hk) <| .loadAt1Z (hrg535 m503 rfl) (q := 0) rfl rfl rfl U3 rfl <| .geqZ rfl rfl <| .pickF rfl rfl <| .nil) fun Az Hz => ?_
  refine bc Hz 91 ?_ ?_
  ·
   intro hb540 Hz; try simp only [QQ, Qax] at hb540
   refine wct Hz ?_
   replace Hz := Hz.oz [1, 3]
   refine regS Hz (.assign rfl .nil) fun Az Hz => ?_
   refine rt1 Hz ?_
   exact ⟨false, rfl, (fun h => by cases h), m503.below⟩
  intro hb540 Hz; try simp only [QQ, Qax] at hb540
  refine wcf Hz ?_
  refine zss (hK5 _ _ ?_)
  replace Hz := Hz.oz [1, 3]
  refine wp_region_lit ?_
  refine goCh Hz (.move rfl <| .inc (k + 1) <| .assign rfl .nil) fun Az Hz => ?_
  refine wpList_nil ?_
  show ∃ n', n' < _ ∧ _
  exact ⟨place.length - (k + 1), by omega, k + 1, _, by omega, rfl, Hz.only [1, 3], m503.only [9]⟩
 intro hb509 Hz; try simp only [QQ, Qax] at hb509
 refine wcf Hz ?_
 refine wp_exit ?_
 refine hK3 _ _ ?_
 refine wsk fun K7 hK7 => ?_
 refine regS Hz (.assign rfl .nil) fun Az Hz => ?_
 refine wp_block ?_
 refine wp_loop_ghost (fun g a w => ∃ (k B : Nat), k ≤ items.length ∧ g = items.length - k ∧ (∀ j, j < k → (items.getD j i0).2.length ≤ 32) ∧ Has 125 [(1, .pointer (some ⟨B, 0, none⟩)), (4, .int .i64 k)] a ∧ MemOk (cn w0) w0 [(9, .box B 73 [.int .i64 kd, .int .i64 vo, .int .i64 bl, .int .i64 sz, .int .i64 pe, .slice pp place.length cp, .int .i64 to, .int .i64 at0, .int .i64 ix, .slice pi items.length ci])] w) (items.length) ?_ ?_
 · exact ⟨0, _, Nat.zero_le _, rfl, (fun j hj => by omega), Hz.only [1, 4], m503.ren [(9, 9)] (by decide)⟩
 clear Hz m503
 rintro g Az w548 ⟨k, B, hkl, hg, hall, Hz, m548⟩
 refine wsk fun K8 hK8 => ?_
 refine regS Hz (.move rfl <| .fa 9 rfl U73 <| .lb m548 9 U51 rfl rfl rfl <| .len rfl U51 <| .lss rfl rfl .nil) fun Az Hz => ?_
 refine bc Hz 96 ?_ ?_
 ·
  intro hb554 Hz; try simp only [QQ, Qax] at hb554
  have hk : k < items.length := by omega
  obtain ⟨⟨xb, xd⟩, hes⟩ : ∃ e, items[k]? = some e := ⟨_, List.getElem?_eq_getElem hk⟩
  refine wct Hz ?_
  refine zss (hK8 _ _ ?_)
  refine wsk fun K9 hK9 => ?_
  refine wp_block ?_
  refine zsr fun K10 hK10 => ?_
  refine goCh Hz (.fa 9 rfl U73 <| .lb m548 9 U51 rfl rfl rfl <| .move rfl .nil) fun Az Hz => ?_
  obtain ⟨gx562, ox562, vx562, hp562, hl562, hR562, hrg562⟩ := h1.extA (k) (r := [.v (.int .i64 xb), .ns .u8 xd]) (itD_get hes)
  revert Hz
  cases hp562
  rcases hR562 with _ | ⟨hd562_0, _ | ⟨hd562_1, _ | _⟩⟩
  obtain rfl := hd562_0.v_out
  clear hd562_0
  obtain ⟨p563, c563, hv563, hw563⟩ := hd562_1.ns_shape; subst hv563
  intro Hz
  refine goCh Hz (.c rfl (fun _ h => y_idx h rfl rfl U51 fct31 (k) rfl hk) <| .fieldAddrQ 0 rfl U50 rfl (s := 0) (by kernel_rfl) rfl <| .loadAt1 (hrg562 m548 rfl) (q := 0) rfl rfl rfl U3 rfl <| .lss rfl rfl <| .move rfl .nil) fun Az Hz => ?_
  refine bc Hz 106 ?_ ?_
  ·
   intro hb569 Hz; try simp only [QQ, Qax] at hb569
   refine gz hK10 Hz (.sk <| .sk <| .sk <| .sk <| .sk <| .sk <| .sk <| .pickT rfl rfl <| .move rfl <| .sk <| .sk <| .sk <| .sk <| .sk <| .sk <| .sk <| .sk <| .pickT rfl rfl <| .nil) fun Az Hz => ?_
   refine wct Hz ?_
   replace Hz := Hz.oz [1, 4]
   refine regS Hz (.assign rfl .nil) fun Az Hz => ?_
   refine rt1 Hz ?_
   exact ⟨false, rfl, (fun h => by cases h), m548.below⟩
  intro hb569 Hz; try simp only [QQ, Qax] at hb569
  refine goCh Hz (.faZ 9 rfl U73 <| .loadB1Z m548 (i := 9) rfl rfl rfl U51 rfl <| .moveZ rfl .nil) fun Az Hz => ?_
  obtain ⟨gx593, ox593, vx593, hp593, hl593, hR593, hrg593⟩ := h1.extA (k) (r := [.v (.int .i64 xb), .ns .u8 xd]) (itD_get hes)
  revert Hz
  cases hp593
  rcases hR593 with _ | ⟨hd593_0, _ | ⟨hd593_1, _ | _⟩⟩
  obtain rfl := hd593_0.v_out
  clear hd593_0
  obtain ⟨p594, c594, hv594, hw594⟩ := hd593_1.ns_shape; subst hv594
  intro Hz
  refine goCh Hz (.g rfl rfl rfl rfl (fun _ h => y_idx h rfl rfl U51 fct31 (k) rfl hk) <| .fieldAddrQZ 0 rfl U50 rfl (s := 0) (by kernel_rfl) rfl <| .loadAt1Z (hrg593 m548 rfl) (q := 0) rfl rfl rfl U3 rfl <| .geqZ rfl rfl <| .pickF rfl rfl <| .move rfl .nil) fun Az Hz => ?_
  refine bc Hz 115 ?_ ?_
  ·
   intro hb601 Hz; try simp only [QQ, Qax] at hb601
   refine gz hK10 Hz (.sk <| .sk <| .sk <| .sk <| .sk <| .sk <| .sk <| .sk <| .pickT rfl rfl <| .nil) fun Az Hz => ?_
   refine wct Hz ?_
   replace Hz := Hz.oz [1, 4]
   refine regS Hz (.assign rfl .nil) fun Az Hz => ?_
   refine rt1 Hz ?_
   exact ⟨false, rfl, (fun h => by cases h), m548.below⟩
  intro hb601 Hz; try simp only [QQ, Qax] at hb601
  refine goCh Hz (.faZ 9 rfl U73 <| .loadB1Z m548 (i := 9) rfl rfl rfl U51 rfl <| .moveZ rfl .nil) fun Az Hz => ?_
  obtain ⟨gx616, ox616, vx616, hp616, hl616, hR616, hrg616⟩ := h1.extA (k) (r := [.v (.int .i64 xb), .ns .u8 xd]) (itD_get hes)
  revert Hz
  cases hp616
  rcases hR616 with _ | ⟨hd616_0, _ | ⟨hd616_1, _ | _⟩⟩
  obtain rfl := hd616_0.v_out
  clear hd616_0
  obtain ⟨p617, c617, hv617, hw617⟩ := hd616_1.ns_shape; subst hv617
  intro Hz
  refine gz hK10 Hz (.g rfl rfl rfl rfl (fun _ h => y_idx h rfl rfl U51 fct31 (k) rfl hk) <| .fieldAddrQZ 1 rfl U50 rfl (s := 0) (by kernel_rfl) rfl <| .loadAt1Z (hrg616 m548 rfl) (q := 1) rfl rfl rfl U22 rfl <| .lenZ rfl U22 <| .gtrZ rfl rfl <| .pickF rfl rfl <| .nil) fun Az Hz => ?_
  refine bc Hz 124 ?_ ?_
  ·
   intro hb624 Hz; try simp only [QQ, Qax] at hb624
   refine wct Hz ?_
   replace Hz := Hz.oz [1, 4]
   refine regS Hz (.assign rfl .nil) fun Az Hz => ?_
   refine rt1 Hz ?_
   exact ⟨false, rfl, (fun h => by cases h), m548.below⟩
  intro hb624 Hz; try simp only [QQ, Qax] at hb624
  refine wcf Hz ?_
  refine zss (hK9 _ _ ?_)
  replace Hz := Hz.oz [1, 4]
  refine wp_region_lit ?_
  refine goCh Hz (.move rfl <| .inc (k + 1) <| .assign rfl .nil) fun Az Hz => ?_
  refine wpList_nil ?_
  show ∃ n', n' < _ ∧ _
  exact ⟨items.length - (k + 1), by omega, k + 1, _, by omega, rfl, snoc32 hall hes (by omega), Hz.only [1, 4], m548.only [9]⟩
 intro hb554 Hz; try simp only [QQ, Qax] at hb554
 have hk9 : k = items.length := by omega
 refine wcf Hz ?_
 refine wp_exit ?_
 refine hK7 _ _ ?_
 refine regS Hz (.assign rfl .nil) fun Az Hz => ?_
 refine rt1 Hz ?_
 exact ⟨true, rfl, (fun _ => ⟨by omega, by omega, all32 (by rw [hk9] at hall; exact hall)⟩), m548.below⟩
end Go.Proofs.Yteglmahnkfgelaa.K
end
section
namespace Go.Proofs.Yteglmahnkfgelaa.K
open Go.ChangeShapes Go.WideShapes Go.ChangeAt Go.RowKit
set_option linter.unusedVariables false
set_option linter.unusedSimpArgs false
set_option maxRecDepth 100000
set_option maxHeartbeats 4000000
theorem rputCmd (kd vo bl sz pe to at0 ix : Int) (place : List Int) (items : List (Int × List Int)) (pp pi : Option Addr) (cp ni ci : Nat) (w0 : World) (h0 : Rd (fun _ => True) w0 (.slice pp place.length cp) (.ns .i64 place)) (h1 : Rd (fun _ => True) w0 (.slice pi ni ci) (.l 2 (items.map itD))) (hp : place.length ≤ 1000000) (hl : items.length ≤ 1000000) (hib : ∀ e ∈ items, BytesL e.2) :
   Calls Try.prog 22 #[.agg #[.int .i64 kd, .int .i64 vo, .int .i64 bl, .int .i64 sz, .int .i64 pe, .slice pp place.length cp, .int .i64 to, .int .i64 at0, .int .i64 ix, .slice pi ni ci]] w0 fun e w' => ∃ (b : List Int) (p : Option Addr) (c : Nat) (e9 : Int), e = .returned (.tuple #[.slice p b.length c, .int .i64 e9]) ∧ b.length ≤ 20000 ∧ BytesL b ∧ Rd (New w0) w' (.slice p b.length c) (.ns .u8 b) ∧ Below w0.heap.size w0 w' := by
 obtain rfl : ni = items.length := by obtain ⟨pq, c9, hv, _⟩ := h1.l_shape; injection hv with _ e2 _; rw [List.length_map] at e2; exact e2
 refine ent1 Try.func22 rfl Try.ntmps22 fun Az Hz => ?_
 have m0 := MemOk.start (fun _ => False) w0
 refine zsr fun K0 hK0 => ?_
 refine plz (e_box Hz m0 20 (cs := [_, _, _, _, _, _, _, _, _, _]) rfl rfl rfl fun g1 Az w2 Hz m2 _ _ => ?_)
 refine gz hK0 Hz (.assign rfl <| .assign rfl <| .nil) fun Az Hz => ?_
 refine wsk fun K1 hK1 => ?_
 refine zsr fun K2 hK2 => ?_
 refine goCh Hz (.loadBR m2 (i := 20) rfl rfl U73 rfl fct18 (by simp) (by dsimp only [List.drop, List.take] <;> rfl) .nil) fun Az Hz => ?_
 refine plz (ecl Hz Try.func56 rfl (rcmdRight _ _ _ _ _ _ _ _ place items _ _ _ _ _ _ ((h0.now' m2 rfl).any) ((h1.now' m2 rfl).any) hp hl) ?_)
 rintro e w7 ⟨cb, rfl, hcb, hb7⟩
 have m8 := m2.later hb7
 refine ⟨_, rfl, ?_⟩; intro Az Hz
 refine gz hK2 Hz (.not rfl .nil) fun Az Hz => ?_
 refine bc Hz 7 ?_ ?_
 ·
  intro hb11 Hz; try simp only [QQ, Qax] at hb11
  refine wct Hz ?_
  refine regS Hz (.assign rfl <| .assign rfl .nil) fun Az Hz => ?_
  refine rt2 Hz ?_
  exact ⟨[], none, 0, 23, rfl, by simp, (fun _ h => by cases h), Rd.nilN _ _ .u8 none, m8.below⟩
 intro hb11 Hz; try simp only [QQ, Qax] at hb11
 have hcc := hcb (by simp_all)
 refine wcf Hz ?_
 refine zss (hK1 _ _ ?_)
 refine zsr fun K3 hK3 => ?_
 refine goCh Hz (.fa 0 rfl U73 <| .lb m8 20 U3 rfl rfl rfl <| .fa 1 rfl U73 <| .lb m8 20 U3 rfl rfl rfl <| .fa 2 rfl U73 <| .lb m8 20 U3 rfl rfl rfl <| .fa 3 rfl U73 <| .lb m8 20 U3 rfl rfl rfl <| .fa 4 rfl U73 <| .lb m8 20 U3 rfl rfl rfl <| .fa 6 rfl U73 <| .lb m8 20 U3 rfl rfl rfl <| .fa 7 rfl U73 <| .lb m8 20 U2 rfl rfl rfl <| .fa 8 rfl U73 <| .lb m8 20 U3 rfl rfl rfl .nil) fun Az Hz => ?_
 refine plz (e_litN Hz m8 21 (k := .i64) rfl rfl U25 fct25 rfl rfl rfl rfl fun g46 Az w47 Hz m47 => ?_)
 have m48 := m47.freezeN 21 rfl
 refine plz (ecl Hz Try.func57 rfl (rnums16 [kd, vo, bl, sz, pe, to, at0, ix] _ _ _ ((m48.rd (i := 21) rfl).any) (by simp)) ?_)
 rintro e w49 ⟨d0, p49, c49, rfl, hld0, hbd0, ho49, hb49⟩
 have m50 := m48.newN 22 hb49 ho49
 refine ⟨_, rfl, ?_⟩; intro Az Hz
 refine gz hK3 Hz (.assign rfl .nil) fun Az Hz => ?_
 refine wsk fun K4 hK4 => ?_
 replace Hz := Hz.oz [1, 2, 3, 4]
 have m54 := m50.oz [20, 21, 22]
 refine region_p 11 (B := [(20, _)]) (m54.to ⟨il, trivial⟩) m54 (by kernel_rfl) (fun w55 hP55 m55 => ?_); clear m54
 refine goR hP55 [0, 1, 2, 5, 6] [2, 6] 5 0 103 Hz (m55.to ⟨il, trivial⟩) (.move rfl <| .fa 5 rfl U73 <| .lb hh 20 U24 rfl rfl rfl <| .fa 9 rfl U73 <| .lb hh 20 U51 rfl rfl rfl .nil) fun Az Hz => ?_
 refine so 3 ?_
 refine ecl Hz Try.func58 rfl (rplace place _ _ _ ((h0.now' m55 rfl).any) hp) ?_
 rintro e w61 ⟨d1, p61, c61, rfl, hld1, hbd1, ho61, hb61⟩
 have m62 := m55.newN 23 hb61 ho61
 refine ⟨_, rfl, ?_⟩; intro Az Hz
 refine ⟨m62.to ⟨il, trivial⟩, ?_⟩
 refine so 4 ?_
 refine e_appN Hz m62 22 rfl rfl rfl (m62.numsO (i := 23) rfl) U22 fct0 (by decide) (by simp at hld0; omega) rfl fun p64 c64 Az w65 Hz m65 => ?_
 refine ⟨m65.to ⟨il, trivial⟩, ?_⟩
 refine so 7 ?_
 refine ecl Hz Try.func59 rfl (rputItems items _ _ _ _ ((h1.now' m65 rfl).any) (by omega) (fun e he => ⟨by have := hcc.2.2 e he; omega, hib e he⟩)) ?_
 rintro e w66 ⟨d2, p66, c66, rfl, hld2, hbd2, ho66, hb66⟩
 have m67 := m65.newN 24 hb66 ho66
 refine ⟨_, rfl, ?_⟩; intro Az Hz
 refine ⟨m67.to ⟨il, trivial⟩, ?_⟩
 refine so 8 ?_
 refine e_appN Hz m67 22 rfl rfl rfl (m67.numsO (i := 24) rfl) U22 fct0 (by decide) (by simp at hld0 ⊢; omega) rfl fun p69 c69 Az w70 Hz m70 => ?_
 refine ⟨m70.to ⟨il, trivial⟩, ?_⟩
 refine goA hP55 [9, 10] 2 511 2047 Hz (m70.to ⟨il, trivial⟩) (.assign rfl <| .assign rfl .nil) fun Az Hz => ?_
 refine wpAnyE_done (by kernel_rfl) ?_ _
 refine hK4 _ _ ?_
 refine rt2 Hz ?_
 have m73 := m70.freezeN 22 rfl
 exact ⟨d0 ++ d1 ++ d2, _, _, 0, rfl, by simp at hld0 ⊢; omega, bytes_app (bytes_app hbd0 hbd1) hbd2, m73.outF (i := 22) rfl, m73.below⟩
end Go.Proofs.Yteglmahnkfgelaa.K
end
section
namespace Go.Proofs.Yteglmahnkfgelaa.K
open Go.ChangeShapes Go.WideShapes Go.ChangeAt Go.RowKit
set_option linter.unusedVariables false
set_option linter.unusedSimpArgs false
theorem fl73rC : flatS Try.prog 73 [.int .i64 0, .int .i64 0, .int .i64 0, .int .i64 0, .int .i64 0, .slice none 0 0, .int .i64 0, .int .i64 0, .int .i64 0, .slice none 0 0] = true := by kernel_rfl
theorem fl145rC : flatS Try.prog 145 [.slice none 0 0, .int .i64 0] = true := by kernel_rfl
set_option maxRecDepth 100000
set_option maxHeartbeats 4000000
theorem rreadCmd (X : Cx) (b : List Int) (p : Option Addr) (c : Nat) (w0 : World) (hb : b.length ≤ 1000000) (hbb : BytesL b) (m0 : MemOk X w0 [(1, .dat (.slice p b.length c) (.ns .u8 b))] w0) :
   Calls Try.prog 61 #[.slice p b.length c] w0 fun e w' => ∃ (kd vo bl sz pe to at0 ix : Int) (place : List Int) (items : List (Int × List Int)) (pp : Option Addr) (cp : Nat) (pi : Option Addr) (ci : Nat) (er : Int), e = .returned (.tuple #[.agg #[.int .i64 kd, .int .i64 vo, .int .i64 bl, .int .i64 sz, .int .i64 pe, .slice pp place.length cp, .int .i64 to, .int .i64 at0, .int .i64 ix, .slice pi (items.map itD).length ci], .int .i64 er]) ∧ place.length ≤ 256 ∧ items.length ≤ 8 ∧ (∀ e ∈ items, e.2.length ≤ 32 ∧ BytesL e.2) ∧ MemOk X w0 [(1, .dat (.slice pp place.length cp) (.ns .i64 place)), (2, .dat (.slice pi (items.map itD).length ci) (.l 2 (items.map itD)))] w' := by
 refine ent1 Try.func61 rfl Try.ntmps61 fun Az Hz => ?_
 refine zsr fun K0 hK0 => ?_
 refine plz (e_alloc Hz m0 20 fct23 rfl fun g1 Az w2 Hz m2 _ _ => ?_)
 refine gz hK0 Hz (.assign rfl .nil) fun Az Hz => ?_
 refine zsr fun K1 hK1 => ?_
 refine goCh Hz (.move rfl <| .build rfl fct38 fl145rC rfl (by dsimp only [setL, List.set] <;> rfl) .nil) fun Az Hz => ?_
 refine plz (e_box Hz m2 21 (cs := [_, _]) rfl rfl rfl fun g8 Az w9 Hz m9 _ _ => ?_)
 refine gz hK1 Hz (.assign rfl .nil) fun Az Hz => ?_
 refine zsr fun K2 hK2 => ?_
 refine plz (e_alloc Hz m9 22 fct23 rfl fun g11 Az w12 Hz m12 _ _ => ?_)
 refine znl (hK2 _ _ ?_)
 refine zsr fun K3 hK3 => ?_
 refine goCh Hz (.move rfl .nil) fun Az Hz => ?_
 have m15 := m12.dat 23 rfl (m12.rd (i := 1) rfl)
 refine plz (ecl Hz Try.func82 rfl (rnum _ _ b _ 8 _ _ _ (by omega) hbb (by decide) (m15.into [(1, 21), (2, 23)] (by decide) rfl)) ?_)
 rintro e w16 ⟨kd, b1, p16, c16, er16, rfl, hukd, hlb1, hbb1, hm16⟩
 have mx16 := m15.back hm16 [(21, 1), (24, 2)] (by decide); clear hm16 m15
 have m16 := mx16.oz [21, 24, 1, 20, 22]
 refine ⟨_, rfl, ?_⟩; intro Az Hz
 refine goCh Hz (.conv rfl U101 U3 (IntWalk.i64_in _ (by omega)) <| .fa 0 rfl U73 .nil) fun Az Hz => ?_
 refine plz (st1 Hz m16 22 fct22 fun w20 m20 _ => ?_)
 refine znl (hK3 _ _ ?_)
 replace Hz := Hz.oz [0, 2, 3, 4, 5]
 refine zsr fun K4 hK4 => ?_
 refine goCh Hz (.move rfl .nil) fun Az Hz => ?_
 refine plz (ecl Hz Try.func82 rfl (rnum _ _ b1 _ 8 _ _ _ (by omega) hbb1 (by decide) (m20.into [(1, 21), (2, 24)] (by decide) rfl)) ?_)
 rintro e w24 ⟨vo, b2, p24, c24, er24, rfl, huvo, hlb2, hbb2, hm24⟩
 have mx24 := m20.back hm24 [(21, 1), (25, 2)] (by decide); clear hm24 m20
 have m24 := mx24.oz [21, 25, 1, 20, 22]
 refine ⟨_, rfl, ?_⟩; intro Az Hz
 refine goCh Hz (.conv rfl U101 U3 (IntWalk.i64_in _ (by omega)) <| .fa 1 rfl U73 .nil) fun Az Hz => ?_
 refine plz (st1 Hz m24 22 fct22 fun w28 m28 _ => ?_)
 refine znl (hK4 _ _ ?_)
 refine zsr fun K5 hK5 => ?_
 refine goCh Hz (.move rfl .nil) fun Az Hz => ?_
 refine plz (ecl Hz Try.func82 rfl (rnum _ _ b2 _ 1099511627776 _ _ _ (by omega) hbb2 (by decide) (m28.into [(1, 21), (2, 25)] (by decide) rfl)) ?_)
 rintro e w31 ⟨bl, b3, p31, c31, er31, rfl, hubl, hlb3, hbb3, hm31⟩
 have mx31 := m28.back hm31 [(21, 1), (26, 2)] (by decide); clear hm31 m28
 have m31 := mx31.oz [21, 26, 1, 20, 22]
 refine ⟨_, rfl, ?_⟩; intro Az Hz
 refine goCh Hz (.conv rfl U101 U3 (IntWalk.i64_in _ (by omega)) <| .fa 2 rfl U73 .nil) fun Az Hz => ?_
 refine plz (st1 Hz m31 22 fct22 fun w35 m35 _ => ?_)
 refine znl (hK5 _ _ ?_)
 replace Hz := Hz.oz [0, 2, 3, 4, 5]
 refine zsr fun K6 hK6 => ?_
 refine goCh Hz (.move rfl .nil) fun Az Hz => ?_
 refine plz (ecl Hz Try.func82 rfl (rnum _ _ b3 _ 1099511627776 _ _ _ (by omega) hbb3 (by decide) (m35.into [(1, 21), (2, 26)] (by decide) rfl)) ?_)
 rintro e w39 ⟨sz, b4, p39, c39, er39, rfl, husz, hlb4, hbb4, hm39⟩
 have mx39 := m35.back hm39 [(21, 1), (27, 2)] (by decide); clear hm39 m35
 have m39 := mx39.oz [21, 27, 1, 20, 22]
 refine ⟨_, rfl, ?_⟩; intro Az Hz
 refine goCh Hz (.conv rfl U101 U3 (IntWalk.i64_in _ (by omega)) <| .fa 3 rfl U73 .nil) fun Az Hz => ?_
 refine plz (st1 Hz m39 22 fct22 fun w43 m43 _ => ?_)
 refine znl (hK6 _ _ ?_)
 refine zsr fun K7 hK7 => ?_
 refine goCh Hz (.move rfl .nil) fun Az Hz => ?_
 refine plz (ecl Hz Try.func82 rfl (rnum _ _ b4 _ 1099511627776 _ _ _ (by omega) hbb4 (by decide) (m43.into [(1, 21), (2, 27)] (by decide) rfl)) ?_)
 rintro e w46 ⟨pe, b5, p46, c46, er46, rfl, hupe, hlb5, hbb5, hm46⟩
 have mx46 := m43.back hm46 [(21, 1), (28, 2)] (by decide); clear hm46 m43
 have m46 := mx46.oz [21, 28, 1, 20, 22]
 refine ⟨_, rfl, ?_⟩; intro Az Hz
 refine goCh Hz (.conv rfl U101 U3 (IntWalk.i64_in _ (by omega)) <| .fa 4 rfl U73 .nil) fun Az Hz => ?_
 refine plz (st1 Hz m46 22 fct22 fun w50 m50 _ => ?_)
 refine znl (hK7 _ _ ?_)
 replace Hz := Hz.oz [0, 2, 3, 4, 5]
 refine zsr fun K8 hK8 => ?_
 refine goCh Hz (.move rfl .nil) fun Az Hz => ?_
 refine plz (ecl Hz Try.func82 rfl (rnum _ _ b5 _ 1099511627776 _ _ _ (by omega) hbb5 (by decide) (m50.into [(1, 21), (2, 28)] (by decide) rfl)) ?_)
 rintro e w54 ⟨to, b6, p54, c54, er54, rfl, huto, hlb6, hbb6, hm54⟩
 have mx54 := m50.back hm54 [(21, 1), (29, 2)] (by decide); clear hm54 m50
 have m54 := mx54.oz [21, 29, 1, 20, 22]
 refine ⟨_, rfl, ?_⟩; intro Az Hz
 refine goCh Hz (.conv rfl U101 U3 (IntWalk.i64_in _ (by omega)) <| .fa 6 rfl U73 .nil) fun Az Hz => ?_
 refine plz (st1 Hz m54 22 fct22 fun w58 m58 _ => ?_)
 refine znl (hK8 _ _ ?_)
 refine zsr fun K9 hK9 => ?_
 refine goCh Hz (.move rfl .nil) fun Az Hz => ?_
 refine plz (ecl Hz Try.func82 rfl (rnum _ _ b6 _ 1099511627776 _ _ _ (by omega) hbb6 (by decide) (m58.into [(1, 21), (2, 29)] (by decide) rfl)) ?_)
 rintro e w61 ⟨at0, b7, p61, c61, er61, rfl, huat0, hlb7, hbb7, hm61⟩
 have mx61 := m58.back hm61 [(21, 1), (30, 2)] (by decide); clear hm61 m58
 have m61 := mx61.oz [21, 30, 1, 20, 22]
 refine ⟨_, rfl, ?_⟩; intro Az Hz
 refine goCh Hz (.conv rfl U101 U2 (IntWalk.i64_in _ (by omega)) <| .fa 7 rfl U73 .nil) fun Az Hz => ?_
 refine plz (st1 Hz m61 22 fct9 fun w65 m65 _ => ?_)
 refine znl (hK9 _ _ ?_)
 replace Hz := Hz.oz [0, 2, 3, 4, 5]
 refine zsr fun K10 hK10 => ?_
 refine goCh Hz (.move rfl .nil) fun Az Hz => ?_
 refine plz (ecl Hz Try.func82 rfl (rnum _ _ b7 _ 1099511627776 _ _ _ (by omega) hbb7 (by decide) (m65.into [(1, 21), (2, 30)] (by decide) rfl)) ?_)
 rintro e w69 ⟨ix, b8, p69, c69, er69, rfl, huix, hlb8, hbb8, hm69⟩
 have mx69 := m65.back hm69 [(21, 1), (31, 2)] (by decide); clear hm69 m65
 have m69 := mx69.oz [21, 31, 1, 20, 22]
 refine ⟨_, rfl, ?_⟩; intro Az Hz
 refine goCh Hz (.conv rfl U101 U3 (IntWalk.i64_in _ (by omega)) <| .fa 8 rfl U73 .nil) fun Az Hz => ?_
 refine plz (st1 Hz m69 22 fct22 fun w73 m73 _ => ?_)
 refine znl (hK10 _ _ ?_)
 refine zsr fun K11 hK11 => ?_
 refine goCh Hz (.move rfl .nil) fun Az Hz => ?_
 refine plz (ecl Hz Try.func83 rfl (rtakePlace _ _ b8 _ _ _ _ (by omega) hbb8 (m73.into [(1, 21), (2, 31)] (by decide) rfl)) ?_)
 rintro e w76 ⟨place, b9, p76, c76, er76, p376, c376, rfl, hpl, hlb9, hbb9, hm76⟩
 have mx76 := m73.back hm76 [(21, 1), (32, 2), (33, 3)] (by decide); clear hm76 m73
 have m76 := mx76.oz [21, 32, 33, 1, 20, 22]
 refine ⟨_, rfl, ?_⟩; intro Az Hz
 refine goCh Hz (.fieldAddr (off := 5) rfl U73 rfl (s := 0) (by kernel_rfl) rfl .nil) fun Az Hz => ?_
 refine plz (st1 Hz m76 22 fct37 fun w79 m79 _ => ?_)
 refine znl (hK11 _ _ ?_)
 replace Hz := Hz.oz [0, 2, 3, 4, 5]
 refine zsr fun K12 hK12 => ?_
 refine goCh Hz (.move rfl .nil) fun Az Hz => ?_
 refine plz (ecl Hz Try.func84 rfl (rtakeItems _ _ b9 _ _ _ _ (by omega) hbb9 (m79.into [(1, 21), (2, 32)] (by decide) rfl)) ?_)
 rintro e w83 ⟨items, b10, p83, c83, er83, p383, c383, rfl, hil, hii, hlb10, hbb10, hm83⟩
 have mx83 := m79.back hm83 [(21, 1), (34, 2), (35, 3)] (by decide); clear hm83 m79
 have m83 := mx83.oz [21, 34, 35, 1, 20, 22, 33]
 refine ⟨_, rfl, ?_⟩; intro Az Hz
 refine goCh Hz (.fieldAddr (off := 9) rfl U73 rfl (s := 0) (by kernel_rfl) rfl .nil) fun Az Hz => ?_
 refine plz (st1 Hz m83 22 fct11 fun w86 m86 _ => ?_)
 refine znl (hK12 _ _ ?_)
 refine zsr fun K13 hK13 => ?_
 refine goCh Hz (.loadBR m86 (i := 22) rfl rfl U73 rfl fct18 (by simp) (by dsimp only [List.drop, List.take] <;> rfl) .nil) fun Az Hz => ?_
 refine plz (ecl Hz Try.func22 rfl (rputCmd _ _ _ _ _ _ _ _ place items _ _ _ _ _ _ ((m86.rd (i := 33) rfl).any) ((m86.rd (i := 35) rfl).any) (by omega) (by omega) (fun e he => (hii e he).2)) ?_)
 rintro e w89 ⟨ob, p89, c89, e9, rfl, hol, hob, ho89, hb89⟩
 have m90 := m86.callD 36 rfl hb89 (ho89.cast (fun b hb => Or.inr hb))
 refine ⟨_, rfl, ?_⟩; intro Az Hz
 refine gz hK13 Hz (.move rfl <| .extract rfl rfl <| .extract rfl rfl <| .assign rfl <| .assign rfl <| .nil) fun Az Hz => ?_
 refine wsk fun K14 hK14 => ?_
 replace Hz := Hz.oz [0, 2, 3, 4, 5, 6, 7]
 refine zsr fun K15 hK15 => ?_
 refine goCh Hz (.move rfl <| .nilCheck rfl <| .fa 1 rfl U145 <| .lb m90 21 U3 rfl rfl rfl <| .neq rfl rfl <| .move rfl .nil) fun Az Hz => ?_
 refine bc Hz 59 ?_ ?_
 ·
  intro hb110 Hz; try simp only [QQ, Qax] at hb110
  refine gz hK15 Hz (.sk <| .sk <| .pickT rfl rfl <| .move rfl <| .sk <| .sk <| .sk <| .sk <| .sk <| .pickT rfl rfl <| .nil) fun Az Hz => ?_
  refine wct Hz ?_
  replace Hz := Hz.oz [2, 3, 5]
  refine zsr fun K16 hK16 => ?_
  refine goCh Hz (.build rfl fct23 fl73rC rfl (by dsimp only [setL, List.set] <;> rfl) .nil) fun Az Hz => ?_
  refine plz (stw Hz m90 20 fct18 fun w124 m124 _ => ?_)
  refine gz hK16 Hz (.assign rfl .nil) fun Az Hz => ?_
  refine rtd (retCT (fn := Try.f61) Hz m124 (i := 20) rfl rfl rfl rfl U73 rfl fct18 ?_)
  have mA := m124.dat 91 rfl (Rd.nilN _ _ .i64 none)
  have mB := mA.dat 92 rfl (Rd.l0 none 0 2)
  exact ⟨0, 0, 0, 0, 0, 0, 0, 0, [], [], none, 0, none, 0, _, rfl, by simp, by simp, (fun e h => by cases h), mB.ren [(1, 91), (2, 92)] (by decide)⟩
 intro hb110 Hz; try simp only [QQ, Qax] at hb110
 refine goCh Hz (.moveZ rfl <| .neqZ rfl rfl <| .pickF rfl rfl <| .move rfl .nil) fun Az Hz => ?_
 refine bc Hz 63 ?_ ?_
 ·
  intro hb130 Hz; try simp only [QQ, Qax] at hb130
  refine gz hK15 Hz (.sk <| .sk <| .sk <| .sk <| .sk <| .pickT rfl rfl <| .nil) fun Az Hz => ?_
  refine wct Hz ?_
  replace Hz := Hz.oz [2, 3, 5]
  refine zsr fun K17 hK17 => ?_
  refine goCh Hz (.build rfl fct23 fl73rC rfl (by dsimp only [setL, List.set] <;> rfl) .nil) fun Az Hz => ?_
  refine plz (stw Hz m90 20 fct18 fun w140 m140 _ => ?_)
  refine gz hK17 Hz (.assign rfl .nil) fun Az Hz => ?_
  refine rtd (retCT (fn := Try.f61) Hz m140 (i := 20) rfl rfl rfl rfl U73 rfl fct18 ?_)
  have mA := m140.dat 91 rfl (Rd.nilN _ _ .i64 none)
  have mB := mA.dat 92 rfl (Rd.l0 none 0 2)
  exact ⟨0, 0, 0, 0, 0, 0, 0, 0, [], [], none, 0, none, 0, _, rfl, by simp, by simp, (fun e h => by cases h), mB.ren [(1, 91), (2, 92)] (by decide)⟩
 intro hb130 Hz; try simp only [QQ, Qax] at hb130
 refine gz hK15 Hz (.moveZ rfl <| .strZ rfl (m90.nums (i := 36) rfl) U22 U5 U9 <| .moveZ rfl <| .strZ rfl (m90.nums (i := 1) rfl) U22 U5 U9 <| .neqSZ rfl rfl <| .pickF rfl rfl <| .nil) fun Az Hz => ?_
 refine bc Hz 69 ?_ ?_
 ·
  intro hb148 Hz; try simp only [QQ, Qax] at hb148
  refine wct Hz ?_
  replace Hz := Hz.oz [2, 3, 5]
  refine zsr fun K18 hK18 => ?_
  refine goCh Hz (.build rfl fct23 fl73rC rfl (by dsimp only [setL, List.set] <;> rfl) .nil) fun Az Hz => ?_
  refine plz (stw Hz m90 20 fct18 fun w152 m152 _ => ?_)
  refine gz hK18 Hz (.assign rfl .nil) fun Az Hz => ?_
  refine rtd (retCT (fn := Try.f61) Hz m152 (i := 20) rfl rfl rfl rfl U73 rfl fct18 ?_)
  have mA := m152.dat 91 rfl (Rd.nilN _ _ .i64 none)
  have mB := mA.dat 92 rfl (Rd.l0 none 0 2)
  exact ⟨0, 0, 0, 0, 0, 0, 0, 0, [], [], none, 0, none, 0, _, rfl, by simp, by simp, (fun e h => by cases h), mB.ren [(1, 91), (2, 92)] (by decide)⟩
 intro hb148 Hz; try simp only [QQ, Qax] at hb148
 refine wcf Hz ?_
 refine zss (hK14 _ _ ?_)
 replace Hz := Hz.oz [2, 3, 5]
 refine zsr fun K19 hK19 => ?_
 refine goCh Hz (.loadBR m90 (i := 22) rfl rfl U73 rfl fct18 (by simp) (by dsimp only [List.drop, List.take] <;> rfl) .nil) fun Az Hz => ?_
 refine plz (stw Hz m90 20 fct18 fun w157 m157 _ => ?_)
 refine gz hK19 Hz (.assign rfl .nil) fun Az Hz => ?_
 refine rtd (retCT (fn := Try.f61) Hz m157 (i := 20) rfl rfl rfl rfl U73 rfl fct18 ?_)
 exact ⟨kd, vo, bl, sz, pe, to, at0, ix, place, items, _, _, _, _, _, rfl, hpl, hil, hii, m157.ren [(1, 33), (2, 35)] (by decide)⟩
end Go.Proofs.Yteglmahnkfgelaa.K
end
section
namespace Go.Proofs.Yteglmahnkfgelaa.K
open Go.ChangeShapes Go.WideShapes Go.ChangeAt Go.RowKit
set_option linter.unusedVariables false
set_option linter.unusedSimpArgs false
section
variable {P : Program} {ops : Array Oper} {Q : Exit → Act → World → Prop} {md : Region.Mode} {listed : Array Bool} {fuel e : Nat} {S : World → Prop} {a : Act} {w : World}
theorem d_three (i j k : Nat) {oi oj ok : Oper} (hi : ops[i]? = some oi) (hj : ops[j]? = some oj) (hk : ops[k]? = some ok) (hr : Region.ready md ops listed = [i, j, k])
   (hwi : Region.wanted oi (Go.yielded ops a.tmps) = true) (hwj : Region.wanted oj (Go.yielded ops a.tmps) = true) (hwk : Region.wanted ok (Go.yielded ops a.tmps) = true)
   (h1 : ∀ K' : Act → World → Prop, (∀ a' w', ((listed.setIfInBounds i true).getD e false = false → S w') → wpAnyE P md ops Q e S fuel (listed.setIfInBounds i true) a' w' → K' a' w') → Oper.wp P oi a w K' Q)
   (h2 : ∀ K' : Act → World → Prop, (∀ a' w', ((listed.setIfInBounds j true).getD e false = false → S w') → wpAnyE P md ops Q e S fuel (listed.setIfInBounds j true) a' w' → K' a' w') → Oper.wp P oj a w K' Q)
   (h3 : ∀ K' : Act → World → Prop, (∀ a' w', ((listed.setIfInBounds k true).getD e false = false → S w') → wpAnyE P md ops Q e S fuel (listed.setIfInBounds k true) a' w' → K' a' w') → Oper.wp P ok a w K' Q) :
   wpAnyE P md ops Q e S (fuel + 1) listed a w := by
 refine ⟨fun h0 => absurd (hr ▸ h0) (by simp), fun q hq => ?_⟩
 rw [hr] at hq
 rcases List.mem_cons.1 hq with rfl | hq
 · refine wpOp_step hi (fun K' hK => ?_)
   rw [if_pos hwi]
   exact h1 K' (fun a' w' h hn => hK a' w' ⟨h, hn⟩)
 rcases List.mem_cons.1 hq with rfl | hq
 · refine wpOp_step hj (fun K' hK => ?_)
   rw [if_pos hwj]
   exact h2 K' (fun a' w' h hn => hK a' w' ⟨h, hn⟩)
 obtain rfl : q = k := by simpa using hq
 refine wpOp_step hk (fun K' hK => ?_)
 rw [if_pos hwk]
 exact h3 K' (fun a' w' h hn => hK a' w' ⟨h, hn⟩)
end
section
variable {P : Program} {n : Nat} {T : List (Nat × Value)} {a : Act} {w w0 : World} {X : Cx} {M : Mm} {tt : TypeId} {pos : String} {af : Array Edge} {gd : Option (Nat × Bool)} {Q : Exit → Act → World → Prop} {K : Act → World → Prop}
theorem e_storeRW (ha : Has n T a) (m : MemOk X w0 M w) (i : Nat) {g l c mm : Nat} {t e : TypeId} {x y : Operand} {rows : List (List D)} {xs : Array Value} {dd : List D} (hm : lk M i = some (.row (.slice (some ⟨g, 0, none⟩) l c) e mm rows)) (J : Nat) (hJ : J < rows.length) {q' : Nat} (hx : evT T x = some (.pointer (some ⟨g, q', none⟩))) (hq' : q' = 0 + J * mm) (hy : evT T y = some (.agg xs)) (hv : xs.toList.all (fun v => v.oneCell') = true) (hl : xs.size = mm) (hs : (P.info? t).map (·.size) = some xs.size) (hdd : RdL (Free X M) w xs.toList dd)
   (h : ∀ w', MemOk X w0 ((i, .row (.slice (some ⟨g, 0, none⟩) l c) e mm (rows.set J dd)) :: M) w' → K a w') : Oper.wp P ⟨none, .store t x y, tt, pos, af, gd⟩ a w K Q := by
 obtain ⟨cs, h1, h2, h3, h4, h5⟩ := m.ok i _ hm
 subst hq'
 have hJc : cs[J]? = some cs[J] := List.getElem?_eq_getElem (by omega)
 rcases h1.2 with ⟨e1, _⟩ | ⟨g', cap, cur, e1, hg', hbk, hnc, hcm, hcs, htk⟩
 · cases e1
 injection e1 with e1 e2 e3
 injection e1 with e1
 injection e1 with e1 e4
 subst e1; subst e2; subst e3
 obtain ⟨o, ho⟩ : ∃ o : Nat, o = 0 := ⟨0, rfl⟩
 have htk : (cur.toList.drop o).take (rows.length * mm) = cs.flatten := by rw [ho]; simpa using htk
 have hJm : J * mm + mm ≤ rows.length * mm := by
   calc J * mm + mm = (J + 1) * mm := by rw [Nat.add_mul]; omega
     _ ≤ rows.length * mm := Nat.mul_le_mul_right _ (by omega)
 have hcapm : rows.length * mm ≤ c * mm := Nat.mul_le_mul_right _ hnc
 have hb : Blk w g e cur.toList := by unfold Blk; rw [Array.toArray_toList]; exact hbk
 have hcl : cur.toList.length = cur.size := Array.length_toList
 have hxl : xs.toList.length = mm := by rw [Array.length_toList, hl]
 obtain ⟨w', hrn, hb', hk⟩ := run_storeVar_blk (P := P) hb (o + J * mm) t xs.toList (by rw [hxl]; omega) (by simpa using hs) (List.all_eq_true.1 hv)
 have hrun : (execOp a.eval ⟨none, .store t x y, tt, pos, af, gd⟩).run P w = .ok .skip w' := by
   have hr' : (Instr.storeAt t (.pointer (some ⟨g, J * mm, none⟩)) (.agg xs)).run P w = .ok () w' := by rw [ho, Nat.zero_add] at hrn; simpa using hrn
   have hx' : evT T x = some (.pointer (some ⟨g, J * mm, none⟩)) := by rw [hx, Nat.zero_add]
   simp [execOp, ha.ev hx', ha.ev hy, hr']
 show Oper.upon P _ a K Q _
 rw [hrun]
 rw [hxl] at hb'
 have hlen : (rows.set J dd).length = rows.length := List.length_set ..
 have hdl : dd.length = mm := by rw [← hdd.len, hxl]
 have hkeep : Keep (fun b => ∃ r, lk M i = some r ∧ r.blk = some b) w w' := (hk (fun b => b = g) rfl).mono (fun b e => ⟨_, hm, by rw [show b = g from e]; rfl⟩)
 refine h w' (m.upd i _ hkeep (fun b hb => .inl ⟨_, hm, hb⟩) (fun hf _ => ⟨cs.set J xs.toList, ?_, by rw [List.length_set, h2, hlen], fun c' hc' => ?_, fun r' hr' => ?_, fun j q2 c' r' x' d a1 a2 a3 a4 => ?_⟩))
 · have hfl : cs.flatten.length = rows.length * mm := h1.1
   rw [hlen, ← flatten_put xs.toList hxl cs J (fun c hc => (h3 c hc).1) (by omega)]
   refine ⟨by simp only [List.length_append, List.length_take, List.length_drop, hxl, hfl]; omega, .inr ⟨g, c, (cur.toList.take (o + J * mm) ++ xs.toList ++ cur.toList.drop (o + J * mm + mm)).toArray, rfl, hg', hb', hnc, hcm, ?_, ?_⟩⟩
   · simp only [List.size_toArray, List.length_append, List.length_take, List.length_drop, hxl, hcl]; omega
   rw [← htk]
   show List.take (rows.length * mm) (cur.toList.take (o + J * mm) ++ xs.toList ++ cur.toList.drop (o + J * mm + mm)) = _
   rw [show (cur.toList.take (o + J * mm) ++ xs.toList ++ cur.toList.drop (o + J * mm + mm)) = (cur.toList.take (o + J * mm) ++ xs.toList ++ cur.toList.drop (o + J * mm + mm)).drop o by rw [ho, List.drop_zero]]
   generalize rows.length * mm = N at *
   generalize J * mm = j at *
   apply List.ext_getElem?
   intro k
   rw [List.getElem?_take]
   by_cases hkN : k < N
   · rw [if_pos hkN, List.getElem?_drop]
     by_cases k1 : k < j
     · rw [List.getElem?_append_left (by simp; omega), List.getElem?_append_left (by simp; omega), List.getElem?_take_of_lt (by omega)]
       rw [List.getElem?_append_left (by simp; omega), List.getElem?_append_left (by simp; omega), List.getElem?_take_of_lt (by omega), List.getElem?_take_of_lt (by omega), List.getElem?_drop]
     by_cases k2 : k < j + mm
     · rw [List.getElem?_append_left (by simp; omega), List.getElem?_append_right (by simp; omega)]
       rw [List.getElem?_append_left (by simp; omega), List.getElem?_append_right (by simp; omega)]
       congr 1; simp; omega
     rw [List.getElem?_append_right (by simp; omega), List.getElem?_append_right (by simp; omega)]
     simp only [List.getElem?_drop, List.length_append, List.length_take, List.length_drop, hxl, hcl]
     rw [List.getElem?_take_of_lt (by omega), List.getElem?_drop]
     congr 1; omega
   rw [if_neg hkN, List.getElem?_eq_none]
   simp only [List.length_append, List.length_take, List.length_drop, hxl, hcl]
   omega
 · rcases List.mem_or_eq_of_mem_set hc' with hc' | rfl
   · exact h3 c' hc'
   exact ⟨hxl, List.all_eq_true.1 hv⟩
 · rcases List.mem_or_eq_of_mem_set hr' with hr' | rfl
   · exact h4 r' hr'
   exact hdl
 have hmono : ∀ b, b < w.heap.size → Free X M b → w'.heap[b]? = w.heap[b]? ∧ Free X ((i, Res.row (.slice (some ⟨g, 0, none⟩) rows.length c) e mm (rows.set J dd)) :: M) b := fun b hlt hF => ⟨(hk (fun b => b = g) rfl).2.2.2.2 b hlt (fun e => hF.2 ⟨i, _, hm, by rw [show b = g from e]; rfl⟩), hf b hlt hF⟩
 have hsz := hkeep.size
 by_cases hjJ : j = J
 · subst hjJ
   rw [List.getElem?_set_self (by omega)] at a1
   rw [List.getElem?_set_self (by omega)] at a2
   cases a1; cases a2
   exact (hdd.get _ _ _ a3 a4).mono hsz hmono
 rw [List.getElem?_set_ne (by omega)] at a1
 rw [List.getElem?_set_ne (by omega)] at a2
 exact (h5 j q2 c' r' x' d a1 a2 a3 a4).mono hsz hmono
end
section
variable {w w0 : World} {X : Cx} {M : Mm}
theorem MemOk.callF2 (m : MemOk X w0 M w) (i j : Nat) {w' : World} {u v : Value} {d e : D} (hi : lk M i = none) (hj : lk ((i, .dat u d) :: M) j = none) (hb : Below w.heap.size w w') (h1 : Rd (New w) w' u d) (h2 : Rd (New w) w' v e) : MemOk X w0 ((j, .dat v e) :: (i, .dat u d) :: M) w' :=
 (m.callF i hi hb h1).dat j hj (h2.cast (fun b hb => free_add rfl (m.free_out (.inr hb))))
theorem MemOk.callF3 (m : MemOk X w0 M w) (i j k : Nat) {w' : World} {u v t : Value} {d e f : D} (hi : lk M i = none) (hj : lk ((i, .dat u d) :: M) j = none) (hk : lk ((j, .dat v e) :: (i, .dat u d) :: M) k = none) (hb : Below w.heap.size w w') (h1 : Rd (New w) w' u d) (h2 : Rd (New w) w' v e) (h3 : Rd (New w) w' t f) : MemOk X w0 ((k, .dat t f) :: (j, .dat v e) :: (i, .dat u d) :: M) w' :=
 (m.callF2 i j hi hj hb h1 h2).dat k hk (h3.cast (fun b hb => free_add rfl (free_add rfl (m.free_out (.inr hb)))))
end
section
variable {P : Program} {ops : Array Oper} {Q : Exit → Act → World → Prop} {a : Act} {w : World} {md : Region.Mode} {e fuel : Nat} {S : World → Prop} {listed : Array Bool}
theorem dth (i j k : Nat) {oi oj ok : Oper} (h1 : Oper.wp P oi a w (fun a' w' => ((listed.setIfInBounds i true).getD e false = false → S w') ∧ wpAnyE P md ops Q e S fuel (listed.setIfInBounds i true) a' w') Q) (h2 : Oper.wp P oj a w (fun a' w' => ((listed.setIfInBounds j true).getD e false = false → S w') ∧ wpAnyE P md ops Q e S fuel (listed.setIfInBounds j true) a' w') Q) (h3 : Oper.wp P ok a w (fun a' w' => ((listed.setIfInBounds k true).getD e false = false → S w') ∧ wpAnyE P md ops Q e S fuel (listed.setIfInBounds k true) a' w') Q) (hi : ops[i]? = some oi := by rfl) (hj : ops[j]? = some oj := by rfl) (hk : ops[k]? = some ok := by rfl) (hr : Region.ready md ops listed = [i, j, k] := by kernel_rfl) (hwi : Region.wanted oi (Go.yielded ops a.tmps) = true := by rfl) (hwj : Region.wanted oj (Go.yielded ops a.tmps) = true := by rfl) (hwk : Region.wanted ok (Go.yielded ops a.tmps) = true := by rfl) : wpAnyE P md ops Q e S (fuel + 1) listed a w :=
  d_three i j k hi hj hk hr hwi hwj hwk (fun _ hK => Oper.wp_mono (fun a' w' h => hK a' w' h.1 h.2) h1) (fun _ hK => Oper.wp_mono (fun a' w' h => hK a' w' h.1 h.2) h2) (fun _ hK => Oper.wp_mono (fun a' w' h => hK a' w' h.1 h.2) h3)
end
end Go.Proofs.Yteglmahnkfgelaa.K
end
section
namespace Go.Proofs.Yteglmahnkfgelaa.K
open Go.ChangeShapes Go.WideShapes Go.ChangeAt Go.RowKit
set_option linter.unusedVariables false
set_option linter.unusedSimpArgs false
theorem fl28mV : flatS Try.prog 28 [.int .i64 0, .int .i64 0, .int .i64 0, .int .i64 0, .slice none 0 0, .int .i64 0, .int .i64 0, .bool false, .int .i64 0, .slice none 0 0, .slice none 0 0] = true := by kernel_rfl
theorem fl76mA : flatS Try.prog 76 [.int .i64 0, .int .i64 0, .int .i64 0, .int .i64 0, .slice none 0 0] = true := by kernel_rfl
def volZ : VolV := ⟨0, 0, 0, 0, [], 0, 0, false, 0, [], []⟩
def newV (vo bl sz pe to : Int) (place : List Int) : VolV := ⟨vo, bl, sz, pe, place, to, 0, decide (0 < to), 0, [], []⟩
theorem newV_s {n : Nat} {vo bl sz pe to : Int} {place : List Int} (hN : NewOk vo bl sz pe to place) : VolS n (newV vo bl sz pe to place) := ⟨VolR.new hN, fun _ => rfl, Nat.zero_le _, Nat.zero_le _, fun _ h => by cases h⟩
theorem Rd.capL {S : Nat → Prop} {w : World} {p : Option Addr} {l c m : Nat} {rows : List (List D)} (h : Rd S w (.slice p l c) (.l m rows)) : rows.length ≤ c := by
 obtain ⟨pq, cq, hv, hc⟩ := h.l_shape
 injection hv with _ _ e3; omega
theorem itok {d : List Int} (h : d.length ≤ 32) : d.length ≤ 140737488351232 := by omega
theorem rnew_non (kd vo bl sz pe to at0 ix : Int) (place : List Int) (pp pi : Option Addr) (cp ni ci : Nat) (w0 : World) (h0 : Rd (fun _ => True) w0 (.slice pp place.length cp) (.ns .i64 place)) (hn : place.length ≤ 1000000) (hN : ¬ NewOk vo bl sz pe to place) :
   Calls Try.prog 25 #[.agg #[.int .i64 kd, .int .i64 vo, .int .i64 bl, .int .i64 sz, .int .i64 pe, .slice pp place.length cp, .int .i64 to, .int .i64 at0, .int .i64 ix, .slice pi ni ci]] w0 fun e w' => e = .returned (.tuple #[.agg #[.int .i64 0, .int .i64 0, .int .i64 0, .int .i64 0, .slice none 0 0, .int .i64 0, .int .i64 0, .bool false, .int .i64 0, .slice none 0 0, .slice none 0 0], .int .i64 23]) ∧ Below w0.heap.size w0 w' :=
 (rnew_any kd vo bl sz pe to at0 ix place pp pi cp ni ci w0 h0 hn).mono (fun _ _ h => h.elim (fun h => absurd h.1 hN) (fun h => h.2))
set_option maxRecDepth 100000
set_option maxHeartbeats 4000000
theorem rmVol (X : Cx) (B : Nat) (L : List VolV) (p : Option Addr) (c : Nat) (vo : Int) (w0 : World) (hl : L.length ≤ 1000000) (m0 : MemOk X w0 [(1, .box B 67 [.slice p (L.map volD).length c]), (2, .dat (.slice p (L.map volD).length c) (.l 11 (L.map volD)))] w0) :
   Calls Try.prog 21 #[.pointer (some ⟨B, 0, none⟩), .int .i64 vo] w0 fun e w' => ∃ (x : VolV) (there : Bool) (p1 p2 p3 : Option Addr) (d1 d2 d3 : Nat), e = .returned (.tuple #[.agg #[.int .i64 x.vo, .int .i64 x.bl, .int .i64 x.sz, .int .i64 x.pe, .slice p1 x.place.length d1, .int .i64 x.to, .int .i64 x.ne, .bool x.hi, .int .i64 x.fl, .slice p2 x.pins.length d2, .slice p3 (x.ws.map wrD).length d3], .bool there]) ∧ (there = true → x ∈ L) ∧ (there = false → x = volZ) ∧ MemOk X w0 [(1, .box B 67 [.slice p (L.map volD).length c]), (2, .dat (.slice p (L.map volD).length c) (.l 11 (L.map volD))), (3, .dat (.slice p1 x.place.length d1) (.ns .i64 x.place)), (4, .dat (.slice p2 x.pins.length d2) (.ns .i64 x.pins)), (5, .dat (.slice p3 (x.ws.map wrD).length d3) (.l 2 (x.ws.map wrD)))] w' := by
 refine ent2 Try.func21 rfl Try.ntmps21 fun Az Hz => ?_
 refine zsr fun K0 hK0 => ?_
 refine plz (e_alloc Hz m0 20 fct20 rfl fun g1 Az w2 Hz m2 _ _ => ?_)
 refine gz hK0 Hz (.assign rfl .nil) fun Az Hz => ?_
 refine zsr fun K1 hK1 => ?_
 refine goCh Hz (.move rfl <| .move rfl .nil) fun Az Hz => ?_
 refine plz (ecl Hz Try.func55 rfl (rfind _ _ L _ _ _ _ hl (m2.into [(1, 1), (2, 2)] (by decide) rfl)) ?_)
 rintro e w8 ⟨j, rfl, hj1, hj2, hm8⟩
 have mx8 := m2.back hm8 [(1, 1), (2, 2)] (by decide); clear hm8 m2
 have m8 := mx8.oz [1, 2, 20]
 refine ⟨_, rfl, ?_⟩; intro Az Hz
 refine gz hK1 Hz (.assign rfl .nil) fun Az Hz => ?_
 refine wsk fun K2 hK2 => ?_
 refine regS Hz (.move rfl <| .lss rfl rfl .nil) fun Az Hz => ?_
 refine bc Hz 11 ?_ ?_
 ·
  intro hb13 Hz; try simp only [QQ, Qax] at hb13
  refine wct Hz ?_
  replace Hz := Hz.oz [0, 4, 5, 6]
  refine zsr fun K3 hK3 => ?_
  refine goCh Hz (.build rfl fct20 fl28mV rfl (by dsimp only [setL, List.set] <;> rfl) .nil) fun Az Hz => ?_
  refine plz (stw Hz m8 20 fct17 fun w17 m17 _ => ?_)
  refine gz hK3 Hz (.assign rfl .nil) fun Az Hz => ?_
  refine rtd (retCT (fn := Try.f21) Hz m17 (i := 20) rfl rfl rfl rfl U28 rfl fct17 ?_)
  have mA := m17.dat 91 rfl (Rd.nilN _ _ .i64 none)
  have mB := mA.dat 92 rfl (Rd.nilN _ _ .i64 none)
  have mC := mB.dat 93 rfl (Rd.l0 none 0 2)
  exact ⟨volZ, false, _, _, _, _, _, _, rfl, (fun h => by cases h), (fun _ => rfl), mC.ren [(1, 1), (2, 2), (3, 91), (4, 92), (5, 93)] (by decide)⟩
 intro hb13 Hz; try simp only [QQ, Qax] at hb13
 revert Hz
 obtain ⟨jn, rfl⟩ : ∃ jn : Nat, j = (jn : Int) := ⟨j.toNat, by omega⟩
 intro Hz
 have hjl : jn < L.length := by omega
 obtain ⟨x, hes⟩ : ∃ x, L[jn]? = some x := ⟨_, List.getElem?_eq_getElem hjl⟩
 refine wcf Hz ?_
 refine zss (hK2 _ _ ?_)
 replace Hz := Hz.oz [0, 4, 5, 6]
 refine zsr fun K4 hK4 => ?_
 refine goCh Hz (.move rfl <| .nilCheck rfl <| .fa 0 rfl U67 <| .lb m8 1 U65 rfl rfl rfl <| .move rfl .nil) fun Az Hz => ?_
 obtain ⟨b31, o31, vs31, hp31, hR31, ho31, m31⟩ := m8.openR (i := 2) rfl (jn) (r := [.v (.int .i64 x.vo), .v (.int .i64 x.bl), .v (.int .i64 x.sz), .v (.int .i64 x.pe), .ns .i64 x.place, .v (.int .i64 x.to), .v (.int .i64 x.ne), .v (.bool x.hi), .v (.int .i64 x.fl), .ns .i64 x.pins, .l 2 (x.ws.map wrD)]) (volD_get hes) 21 rfl
 revert Hz
 cases hp31; clear m8 ho31
 rcases hR31 with _ | ⟨hd31_0, _ | ⟨hd31_1, _ | ⟨hd31_2, _ | ⟨hd31_3, _ | ⟨hd31_4, _ | ⟨hd31_5, _ | ⟨hd31_6, _ | ⟨hd31_7, _ | ⟨hd31_8, _ | ⟨hd31_9, _ | ⟨hd31_10, _ | _⟩⟩⟩⟩⟩⟩⟩⟩⟩⟩⟩
 obtain rfl := hd31_0.v_out
 clear hd31_0
 obtain rfl := hd31_1.v_out
 clear hd31_1
 obtain rfl := hd31_2.v_out
 clear hd31_2
 obtain rfl := hd31_3.v_out
 clear hd31_3
 obtain ⟨p32, c32, hv32, hc32⟩ := hd31_4.ns_shape; subst hv32
 intro Hz
 have m32 := m31.dat 22 rfl (hd31_4.cast (fun _ h => (free_add rfl h))); clear m31 hd31_4
 revert Hz
 obtain rfl := hd31_5.v_out
 clear hd31_5
 obtain rfl := hd31_6.v_out
 clear hd31_6
 obtain rfl := hd31_7.v_out
 clear hd31_7
 obtain rfl := hd31_8.v_out
 clear hd31_8
 obtain ⟨p33, c33, hv33, hc33⟩ := hd31_9.ns_shape; subst hv33
 intro Hz
 have m33 := m32.dat 23 rfl (hd31_9.cast (fun _ h => (free_add rfl (free_add rfl h)))); clear m32 hd31_9
 revert Hz
 obtain ⟨p34, c34, hv34, hc34⟩ := hd31_10.l_shape; subst hv34
 intro Hz
 have m34 := m33.dat 24 rfl (hd31_10.cast (fun _ h => (free_add rfl (free_add rfl (free_add rfl h))))); clear m33 hd31_10
 refine goCh Hz (.c rfl (fun _ h => y_idx h rfl rfl U65 fct17 (jn) rfl (by simpa using hjl)) <| .loadCR m34 (i := 21) rfl rfl U28 rfl fct17 .nil) fun Az Hz => ?_
 refine plz (stw Hz m34 20 fct17 fun w37 m37 _ => ?_)
 refine gz hK4 Hz (.assign rfl .nil) fun Az Hz => ?_
 refine rtd (retCT (fn := Try.f21) Hz m37 (i := 20) rfl rfl rfl rfl U28 rfl fct17 ?_)
 exact ⟨x, true, _, _, _, _, _, _, rfl, (fun _ => List.mem_of_getElem? hes), (fun h => by cases h), m37.ren [(1, 1), (2, 2), (3, 22), (4, 23), (5, 24)] (by decide)⟩
theorem rmApply (X : Cx) (B n : Nat) (L : List VolV) (p : Option Addr) (c : Nat) (b : List Int) (pb : Option Addr) (cb : Nat) (w0 : World) (hM : MacS n L) (hn : n ≤ 800000) (hb : b.length ≤ 1000000) (hbb : BytesL b) (m0 : MemOk X w0 [(1, .box B 67 [.slice p (L.map volD).length c]), (2, .dat (.slice p (L.map volD).length c) (.l 11 (L.map volD))), (3, .dat (.slice pb b.length cb) (.ns .u8 b))] w0) :
   Calls Try.prog 24 #[.pointer (some ⟨B, 0, none⟩), .slice pb b.length cb] w0 fun e w' => ∃ (e9 rl rf rn : Int) (L' : List VolV) (p' : Option Addr) (c' : Nat), e = .returned (.agg #[.int .i64 e9, .int .i64 rl, .int .i64 rf, .int .i64 rn, .slice none 0 0]) ∧ MacS (n + 1) L' ∧ MemOk X w0 [(1, .box B 67 [.slice p' (L'.map volD).length c']), (2, .dat (.slice p' (L'.map volD).length c') (.l 11 (L'.map volD)))] w' := by
 refine ent2 Try.func24 rfl Try.ntmps24 fun Az Hz => ?_
 have hl : L.length ≤ 1000000 := by have := hM.1; omega
 have hlm : (L.map volD).length ≤ 1000000 := by simpa using hl
 refine zsr fun K0 hK0 => ?_
 refine plz (e_alloc Hz m0 20 fct21 rfl fun g1 Az w2 Hz m2 _ _ => ?_)
 refine znl (hK0 _ _ ?_)
 refine zsr fun K1 hK1 => ?_
 refine goCh Hz (.move rfl .nil) fun Az Hz => ?_
 refine plz (ecl Hz Try.func61 rfl (rreadCmd _ b _ _ _ hb hbb (m2.into [(1, 3)] (by decide) rfl)) ?_)
 rintro e w5 ⟨kd, vo, bl, sz, pe, to, at0, ix, place, items, pp5, cp5, pi5, ci5, er, rfl, hpl, hil, hii, hm5⟩
 have mx5 := m2.back hm5 [(21, 1), (22, 2)] (by decide); clear hm5 m2
 have m5 := mx5.oz [21, 22, 1, 2, 20]
 refine ⟨_, rfl, ?_⟩; intro Az Hz
 refine goCh Hz (.move rfl <| .extract rfl rfl <| .extract rfl rfl .nil) fun Az Hz => ?_
 refine plz (e_alloc Hz m5 23 fct23 rfl fun g10 Az w11 Hz m11 _ _ => ?_)
 refine plz (stw Hz m11 23 fct18 fun w12 m12 _ => ?_)
 refine gz hK1 Hz (.assign rfl .nil) fun Az Hz => ?_
 refine wsk fun K2 hK2 => ?_
 replace Hz := Hz.oz [0, 4, 5, 6]
 refine regS Hz (.move rfl <| .neq rfl rfl .nil) fun Az Hz => ?_
 refine bc Hz 19 ?_ ?_
 ·
  intro hb17 Hz; try simp only [QQ, Qax] at hb17
  refine wct Hz ?_
  refine zsr fun K3 hK3 => ?_
  refine goCh Hz (.build rfl fct21 fl76mA rfl (by dsimp only [setL, List.set] <;> rfl) .nil) fun Az Hz => ?_
  refine plz (stw Hz m12 20 fct19 fun w20 m20 _ => ?_)
  refine znl (hK3 _ _ ?_)
  refine rtd (retC (fn := Try.f24) Hz m20 (i := 20) rfl rfl rfl U76 rfl fct19 ?_)
  exact ⟨_, _, _, _, L, _, _, rfl, hM.up (by omega), m20.only [1, 2]⟩
 intro hb17 Hz; try simp only [QQ, Qax] at hb17
 refine wcf Hz ?_
 refine zss (hK2 _ _ ?_)
 refine zsr fun K4 hK4 => ?_
 refine goCh Hz (.move rfl <| .fa 1 rfl U73 <| .lb m12 23 U3 rfl rfl rfl .nil) fun Az Hz => ?_
 refine plz (ecl Hz Try.func55 rfl (rfind _ _ L _ _ _ _ hl (m12.into [(1, 1), (2, 2)] (by decide) rfl)) ?_)
 rintro e w27 ⟨j, rfl, hj1, hj2, hm27⟩
 have mx27 := m12.back hm27 [(1, 1), (2, 2)] (by decide); clear hm27 m12
 have m27 := mx27.oz [1, 2, 20, 21, 22, 23]
 refine ⟨_, rfl, ?_⟩; intro Az Hz
 refine gz hK4 Hz (.assign rfl .nil) fun Az Hz => ?_
 replace Hz := Hz.oz [0, 4, 5, 7]
 refine zsr fun K5 hK5 => ?_
 refine goCh Hz (.move rfl <| .nilCheck rfl <| .fa 0 rfl U67 <| .lb m27 1 U65 rfl rfl rfl .nil) fun Az Hz => ?_
 have m39 := m27.nilR 24 28 11
 refine plz (e_appR Hz m39 24 rfl rfl rfl (m39.rd (i := 2) rfl) U65 fct46 rfl rfl (by decide) (by simp; omega) rfl fun p40 c40 Az w41 Hz m41 => ?_)
 refine gz hK5 Hz (.assign rfl .nil) fun Az Hz => ?_
 refine wsk fun K6 hK6 => ?_
 refine regS Hz (.fa 0 rfl U73 <| .lb m41 23 U3 rfl rfl rfl <| .eql rfl rfl .nil) fun Az Hz => ?_
 refine bc Hz 32 ?_ ?_
 ·
  intro hb46 Hz; try simp only [QQ, Qax] at hb46
  have hkd : kd = 1 := by simpa using hb46
  refine wct Hz ?_
  refine wsk fun K7 hK7 => ?_
  replace Hz := Hz.oz [0, 4, 5, 7, 8]
  refine zsr fun K8 hK8 => ?_
  have m49 := m41.freezeR 24 rfl
  refine gz hK8 Hz (.move rfl <| .geq rfl rfl <| .nil) fun Az Hz => ?_
  refine bc Hz 34 ?_ ?_
  ·
   intro hb52 Hz; try simp only [QQ, Qax] at hb52
   refine wct Hz ?_
   refine zsr fun K9 hK9 => ?_
   refine goCh Hz (.build rfl fct21 fl76mA rfl (by dsimp only [setL, List.set] <;> rfl) .nil) fun Az Hz => ?_
   refine plz (stw Hz m49 20 fct19 fun w55 m55 _ => ?_)
   refine znl (hK9 _ _ ?_)
   refine rtd (retC (fn := Try.f24) Hz m55 (i := 20) rfl rfl rfl U76 rfl fct19 ?_)
   exact ⟨_, _, _, _, L, _, _, rfl, hM.up (by omega), m55.only [1, 2]⟩
  intro hb52 Hz; try simp only [QQ, Qax] at hb52
  refine wcf Hz ?_
  refine zss (hK7 _ _ ?_)
  refine wsk fun K10 hK10 => ?_
  by_cases hN : NewOk vo bl sz pe to place
  ·
   refine wp_region_lit ?_
   refine goCh Hz (.loadBR m49 (i := 23) rfl rfl U73 rfl fct18 (by simp) (by dsimp only [List.drop, List.take] <;> rfl) .nil) fun Az Hz => ?_
   refine plz (ecl Hz Try.func25 rfl (rnew_yes _ vo bl sz pe to _ _ place _ _ _ _ _ _ ((m49.rd (i := 21) rfl).any) (by omega) hN) ?_)
   rintro e w57 ⟨p57, c57, rfl, hd57, hb57⟩
   have m58 := m49.callF 25 rfl hb57 hd57
   refine ⟨_, rfl, ?_⟩; intro Az Hz
   refine goCh Hz (.move rfl <| .extract rfl rfl <| .extract rfl rfl .nil) fun Az Hz => ?_
   refine plz (e_alloc Hz m58 26 fct20 rfl fun g63 Az w64 Hz m64 _ _ => ?_)
   refine plz (stw Hz m64 26 fct17 fun w65 m65 _ => ?_)
   refine gz hK10 Hz (.assign rfl .nil) fun Az Hz => ?_
   refine wsk fun K11 hK11 => ?_
   replace Hz := Hz.oz [0, 4, 5, 7, 8, 9, 10]
   refine regS Hz (.move rfl <| .neq rfl rfl .nil) fun Az Hz => ?_
   refine bc Hz 42 ?_ ?_
   · intro hb _; exact absurd hb (by simp)
   clear Hz; intro _ Hz
   refine wcf Hz ?_
   refine zss (hK11 _ _ ?_)
   refine regS Hz (.assign rfl .nil) fun Az Hz => ?_
   refine wsk fun K12 hK12 => ?_
   refine wp_block ?_
   refine wp_loop_ghost (fun g a w => ∃ (k B4 B5 B9 c8 c9 n1 d1 n2 d2 : Nat) (p8 p9 q1 q2 : Option Addr), k ≤ (L.map volD).length ∧ g = (L.map volD).length - k ∧ Has 97 [(0, .pointer (some ⟨B, 0, none⟩)), (4, .pointer (some ⟨B4, 0, none⟩)), (5, .pointer (some ⟨B5, 0, none⟩)), (7, .int .i64 k), (8, .slice p8 (L.map volD).length c8), (9, .pointer (some ⟨B9, 0, none⟩))] a ∧ MemOk X w0 [(1, .box B 67 [.slice p (L.map volD).length c]), (2, .dat (.slice p (L.map volD).length c) (.l 11 (L.map volD))), (4, .box B4 76 [.int .i64 0, .int .i64 0, .int .i64 0, .int .i64 0, .slice none 0 0]), (5, .box B5 73 [.int .i64 kd, .int .i64 vo, .int .i64 bl, .int .i64 sz, .int .i64 pe, .slice q1 n1 d1, .int .i64 to, .int .i64 at0, .int .i64 ix, .slice q2 n2 d2]), (9, .box B9 28 [.int .i64 vo, .int .i64 bl, .int .i64 sz, .int .i64 pe, .slice p9 place.length c9, .int .i64 to, .int .i64 0, .bool (decide (0 < to)), .int .i64 0, .slice none 0 0, .slice none 0 0]), (8, .dat (.slice p8 (L.map volD).length c8) (.l 11 (L.map volD))), (10, .dat (.slice p9 place.length c9) (.ns .i64 place))] w) ((L.map volD).length) ?_ ?_
   · exact ⟨0, _, _, _, _, _, _, _, _, _, _, _, _, _, Nat.zero_le _, rfl, Hz.only [0, 4, 5, 7, 8, 9], m65.ren [(1, 1), (2, 2), (4, 20), (5, 23), (9, 26), (8, 24), (10, 25)] (by decide)⟩
   clear Hz m65
   rintro g Az w72 ⟨k, B4, B5, B9, c8, c9, n1, d1, n2, d2, p8, p9, q1, q2, hkl, hg, Hz, m72⟩
   refine wsk fun K13 hK13 => ?_
   refine wsk fun K14 hK14 => ?_
   by_cases hk : k < (L.map volD).length
   ·
    obtain ⟨z9, hes9⟩ : ∃ x, L[k]? = some x := ⟨_, List.getElem?_eq_getElem (by simpa using hk)⟩
    obtain ⟨b73, o73, vs73, hp73, hR73, ho73, m73⟩ := m72.openR (i := 8) rfl (k) (r := [.v (.int .i64 z9.vo), .v (.int .i64 z9.bl), .v (.int .i64 z9.sz), .v (.int .i64 z9.pe), .ns .i64 z9.place, .v (.int .i64 z9.to), .v (.int .i64 z9.ne), .v (.bool z9.hi), .v (.int .i64 z9.fl), .ns .i64 z9.pins, .l 2 (z9.ws.map wrD)]) (volD_get hes9) 100 rfl
    revert Hz
    cases hp73; clear m72 ho73
    rcases hR73 with _ | ⟨hd73_0, _ | ⟨hd73_1, _ | ⟨hd73_2, _ | ⟨hd73_3, _ | ⟨hd73_4, _ | ⟨hd73_5, _ | ⟨hd73_6, _ | ⟨hd73_7, _ | ⟨hd73_8, _ | ⟨hd73_9, _ | ⟨hd73_10, _ | _⟩⟩⟩⟩⟩⟩⟩⟩⟩⟩⟩
    obtain rfl := hd73_0.v_out
    clear hd73_0
    obtain rfl := hd73_1.v_out
    clear hd73_1
    obtain rfl := hd73_2.v_out
    clear hd73_2
    obtain rfl := hd73_3.v_out
    clear hd73_3
    obtain ⟨p74, c74, hv74, hc74⟩ := hd73_4.ns_shape; subst hv74
    intro Hz
    have m74 := m73.dat 101 rfl (hd73_4.cast (fun _ h => (free_add rfl h))); clear m73 hd73_4
    revert Hz
    obtain rfl := hd73_5.v_out
    clear hd73_5
    obtain rfl := hd73_6.v_out
    clear hd73_6
    obtain rfl := hd73_7.v_out
    clear hd73_7
    obtain rfl := hd73_8.v_out
    clear hd73_8
    obtain ⟨p75, c75, hv75, hc75⟩ := hd73_9.ns_shape; subst hv75
    intro Hz
    have m75 := m74.dat 102 rfl (hd73_9.cast (fun _ h => (free_add rfl (free_add rfl h)))); clear m74 hd73_9
    revert Hz
    obtain ⟨p76, c76, hv76, hc76⟩ := hd73_10.l_shape; subst hv76
    intro Hz
    have m76 := m75.dat 103 rfl (hd73_10.cast (fun _ h => (free_add rfl (free_add rfl (free_add rfl h))))); clear m75 hd73_10
    have m77 := m76.oz [1, 2, 4, 5, 8, 9, 10, 100, 101, 102, 103]
    refine region_p 14 (B := [(1, _), (2, _), (4, _), (5, _), (8, _), (9, _), (10, _), (100, _), (101, _), (102, _), (103, _)]) (m77.to ⟨il, il, il, il, il, il, il, il, il, il, il, trivial⟩) m77 (by kernel_rfl) (fun w78 hP78 m78 => ?_); clear m77
    refine goA hP78 [0, 1, 2, 3, 4] 5 0 31 Hz (m78.to ⟨il, il, il, il, il, il, il, il, il, il, il, trivial⟩) (.move rfl <| .move rfl <| .len rfl U65 <| .lss rfl rfl <| .move rfl .nil) fun Az Hz => ?_
    refine bc Hz 49 ?_ ?_
    rotate_left
    · intro hb _; exact absurd hb (by simpa using hk)
    clear Hz; intro _ Hz
    refine goR hP78 [5, 6, 7, 8, 9, 10, 11, 12, 13] [9, 11] 9 31 16383 Hz (m78.to ⟨il, il, il, il, il, il, il, il, il, il, il, trivial⟩) (.move rfl <| .move rfl <| .p (fun _ _ h => y_idx h rfl rfl U65 fct17 (k) rfl hk) <| .fieldAddrQ 0 rfl U28 rfl (s := 0) (by kernel_rfl) rfl <| .loadC0 hh (i := 100) rfl rfl U3 rfl <| .fa 1 rfl U73 <| .lb hh 5 U3 rfl rfl rfl <| .lss rfl rfl <| .pickT rfl rfl .nil) fun Az Hz => ?_
    refine wpAnyE_done (by kernel_rfl) ?_ _
    refine hK14 _ _ ?_
    refine bc Hz 58 ?_ ?_
    ·
     intro hb94 Hz; try simp only [QQ, Qax] at hb94
     refine wct Hz ?_
     refine zss (hK13 _ _ ?_)
     refine wp_block ?_
     replace Hz := Hz.oz [0, 4, 5, 7, 8, 9]
     refine wp_region_lit ?_
     refine goCh Hz (.move rfl <| .inc (k + 1) <| .assign rfl .nil) fun Az Hz => ?_
     refine wpList_nil ?_
     show ∃ n', n' < _ ∧ _
     exact ⟨(L.map volD).length - (k + 1), by omega, k + 1, _, _, _, _, _, _, _, _, _, _, _, _, _, by omega, rfl, Hz.only [0, 4, 5, 7, 8, 9], m78.only [1, 2, 4, 5, 9, 8, 10]⟩
    intro hb94 Hz; try simp only [QQ, Qax] at hb94
    refine wcf Hz ?_
    refine wp_exit ?_
    refine hK12 _ _ ?_
    refine wsk fun K15 hK15 => ?_
    replace Hz := Hz.oz [0, 4, 5, 7, 8, 9]
    have m100 := m78.oz [1, 2, 4, 5, 8, 9, 10, 100, 101, 102, 103]
    refine region_p 14 (B := [(1, _), (2, _), (4, _), (5, _), (8, _), (9, _), (10, _), (100, _), (101, _), (102, _), (103, _)]) (m100.to ⟨il, il, il, il, il, il, il, il, il, il, il, trivial⟩) m100 (by kernel_rfl) (fun w101 hP101 m101 => ?_); clear m100
    refine goA hP101 [0, 1, 2] 3 0 7 Hz (m101.to ⟨il, il, il, il, il, il, il, il, il, il, il, trivial⟩) (.move rfl <| .move rfl <| .move rfl .nil) fun Az Hz => ?_
    have hcap106 := Rd.capL (m101.rd (i := 8) rfl)
    have m105 := m101.takeR (i := 8) rfl k hkl 104 rfl
    refine goR hP101 [3, 5, 8, 9] [5] 4 7 815 Hz (m105.to ⟨il, il, il, il, il, il, il, il, il, il, il, trivial⟩) (.p (fun _ _ h => y_sliceHn h k rfl rfl U65 fct17 rfl (Nat.le_trans hkl hcap106)) <| .loadBR hh (i := 9) rfl rfl U28 rfl fct17 (by simp) (by dsimp only [List.drop, List.take] <;> rfl) <| .move rfl <| .move rfl .nil) fun Az Hz => ?_
    have m111 := m105.dropR (i := 8) rfl k hkl 105 rfl
    refine goA hP101 [10] 1 815 1839 Hz (m111.to ⟨il, il, il, il, il, il, il, il, il, il, il, trivial⟩) (.p (fun _ _ h => y_sliceLn h k rfl rfl U65 fct17 rfl hkl) .nil) fun Az Hz => ?_
    refine d_two 4 6 rfl rfl (by kernel_rfl) rfl rfl (fun K hK => ?_) (fun K hK => ?_)
    ·
     have m113 := m111.nilR 106 28 11
     refine e_appR Hz m113 106 rfl rfl rfl (m113.rd (i := 104) rfl) U65 fct46 rfl rfl (by decide) (by simp; omega) rfl ?_
     intro p114 c114 Az w115 Hz m115
     refine hK _ _ (fun _ => (m115.to ⟨il, il, il, il, il, il, il, il, il, il, il, trivial⟩)) ?_; clear hK K
     refine so 6 ?_
     refine e_litR Hz m115 107 (mm := 11) rfl (.cons rfl rfl (.cons (.v _) (.cons (.v _) (.cons (.v _) (.cons (.v _) (.cons (m115.rd (i := 10) rfl) (.cons (.v _) (.cons (.v _) (.cons (.v _) (.cons (.v _) (.cons (Rd.nilN _ _ .i64 _) (.cons (.l0 _ _ 2) .nil))))))))))) .nil) U65 fct46 rfl rfl rfl rfl rfl fun g116 Az w117 Hz m117 => ?_
     refine ⟨m117.to ⟨il, il, il, il, il, il, il, il, il, il, il, trivial⟩, ?_⟩
     have m119 := m117.freezeR 107 rfl
     refine so 7 ?_
     refine e_appR Hz m119 106 rfl rfl rfl (m119.rd (i := 107) rfl) U65 fct46 rfl rfl (by decide) (by simp; omega) rfl fun p118 c118 Az w120 Hz m120 => ?_
     refine ⟨m120.to ⟨il, il, il, il, il, il, il, il, il, il, il, trivial⟩, ?_⟩
     refine so 11 ?_
     refine e_appR Hz m120 106 rfl rfl rfl (m120.rd (i := 105) rfl) U65 fct46 rfl rfl (by decide) (by simp; omega) rfl fun p121 c121 Az w122 Hz m122 => ?_
     refine ⟨m122.to ⟨il, il, il, il, il, il, il, il, il, il, il, trivial⟩, ?_⟩
     refine goA hP101 [12, 13] 2 4095 16383 Hz (m122.to ⟨il, il, il, il, il, il, il, il, il, il, il, trivial⟩) (.nilCheck rfl <| .fa 0 rfl U67 .nil) fun Az Hz => ?_
     refine se 14 ?_
     refine st1 Hz m122 1 fct47 fun w125 m125 _ => ?_
     refine wpAnyE_done (by kernel_rfl) ?_ _
     refine hK15 _ _ ?_
     replace Hz := Hz.oz [0, 4, 5, 7, 8, 9]
     refine zsr fun K16 hK16 => ?_
     refine goCh Hz (.build rfl fct21 fl76mA rfl (by dsimp only [setL, List.set] <;> rfl) .nil) fun Az Hz => ?_
     refine plz (stw Hz m125 4 fct19 fun w129 m129 _ => ?_)
     refine znl (hK16 _ _ ?_)
     refine rtd (retC (fn := Try.f24) Hz m129 (i := 4) rfl rfl rfl U76 rfl fct19 ?_)
     have m130 := m129.freezeR 106 rfl
     have hrw : [] ++ List.take k (L.map volD) ++ [[.v (.int .i64 (newV vo bl sz pe to place).vo), .v (.int .i64 (newV vo bl sz pe to place).bl), .v (.int .i64 (newV vo bl sz pe to place).sz), .v (.int .i64 (newV vo bl sz pe to place).pe), .ns .i64 (newV vo bl sz pe to place).place, .v (.int .i64 (newV vo bl sz pe to place).to), .v (.int .i64 (newV vo bl sz pe to place).ne), .v (.bool (newV vo bl sz pe to place).hi), .v (.int .i64 (newV vo bl sz pe to place).fl), .ns .i64 (newV vo bl sz pe to place).pins, .l 2 ((newV vo bl sz pe to place).ws.map wrD)]] ++ List.drop k (L.map volD) = (L.take k ++ [newV vo bl sz pe to place] ++ L.drop k).map volD := by simp [volD, newV]
     simp only [newV] at hrw
     erw [hrw] at m130
     exact ⟨_, _, _, _, L.take k ++ [newV vo bl sz pe to place] ++ L.drop k, _, _, rfl, hM.ins (newV_s hN) k, m130.ren [(1, 1), (2, 106)] (by decide)⟩
    refine e_litR Hz m111 106 (mm := 11) rfl (.cons rfl rfl (.cons (.v _) (.cons (.v _) (.cons (.v _) (.cons (.v _) (.cons (m111.rd (i := 10) rfl) (.cons (.v _) (.cons (.v _) (.cons (.v _) (.cons (.v _) (.cons (Rd.nilN _ _ .i64 _) (.cons (.l0 _ _ 2) .nil))))))))))) .nil) U65 fct46 rfl rfl rfl rfl rfl ?_
    intro g131 Az w132 Hz m132
    refine hK _ _ (fun _ => (m132.to ⟨il, il, il, il, il, il, il, il, il, il, il, trivial⟩)) ?_; clear hK K
    have m133 := m132.nilR 107 28 11
    refine so 4 ?_
    refine e_appR Hz m133 107 rfl rfl rfl (m133.rd (i := 104) rfl) U65 fct46 rfl rfl (by decide) (by simp; omega) rfl fun p134 c134 Az w135 Hz m135 => ?_
    refine ⟨m135.to ⟨il, il, il, il, il, il, il, il, il, il, il, trivial⟩, ?_⟩
    have m137 := m135.freezeR 106 rfl
    refine so 7 ?_
    refine e_appR Hz m137 107 rfl rfl rfl (m137.rd (i := 106) rfl) U65 fct46 rfl rfl (by decide) (by simp; omega) rfl fun p136 c136 Az w138 Hz m138 => ?_
    refine ⟨m138.to ⟨il, il, il, il, il, il, il, il, il, il, il, trivial⟩, ?_⟩
    refine so 11 ?_
    refine e_appR Hz m138 107 rfl rfl rfl (m138.rd (i := 105) rfl) U65 fct46 rfl rfl (by decide) (by simp; omega) rfl fun p139 c139 Az w140 Hz m140 => ?_
    refine ⟨m140.to ⟨il, il, il, il, il, il, il, il, il, il, il, trivial⟩, ?_⟩
    refine goA hP101 [12, 13] 2 4095 16383 Hz (m140.to ⟨il, il, il, il, il, il, il, il, il, il, il, trivial⟩) (.nilCheck rfl <| .fa 0 rfl U67 .nil) fun Az Hz => ?_
    refine se 14 ?_
    refine st1 Hz m140 1 fct47 fun w143 m143 _ => ?_
    refine wpAnyE_done (by kernel_rfl) ?_ _
    refine hK15 _ _ ?_
    replace Hz := Hz.oz [0, 4, 5, 7, 8, 9]
    refine zsr fun K17 hK17 => ?_
    refine goCh Hz (.build rfl fct21 fl76mA rfl (by dsimp only [setL, List.set] <;> rfl) .nil) fun Az Hz => ?_
    refine plz (stw Hz m143 4 fct19 fun w147 m147 _ => ?_)
    refine znl (hK17 _ _ ?_)
    refine rtd (retC (fn := Try.f24) Hz m147 (i := 4) rfl rfl rfl U76 rfl fct19 ?_)
    have m148 := m147.freezeR 107 rfl
    have hrw : [] ++ List.take k (L.map volD) ++ [[.v (.int .i64 (newV vo bl sz pe to place).vo), .v (.int .i64 (newV vo bl sz pe to place).bl), .v (.int .i64 (newV vo bl sz pe to place).sz), .v (.int .i64 (newV vo bl sz pe to place).pe), .ns .i64 (newV vo bl sz pe to place).place, .v (.int .i64 (newV vo bl sz pe to place).to), .v (.int .i64 (newV vo bl sz pe to place).ne), .v (.bool (newV vo bl sz pe to place).hi), .v (.int .i64 (newV vo bl sz pe to place).fl), .ns .i64 (newV vo bl sz pe to place).pins, .l 2 ((newV vo bl sz pe to place).ws.map wrD)]] ++ List.drop k (L.map volD) = (L.take k ++ [newV vo bl sz pe to place] ++ L.drop k).map volD := by simp [volD, newV]
    simp only [newV] at hrw
    erw [hrw] at m148
    exact ⟨_, _, _, _, L.take k ++ [newV vo bl sz pe to place] ++ L.drop k, _, _, rfl, hM.ins (newV_s hN) k, m148.ren [(1, 1), (2, 107)] (by decide)⟩
   have m149 := m72.oz [1, 2, 4, 5, 8, 9, 10]
   refine region_p 14 (B := [(1, _), (2, _), (4, _), (5, _), (8, _), (9, _), (10, _)]) (m149.to ⟨il, il, il, il, il, il, il, trivial⟩) m149 (by kernel_rfl) (fun w150 hP150 m150 => ?_); clear m149
   refine goA hP150 [0, 1, 2, 3, 4] 5 0 31 Hz (m150.to ⟨il, il, il, il, il, il, il, trivial⟩) (.move rfl <| .move rfl <| .len rfl U65 <| .lss rfl rfl <| .move rfl .nil) fun Az Hz => ?_
   refine bc Hz 49 ?_ ?_
   · intro hb _; exact absurd hb (by simpa using hk)
   clear Hz; intro _ Hz
   refine goA hP150 [5, 6, 7, 8, 9, 10, 11, 12, 13] 9 31 16383 Hz (m150.to ⟨il, il, il, il, il, il, il, trivial⟩) (.s <| .s <| .s <| .s <| .s <| .s <| .s <| .s <| .pickF rfl rfl .nil) fun Az Hz => ?_
   refine wpAnyE_done (by kernel_rfl) ?_ _
   refine hK14 _ _ ?_
   refine wcf Hz ?_
   refine wp_exit ?_
   refine hK12 _ _ ?_
   refine wsk fun K18 hK18 => ?_
   replace Hz := Hz.oz [0, 4, 5, 7, 8, 9]
   have m167 := m150.oz [1, 2, 4, 5, 8, 9, 10]
   refine region_p 14 (B := [(1, _), (2, _), (4, _), (5, _), (8, _), (9, _), (10, _)]) (m167.to ⟨il, il, il, il, il, il, il, trivial⟩) m167 (by kernel_rfl) (fun w168 hP168 m168 => ?_); clear m167
   refine goA hP168 [0, 1, 2] 3 0 7 Hz (m168.to ⟨il, il, il, il, il, il, il, trivial⟩) (.move rfl <| .move rfl <| .move rfl .nil) fun Az Hz => ?_
   have hcap173 := Rd.capL (m168.rd (i := 8) rfl)
   have m172 := m168.takeR (i := 8) rfl k hkl 100 rfl
   refine goR hP168 [3, 5, 8, 9] [5] 4 7 815 Hz (m172.to ⟨il, il, il, il, il, il, il, trivial⟩) (.p (fun _ _ h => y_sliceHn h k rfl rfl U65 fct17 rfl (Nat.le_trans hkl hcap173)) <| .loadBR hh (i := 9) rfl rfl U28 rfl fct17 (by simp) (by dsimp only [List.drop, List.take] <;> rfl) <| .move rfl <| .move rfl .nil) fun Az Hz => ?_
   have m178 := m172.dropR (i := 8) rfl k hkl 101 rfl
   refine goA hP168 [10] 1 815 1839 Hz (m178.to ⟨il, il, il, il, il, il, il, trivial⟩) (.p (fun _ _ h => y_sliceLn h k rfl rfl U65 fct17 rfl hkl) .nil) fun Az Hz => ?_
   refine d_two 4 6 rfl rfl (by kernel_rfl) rfl rfl (fun K hK => ?_) (fun K hK => ?_)
   ·
    have m180 := m178.nilR 102 28 11
    refine e_appR Hz m180 102 rfl rfl rfl (m180.rd (i := 100) rfl) U65 fct46 rfl rfl (by decide) (by simp; omega) rfl ?_
    intro p181 c181 Az w182 Hz m182
    refine hK _ _ (fun _ => (m182.to ⟨il, il, il, il, il, il, il, trivial⟩)) ?_; clear hK K
    refine so 6 ?_
    refine e_litR Hz m182 103 (mm := 11) rfl (.cons rfl rfl (.cons (.v _) (.cons (.v _) (.cons (.v _) (.cons (.v _) (.cons (m182.rd (i := 10) rfl) (.cons (.v _) (.cons (.v _) (.cons (.v _) (.cons (.v _) (.cons (Rd.nilN _ _ .i64 _) (.cons (.l0 _ _ 2) .nil))))))))))) .nil) U65 fct46 rfl rfl rfl rfl rfl fun g183 Az w184 Hz m184 => ?_
    refine ⟨m184.to ⟨il, il, il, il, il, il, il, trivial⟩, ?_⟩
    have m186 := m184.freezeR 103 rfl
    refine so 7 ?_
    refine e_appR Hz m186 102 rfl rfl rfl (m186.rd (i := 103) rfl) U65 fct46 rfl rfl (by decide) (by simp; omega) rfl fun p185 c185 Az w187 Hz m187 => ?_
    refine ⟨m187.to ⟨il, il, il, il, il, il, il, trivial⟩, ?_⟩
    refine so 11 ?_
    refine e_appR Hz m187 102 rfl rfl rfl (m187.rd (i := 101) rfl) U65 fct46 rfl rfl (by decide) (by simp; omega) rfl fun p188 c188 Az w189 Hz m189 => ?_
    refine ⟨m189.to ⟨il, il, il, il, il, il, il, trivial⟩, ?_⟩
    refine goA hP168 [12, 13] 2 4095 16383 Hz (m189.to ⟨il, il, il, il, il, il, il, trivial⟩) (.nilCheck rfl <| .fa 0 rfl U67 .nil) fun Az Hz => ?_
    refine se 14 ?_
    refine st1 Hz m189 1 fct47 fun w192 m192 _ => ?_
    refine wpAnyE_done (by kernel_rfl) ?_ _
    refine hK18 _ _ ?_
    replace Hz := Hz.oz [0, 4, 5, 7, 8, 9]
    refine zsr fun K19 hK19 => ?_
    refine goCh Hz (.build rfl fct21 fl76mA rfl (by dsimp only [setL, List.set] <;> rfl) .nil) fun Az Hz => ?_
    refine plz (stw Hz m192 4 fct19 fun w196 m196 _ => ?_)
    refine znl (hK19 _ _ ?_)
    refine rtd (retC (fn := Try.f24) Hz m196 (i := 4) rfl rfl rfl U76 rfl fct19 ?_)
    have m197 := m196.freezeR 102 rfl
    have hrw : [] ++ List.take k (L.map volD) ++ [[.v (.int .i64 (newV vo bl sz pe to place).vo), .v (.int .i64 (newV vo bl sz pe to place).bl), .v (.int .i64 (newV vo bl sz pe to place).sz), .v (.int .i64 (newV vo bl sz pe to place).pe), .ns .i64 (newV vo bl sz pe to place).place, .v (.int .i64 (newV vo bl sz pe to place).to), .v (.int .i64 (newV vo bl sz pe to place).ne), .v (.bool (newV vo bl sz pe to place).hi), .v (.int .i64 (newV vo bl sz pe to place).fl), .ns .i64 (newV vo bl sz pe to place).pins, .l 2 ((newV vo bl sz pe to place).ws.map wrD)]] ++ List.drop k (L.map volD) = (L.take k ++ [newV vo bl sz pe to place] ++ L.drop k).map volD := by simp [volD, newV]
    simp only [newV] at hrw
    erw [hrw] at m197
    exact ⟨_, _, _, _, L.take k ++ [newV vo bl sz pe to place] ++ L.drop k, _, _, rfl, hM.ins (newV_s hN) k, m197.ren [(1, 1), (2, 102)] (by decide)⟩
   refine e_litR Hz m178 102 (mm := 11) rfl (.cons rfl rfl (.cons (.v _) (.cons (.v _) (.cons (.v _) (.cons (.v _) (.cons (m178.rd (i := 10) rfl) (.cons (.v _) (.cons (.v _) (.cons (.v _) (.cons (.v _) (.cons (Rd.nilN _ _ .i64 _) (.cons (.l0 _ _ 2) .nil))))))))))) .nil) U65 fct46 rfl rfl rfl rfl rfl ?_
   intro g198 Az w199 Hz m199
   refine hK _ _ (fun _ => (m199.to ⟨il, il, il, il, il, il, il, trivial⟩)) ?_; clear hK K
   have m200 := m199.nilR 103 28 11
   refine so 4 ?_
   refine e_appR Hz m200 103 rfl rfl rfl (m200.rd (i := 100) rfl) U65 fct46 rfl rfl (by decide) (by simp; omega) rfl fun p201 c201 Az w202 Hz m202 => ?_
   refine ⟨m202.to ⟨il, il, il, il, il, il, il, trivial⟩, ?_⟩
   have m204 := m202.freezeR 102 rfl
   refine so 7 ?_
   refine e_appR Hz m204 103 rfl rfl rfl (m204.rd (i := 102) rfl) U65 fct46 rfl rfl (by decide) (by simp; omega) rfl fun p203 c203 Az w205 Hz m205 => ?_
   refine ⟨m205.to ⟨il, il, il, il, il, il, il, trivial⟩, ?_⟩
   refine so 11 ?_
   refine e_appR Hz m205 103 rfl rfl rfl (m205.rd (i := 101) rfl) U65 fct46 rfl rfl (by decide) (by simp; omega) rfl fun p206 c206 Az w207 Hz m207 => ?_
   refine ⟨m207.to ⟨il, il, il, il, il, il, il, trivial⟩, ?_⟩
   refine goA hP168 [12, 13] 2 4095 16383 Hz (m207.to ⟨il, il, il, il, il, il, il, trivial⟩) (.nilCheck rfl <| .fa 0 rfl U67 .nil) fun Az Hz => ?_
   refine se 14 ?_
   refine st1 Hz m207 1 fct47 fun w210 m210 _ => ?_
   refine wpAnyE_done (by kernel_rfl) ?_ _
   refine hK18 _ _ ?_
   replace Hz := Hz.oz [0, 4, 5, 7, 8, 9]
   refine zsr fun K20 hK20 => ?_
   refine goCh Hz (.build rfl fct21 fl76mA rfl (by dsimp only [setL, List.set] <;> rfl) .nil) fun Az Hz => ?_
   refine plz (stw Hz m210 4 fct19 fun w214 m214 _ => ?_)
   refine znl (hK20 _ _ ?_)
   refine rtd (retC (fn := Try.f24) Hz m214 (i := 4) rfl rfl rfl U76 rfl fct19 ?_)
   have m215 := m214.freezeR 103 rfl
   have hrw : [] ++ List.take k (L.map volD) ++ [[.v (.int .i64 (newV vo bl sz pe to place).vo), .v (.int .i64 (newV vo bl sz pe to place).bl), .v (.int .i64 (newV vo bl sz pe to place).sz), .v (.int .i64 (newV vo bl sz pe to place).pe), .ns .i64 (newV vo bl sz pe to place).place, .v (.int .i64 (newV vo bl sz pe to place).to), .v (.int .i64 (newV vo bl sz pe to place).ne), .v (.bool (newV vo bl sz pe to place).hi), .v (.int .i64 (newV vo bl sz pe to place).fl), .ns .i64 (newV vo bl sz pe to place).pins, .l 2 ((newV vo bl sz pe to place).ws.map wrD)]] ++ List.drop k (L.map volD) = (L.take k ++ [newV vo bl sz pe to place] ++ L.drop k).map volD := by simp [volD, newV]
   simp only [newV] at hrw
   erw [hrw] at m215
   exact ⟨_, _, _, _, L.take k ++ [newV vo bl sz pe to place] ++ L.drop k, _, _, rfl, hM.ins (newV_s hN) k, m215.ren [(1, 1), (2, 103)] (by decide)⟩
  refine wp_region_lit ?_
  refine goCh Hz (.loadBR m49 (i := 23) rfl rfl U73 rfl fct18 (by simp) (by dsimp only [List.drop, List.take] <;> rfl) .nil) fun Az Hz => ?_
  refine plz (ecb Hz Try.func25 rfl m49 (rnew_non _ vo bl sz pe to _ _ place _ _ _ _ _ _ ((m49.rd (i := 21) rfl).any) (by omega) hN) fun Az w217 Hz m218 => ?_)
  refine goCh Hz (.move rfl <| .extract rfl rfl <| .extract rfl rfl .nil) fun Az Hz => ?_
  refine plz (e_alloc Hz m218 25 fct20 rfl fun g223 Az w224 Hz m224 _ _ => ?_)
  refine plz (stw Hz m224 25 fct17 fun w225 m225 _ => ?_)
  refine gz hK10 Hz (.assign rfl .nil) fun Az Hz => ?_
  refine wsk fun K21 hK21 => ?_
  replace Hz := Hz.oz [0, 4, 5, 7, 8, 9, 10]
  refine regS Hz (.move rfl <| .neq rfl rfl .nil) fun Az Hz => ?_
  refine bc Hz 42 ?_ ?_
  rotate_left
  · intro hb _; exact absurd hb (by simp)
  clear Hz; intro _ Hz
  refine wct Hz ?_
  refine zsr fun K22 hK22 => ?_
  refine goCh Hz (.move rfl <| .build rfl fct21 fl76mA rfl (by dsimp only [setL, List.set] <;> rfl) .nil) fun Az Hz => ?_
  refine plz (stw Hz m225 20 fct19 fun w235 m235 _ => ?_)
  refine znl (hK22 _ _ ?_)
  refine rtd (retC (fn := Try.f24) Hz m235 (i := 20) rfl rfl rfl U76 rfl fct19 ?_)
  exact ⟨_, _, _, _, L, _, _, rfl, hM.up (by omega), m235.only [1, 2]⟩
 intro hb46 Hz; try simp only [QQ, Qax] at hb46
 refine wcf Hz ?_
 refine zss (hK6 _ _ ?_)
 refine wsk fun K23 hK23 => ?_
 replace Hz := Hz.oz [0, 4, 5, 7, 8]
 refine regS Hz (.move rfl <| .lss rfl rfl .nil) fun Az Hz => ?_
 refine bc Hz 77 ?_ ?_
 ·
  intro hb239 Hz; try simp only [QQ, Qax] at hb239
  refine wct Hz ?_
  refine zsr fun K24 hK24 => ?_
  refine goCh Hz (.build rfl fct21 fl76mA rfl (by dsimp only [setL, List.set] <;> rfl) .nil) fun Az Hz => ?_
  refine plz (stw Hz m41 20 fct19 fun w242 m242 _ => ?_)
  refine znl (hK24 _ _ ?_)
  refine rtd (retC (fn := Try.f24) Hz m242 (i := 20) rfl rfl rfl U76 rfl fct19 ?_)
  exact ⟨_, _, _, _, L, _, _, rfl, hM.up (by omega), m242.only [1, 2]⟩
 intro hb239 Hz; try simp only [QQ, Qax] at hb239
 revert Hz
 obtain ⟨jn, rfl⟩ : ∃ jn : Nat, j = (jn : Int) := ⟨j.toNat, by omega⟩
 intro Hz
 have hjl : jn < L.length := by omega
 obtain ⟨x, hes⟩ : ∃ x, L[jn]? = some x := ⟨_, List.getElem?_eq_getElem hjl⟩
 refine wcf Hz ?_
 refine zss (hK23 _ _ ?_)
 refine wsk fun K25 hK25 => ?_
 have hC25 : ∀ (a : Act) (w : World), (∃ (y : VolV) (e9 rl rf rn : Int) (B4 B11 B12 c8 d1 d2 d3 : Nat) (p8 p1 p2 p3 : Option Addr), VolS (n + 1) y ∧ Has 97 [(0, .pointer (some ⟨B, 0, none⟩)), (4, .pointer (some ⟨B4, 0, none⟩)), (7, .int .i64 jn), (8, .slice p8 ([] ++ (L.map volD)).length c8), (11, .pointer (some ⟨B11, 0, none⟩)), (12, .pointer (some ⟨B12, 0, none⟩))] a ∧ MemOk X w0 [(1, .box B 67 [.slice p (L.map volD).length c]), (2, .dat (.slice p (L.map volD).length c) (.l 11 (L.map volD))), (4, .box B4 76 [.int .i64 0, .int .i64 0, .int .i64 0, .int .i64 0, .slice none 0 0]), (8, .row (.slice p8 ([] ++ (L.map volD)).length c8) 28 11 ([] ++ (L.map volD))), (11, .box B11 28 [.int .i64 y.vo, .int .i64 y.bl, .int .i64 y.sz, .int .i64 y.pe, .slice p1 y.place.length d1, .int .i64 y.to, .int .i64 y.ne, .bool y.hi, .int .i64 y.fl, .slice p2 y.pins.length d2, .slice p3 (y.ws.map wrD).length d3]), (12, .box B12 76 [.int .i64 e9, .int .i64 rl, .int .i64 rf, .int .i64 rn, .slice none 0 0]), (13, .dat (.slice p1 y.place.length d1) (.ns .i64 y.place)), (14, .dat (.slice p2 y.pins.length d2) (.ns .i64 y.pins)), (15, .dat (.slice p3 (y.ws.map wrD).length d3) (.l 2 (y.ws.map wrD)))] w) → K25 a w := by
   clear Hz m41
   rintro Az w243 ⟨y, e9, rl, rf, rn, B4, B11, B12, c8, d1, d2, d3, p8, p1, p2, p3, hyS, Hz, m243⟩
   refine hK25 _ _ ?_
   refine zsr fun K26 hK26 => ?_
   refine goCh Hz (.move rfl <| .move rfl <| .loadBR m243 (i := 11) rfl rfl U28 rfl fct17 (by simp) (by dsimp only [List.drop, List.take] <;> rfl) .nil) fun Az Hz => ?_
   obtain ⟨gr251, cr251, hp251, _⟩ := m243.openC (i := 8) rfl (Nat.lt_of_le_of_lt (Nat.zero_le jn) (by simpa using hjl)); cases hp251
   refine goCh Hz (.c rfl (fun _ h => y_idx h rfl rfl U65 fct17 (jn) rfl (by simpa using hjl)) .nil) fun Az Hz => ?_
   refine plz (e_storeRW Hz m243 8 rfl (jn) (by simpa using hjl) rfl rfl rfl rfl rfl fct17 (.cons (.v _) (.cons (.v _) (.cons (.v _) (.cons (.v _) (.cons (m243.rd (i := 13) rfl) (.cons (.v _) (.cons (.v _) (.cons (.v _) (.cons (.v _) (.cons (m243.rd (i := 14) rfl) (.cons (m243.rd (i := 15) rfl) .nil))))))))))) fun w253 m253 => ?_)
   refine znl (hK26 _ _ ?_)
   replace Hz := Hz.oz [0, 4, 8, 12]
   refine zsr fun K27 hK27 => ?_
   refine goCh Hz (.move rfl <| .move rfl <| .nilCheck rfl <| .fa 0 rfl U67 .nil) fun Az Hz => ?_
   refine plz (st1 Hz m253 1 fct47 fun w263 m263 _ => ?_)
   refine znl (hK27 _ _ ?_)
   replace Hz := Hz.oz [4, 12]
   refine zsr fun K28 hK28 => ?_
   refine goCh Hz (.loadBR m263 (i := 12) rfl rfl U76 rfl fct19 (by simp) (by dsimp only [List.drop, List.take] <;> rfl) .nil) fun Az Hz => ?_
   refine plz (stw Hz m263 4 fct19 fun w267 m267 _ => ?_)
   refine znl (hK28 _ _ ?_)
   refine rtd (retC (fn := Try.f24) Hz m267 (i := 4) rfl rfl rfl U76 rfl fct19 ?_)
   have m268 := m267.freezeR 8 rfl
   have hrw : ([] ++ (L.map volD)).set jn [.v (.int .i64 y.vo), .v (.int .i64 y.bl), .v (.int .i64 y.sz), .v (.int .i64 y.pe), .ns .i64 y.place, .v (.int .i64 y.to), .v (.int .i64 y.ne), .v (.bool y.hi), .v (.int .i64 y.fl), .ns .i64 y.pins, .l 2 (y.ws.map wrD)] = (L.set jn y).map volD := by rw [List.nil_append, List.map_set]; rfl
   have hln : ([] ++ (L.map volD)).length = ((L.set jn y).map volD).length := by simp
   rw [hrw, hln] at m268
   exact ⟨_, _, _, _, L.set jn y, _, _, rfl, hM.set hyS jn, m268.ren [(1, 1), (2, 8)] (by decide)⟩
 obtain ⟨gr270, cr270, hp270, m270⟩ := m41.openC (i := 24) rfl (Nat.lt_of_le_of_lt (Nat.zero_le _) (by simpa using hjl))
 revert Hz
 cases hp270
 intro Hz
 obtain ⟨vs271, hc271, hR271⟩ := m270.eltC (i := 24) rfl (jn) (r := [.v (.int .i64 x.vo), .v (.int .i64 x.bl), .v (.int .i64 x.sz), .v (.int .i64 x.pe), .ns .i64 x.place, .v (.int .i64 x.to), .v (.int .i64 x.ne), .v (.bool x.hi), .v (.int .i64 x.fl), .ns .i64 x.pins, .l 2 (x.ws.map wrD)]) (by simpa using volD_get hes)
 revert Hz
 rcases hR271 with _ | ⟨hd271_0, _ | ⟨hd271_1, _ | ⟨hd271_2, _ | ⟨hd271_3, _ | ⟨hd271_4, _ | ⟨hd271_5, _ | ⟨hd271_6, _ | ⟨hd271_7, _ | ⟨hd271_8, _ | ⟨hd271_9, _ | ⟨hd271_10, _ | _⟩⟩⟩⟩⟩⟩⟩⟩⟩⟩⟩
 obtain rfl := hd271_0.v_out
 clear hd271_0
 obtain rfl := hd271_1.v_out
 clear hd271_1
 obtain rfl := hd271_2.v_out
 clear hd271_2
 obtain rfl := hd271_3.v_out
 clear hd271_3
 obtain ⟨p272, c272, hv272, hw272⟩ := hd271_4.ns_shape; subst hv272
 intro Hz
 have m272 := m270.dat 25 rfl (hd271_4.cast (fun _ h => h)); clear m270 hd271_4
 revert Hz
 obtain rfl := hd271_5.v_out
 clear hd271_5
 obtain rfl := hd271_6.v_out
 clear hd271_6
 obtain rfl := hd271_7.v_out
 clear hd271_7
 obtain rfl := hd271_8.v_out
 clear hd271_8
 obtain ⟨p273, c273, hv273, hw273⟩ := hd271_9.ns_shape; subst hv273
 intro Hz
 have m273 := m272.dat 26 rfl (hd271_9.cast (fun _ h => (free_add rfl h))); clear m272 hd271_9
 revert Hz
 obtain ⟨p274, c274, hv274, hw274⟩ := hd271_10.l_shape; subst hv274
 intro Hz
 have m274 := m273.dat 27 rfl (hd271_10.cast (fun _ h => (free_add rfl (free_add rfl h)))); clear m273 hd271_10
 have m275 := m274.oz [1, 2, 20, 21, 22, 23, 24, 25, 26, 27]
 refine region_p 5 (B := [(1, _), (2, _), (20, _), (21, _), (22, _), (23, _), (24, _), (25, _), (26, _), (27, _)]) (m275.to ⟨il, il, il, il, il, il, il, il, il, il, trivial⟩) m275 (by kernel_rfl) (fun w276 hP276 m276 => ?_); clear m275
 refine goR hP276 [0, 1, 2, 3, 4] [3, 4] 5 0 31 Hz (m276.to ⟨il, il, il, il, il, il, il, il, il, il, trivial⟩) (.move rfl <| .move rfl <| .p (fun _ _ h => y_idx h rfl rfl U65 fct17 (jn) rfl (by simpa using hjl)) <| .c (fun _ hW _ h => y_loadRC h hW (i := 24) rfl (jn) hc271 rfl U28 rfl fct17) <| .loadBR hh (i := 23) rfl rfl U73 rfl fct18 (by simp) (by dsimp only [List.drop, List.take] <;> rfl) .nil) fun Az Hz => ?_
 refine dth 5 9 10 ?_ ?_ ?_
 ·
  refine ecl Hz Try.func62 rfl (rDoAny _ x n (hM.2 _ (List.mem_of_getElem? hes)) hn items _ _ _ _ _ _ _ _ _ _ _ _ _ _ _ _ _ _ _ _ (by omega) (fun e he => itok (hii e he).1) (fun e he => (hii e he).2) (m276.into [(1, 25), (2, 26), (3, 27), (4, 22)] (by decide) rfl)) ?_
  rintro e w282 ⟨y, e9, rl, rf, rn, p1282, p2282, p3282, d1282, d2282, d3282, rfl, hyo, hyS, hm282⟩
  have mx282 := m276.back hm282 [(28, 1), (29, 2), (30, 3)] (by decide); clear hm282 m276
  have m282 := mx282.oz [28, 29, 30, 1, 2, 20, 21, 23, 24]
  refine ⟨_, rfl, ?_⟩; intro Az Hz
  refine ⟨fun h => (Bool.false_ne_true (h.symm.trans (by rfl))).elim, ?_⟩
  refine goB hP276 [6, 7, 8] 3 63 511 Hz (.move rfl <| .extract rfl rfl <| .extract rfl rfl .nil) fun Az Hz => ?_
  refine dtw 9 10 ?_ ?_
  ·
   refine e_alloc Hz m282 31 fct20 rfl fun g287 Az w288 Hz m288 _ _ => ?_
   refine ⟨fun h => (Bool.false_ne_true (h.symm.trans (by rfl))).elim, ?_⟩
   refine se 10 ?_
   refine e_alloc Hz m288 32 fct21 rfl fun g289 Az w290 Hz m290 _ _ => ?_
   refine se 11 ?_
   refine stw Hz m290 31 fct17 fun w291 m291 _ => ?_
   refine se 12 ?_
   refine stw Hz m291 32 fct19 fun w292 m292 _ => ?_
   refine wpAnyE_done (by kernel_rfl) ?_ _
   have m293 := m292.closeC 24 rfl
   show K25 _ _
   exact hC25 _ _ ⟨y, _, _, _, _, _, _, _, _, _, _, _, _, _, _, _, hyS, Hz.only [0, 4, 7, 8, 11, 12], m293.ren [(1, 1), (2, 2), (4, 20), (8, 24), (11, 31), (12, 32), (13, 28), (14, 29), (15, 30)] (by decide)⟩
  refine e_alloc Hz m282 31 fct21 rfl fun g294 Az w295 Hz m295 _ _ => ?_
  refine ⟨fun h => (Bool.false_ne_true (h.symm.trans (by rfl))).elim, ?_⟩
  refine se 9 ?_
  refine e_alloc Hz m295 32 fct20 rfl fun g296 Az w297 Hz m297 _ _ => ?_
  refine se 11 ?_
  refine stw Hz m297 32 fct17 fun w298 m298 _ => ?_
  refine se 12 ?_
  refine stw Hz m298 31 fct19 fun w299 m299 _ => ?_
  refine wpAnyE_done (by kernel_rfl) ?_ _
  have m300 := m299.closeC 24 rfl
  show K25 _ _
  exact hC25 _ _ ⟨y, _, _, _, _, _, _, _, _, _, _, _, _, _, _, _, hyS, Hz.only [0, 4, 7, 8, 11, 12], m300.ren [(1, 1), (2, 2), (4, 20), (8, 24), (11, 32), (12, 31), (13, 28), (14, 29), (15, 30)] (by decide)⟩
 ·
  refine e_alloc Hz m276 28 fct20 rfl fun g301 Az w302 Hz m302 _ _ => ?_
  refine ⟨fun _ => (m302.to ⟨il, il, il, il, il, il, il, il, il, il, trivial⟩), ?_⟩
  refine dtw 5 10 ?_ ?_
  ·
   refine ecl Hz Try.func62 rfl (rDoAny _ x n (hM.2 _ (List.mem_of_getElem? hes)) hn items _ _ _ _ _ _ _ _ _ _ _ _ _ _ _ _ _ _ _ _ (by omega) (fun e he => itok (hii e he).1) (fun e he => (hii e he).2) (m302.into [(1, 25), (2, 26), (3, 27), (4, 22)] (by decide) rfl)) ?_
   rintro e w303 ⟨y, e9, rl, rf, rn, p1303, p2303, p3303, d1303, d2303, d3303, rfl, hyo, hyS, hm303⟩
   have mx303 := m302.back hm303 [(29, 1), (30, 2), (31, 3)] (by decide); clear hm303 m302
   have m303 := mx303.oz [29, 30, 31, 1, 2, 20, 21, 23, 24, 28]
   refine ⟨_, rfl, ?_⟩; intro Az Hz
   refine ⟨fun h => (Bool.false_ne_true (h.symm.trans (by rfl))).elim, ?_⟩
   refine goB hP276 [6, 7, 8] 3 575 1023 Hz (.move rfl <| .extract rfl rfl <| .extract rfl rfl .nil) fun Az Hz => ?_
   refine se 10 ?_
   refine e_alloc Hz m303 32 fct21 rfl fun g308 Az w309 Hz m309 _ _ => ?_
   refine se 11 ?_
   refine stw Hz m309 28 fct17 fun w310 m310 _ => ?_
   refine se 12 ?_
   refine stw Hz m310 32 fct19 fun w311 m311 _ => ?_
   refine wpAnyE_done (by kernel_rfl) ?_ _
   have m312 := m311.closeC 24 rfl
   show K25 _ _
   exact hC25 _ _ ⟨y, _, _, _, _, _, _, _, _, _, _, _, _, _, _, _, hyS, Hz.only [0, 4, 7, 8, 11, 12], m312.ren [(1, 1), (2, 2), (4, 20), (8, 24), (11, 28), (12, 32), (13, 29), (14, 30), (15, 31)] (by decide)⟩
  refine e_alloc Hz m302 29 fct21 rfl fun g313 Az w314 Hz m314 _ _ => ?_
  refine ⟨fun _ => (m314.to ⟨il, il, il, il, il, il, il, il, il, il, trivial⟩), ?_⟩
  refine se 5 ?_
  refine ecl Hz Try.func62 rfl (rDoAny _ x n (hM.2 _ (List.mem_of_getElem? hes)) hn items _ _ _ _ _ _ _ _ _ _ _ _ _ _ _ _ _ _ _ _ (by omega) (fun e he => itok (hii e he).1) (fun e he => (hii e he).2) (m314.into [(1, 25), (2, 26), (3, 27), (4, 22)] (by decide) rfl)) ?_
  rintro e w315 ⟨y, e9, rl, rf, rn, p1315, p2315, p3315, d1315, d2315, d3315, rfl, hyo, hyS, hm315⟩
  have mx315 := m314.back hm315 [(30, 1), (31, 2), (32, 3)] (by decide); clear hm315 m314
  have m315 := mx315.oz [30, 31, 32, 1, 2, 20, 21, 23, 24, 28, 29]
  refine ⟨_, rfl, ?_⟩; intro Az Hz
  refine goB hP276 [6, 7, 8] 3 1599 2047 Hz (.move rfl <| .extract rfl rfl <| .extract rfl rfl .nil) fun Az Hz => ?_
  refine se 11 ?_
  refine stw Hz m315 28 fct17 fun w320 m320 _ => ?_
  refine se 12 ?_
  refine stw Hz m320 29 fct19 fun w321 m321 _ => ?_
  refine wpAnyE_done (by kernel_rfl) ?_ _
  have m322 := m321.closeC 24 rfl
  show K25 _ _
  exact hC25 _ _ ⟨y, _, _, _, _, _, _, _, _, _, _, _, _, _, _, _, hyS, Hz.only [0, 4, 7, 8, 11, 12], m322.ren [(1, 1), (2, 2), (4, 20), (8, 24), (11, 28), (12, 29), (13, 30), (14, 31), (15, 32)] (by decide)⟩
 refine e_alloc Hz m276 28 fct21 rfl fun g323 Az w324 Hz m324 _ _ => ?_
 refine ⟨fun _ => (m324.to ⟨il, il, il, il, il, il, il, il, il, il, trivial⟩), ?_⟩
 refine dtw 5 9 ?_ ?_
 ·
  refine ecl Hz Try.func62 rfl (rDoAny _ x n (hM.2 _ (List.mem_of_getElem? hes)) hn items _ _ _ _ _ _ _ _ _ _ _ _ _ _ _ _ _ _ _ _ (by omega) (fun e he => itok (hii e he).1) (fun e he => (hii e he).2) (m324.into [(1, 25), (2, 26), (3, 27), (4, 22)] (by decide) rfl)) ?_
  rintro e w325 ⟨y, e9, rl, rf, rn, p1325, p2325, p3325, d1325, d2325, d3325, rfl, hyo, hyS, hm325⟩
  have mx325 := m324.back hm325 [(29, 1), (30, 2), (31, 3)] (by decide); clear hm325 m324
  have m325 := mx325.oz [29, 30, 31, 1, 2, 20, 21, 23, 24, 28]
  refine ⟨_, rfl, ?_⟩; intro Az Hz
  refine ⟨fun h => (Bool.false_ne_true (h.symm.trans (by rfl))).elim, ?_⟩
  refine goB hP276 [6, 7, 8] 3 1087 1535 Hz (.move rfl <| .extract rfl rfl <| .extract rfl rfl .nil) fun Az Hz => ?_
  refine se 9 ?_
  refine e_alloc Hz m325 32 fct20 rfl fun g330 Az w331 Hz m331 _ _ => ?_
  refine se 11 ?_
  refine stw Hz m331 32 fct17 fun w332 m332 _ => ?_
  refine se 12 ?_
  refine stw Hz m332 28 fct19 fun w333 m333 _ => ?_
  refine wpAnyE_done (by kernel_rfl) ?_ _
  have m334 := m333.closeC 24 rfl
  show K25 _ _
  exact hC25 _ _ ⟨y, _, _, _, _, _, _, _, _, _, _, _, _, _, _, _, hyS, Hz.only [0, 4, 7, 8, 11, 12], m334.ren [(1, 1), (2, 2), (4, 20), (8, 24), (11, 32), (12, 28), (13, 29), (14, 30), (15, 31)] (by decide)⟩
 refine e_alloc Hz m324 29 fct20 rfl fun g335 Az w336 Hz m336 _ _ => ?_
 refine ⟨fun _ => (m336.to ⟨il, il, il, il, il, il, il, il, il, il, trivial⟩), ?_⟩
 refine se 5 ?_
 refine ecl Hz Try.func62 rfl (rDoAny _ x n (hM.2 _ (List.mem_of_getElem? hes)) hn items _ _ _ _ _ _ _ _ _ _ _ _ _ _ _ _ _ _ _ _ (by omega) (fun e he => itok (hii e he).1) (fun e he => (hii e he).2) (m336.into [(1, 25), (2, 26), (3, 27), (4, 22)] (by decide) rfl)) ?_
 rintro e w337 ⟨y, e9, rl, rf, rn, p1337, p2337, p3337, d1337, d2337, d3337, rfl, hyo, hyS, hm337⟩
 have mx337 := m336.back hm337 [(30, 1), (31, 2), (32, 3)] (by decide); clear hm337 m336
 have m337 := mx337.oz [30, 31, 32, 1, 2, 20, 21, 23, 24, 28, 29]
 refine ⟨_, rfl, ?_⟩; intro Az Hz
 refine goB hP276 [6, 7, 8] 3 1599 2047 Hz (.move rfl <| .extract rfl rfl <| .extract rfl rfl .nil) fun Az Hz => ?_
 refine se 11 ?_
 refine stw Hz m337 29 fct17 fun w342 m342 _ => ?_
 refine se 12 ?_
 refine stw Hz m342 28 fct19 fun w343 m343 _ => ?_
 refine wpAnyE_done (by kernel_rfl) ?_ _
 have m344 := m343.closeC 24 rfl
 show K25 _ _
 exact hC25 _ _ ⟨y, _, _, _, _, _, _, _, _, _, _, _, _, _, _, _, hyS, Hz.only [0, 4, 7, 8, 11, 12], m344.ren [(1, 1), (2, 2), (4, 20), (8, 24), (11, 29), (12, 28), (13, 30), (14, 31), (15, 32)] (by decide)⟩
end Go.Proofs.Yteglmahnkfgelaa.K
end
section
namespace Go.Proofs.Yteglmahnkfgelaa.K
open Go.ChangeShapes Go.WideShapes Go.ChangeAt Go.RowKit
set_option linter.unusedVariables false
set_option linter.unusedSimpArgs false
theorem fl67sV : flatS Try.prog 67 [.slice none 0 0] = true := by kernel_rfl
set_option maxRecDepth 100000
set_option maxHeartbeats 4000000
theorem scmd_no (vo bl sz pe to ne fl : Int) (hi : Bool) (pp pn pw : Option Addr) (np cp nn9 cn9 nw cw : Nat) (wh xa xb xc : Int) (w0 : World) (hvo : 0 ≤ vo ∧ vo ≤ 255) (hw9 : 0 ≤ wh ∧ wh ≤ 255) (ha9 : 0 ≤ xa ∧ xa ≤ 255) (hb9 : 0 ≤ xb ∧ xb ≤ 255) (hc9 : 0 ≤ xc ∧ xc ≤ 255) :
   Calls Try.prog 23 #[.agg #[.int .i64 vo, .int .i64 bl, .int .i64 sz, .int .i64 pe, .slice pp np cp, .int .i64 to, .int .i64 ne, .bool hi, .int .i64 fl, .slice pn nn9 cn9, .slice pw nw cw], .bool false, .int .u8 wh, .int .u8 xa, .int .u8 xb, .int .u8 xc] w0 fun e w' => ∃ (vo2 bl2 sz2 pe2 to2 : Int) (place : List Int) (pp : Option Addr) (cp : Nat), e = .returned (.agg #[.int .i64 1, .int .i64 vo2, .int .i64 bl2, .int .i64 sz2, .int .i64 pe2, .slice pp place.length cp, .int .i64 to2, .int .i64 0, .int .i64 0, .slice none 0 0]) ∧ place.length ≤ 9 ∧ Rd (New w0) w' (.slice pp place.length cp) (.ns .i64 place) ∧ Below w0.heap.size w0 w' := by
 refine ent6 Try.func23 rfl Try.ntmps23 fun Az Hz => ?_
 have m0 := MemOk.start (fun _ => False) w0
 obtain ⟨tq, htq, htq0, htq3⟩ : ∃ x : Int, (xc / 4).tmod 3 = x ∧ 0 ≤ x ∧ x ≤ 2 := ⟨_, rfl, by rw [Int.tmod_eq_emod_of_nonneg (by omega)]; omega, by rw [Int.tmod_eq_emod_of_nonneg (by omega)]; omega⟩
 refine zsr fun K0 hK0 => ?_
 refine plz (e_box Hz m0 20 (cs := [_, _, _, _, _, _, _, _, _, _, _]) rfl rfl rfl fun g1 Az w2 Hz m2 _ _ => ?_)
 refine plz (e_alloc Hz m2 21 fct23 rfl fun g3 Az w4 Hz m4 _ _ => ?_)
 refine znl (hK0 _ _ ?_)
 refine wsk fun K1 hK1 => ?_
 refine regS Hz (.move rfl <| .not rfl .nil) fun Az Hz => ?_
 refine wct Hz ?_
 refine regS Hz (.assign rfl .nil) fun Az Hz => ?_
 refine wsk fun K2 hK2 => ?_
 refine regS Hz (.move rfl <| .rem rfl rfl (by decide) rfl <| .eql rfl rfl .nil) fun Az Hz => ?_
 refine bc Hz 19 ?_ ?_
 ·
  intro hb11 Hz; try simp only [QQ, Qax] at hb11
  refine wct Hz ?_
  replace Hz := Hz.oz [2, 3, 4, 5, 6, 12, 13]
  refine wp_region_lit ?_
  refine gz hK2 Hz (.move rfl <| .quo rfl rfl (by decide) (r := xc / 4) (by rw [Int.tdiv_eq_ediv_of_nonneg (by omega)]; exact IntWalk.u8_in _ (by omega)) <| .rem rfl rfl (by decide) (r := tq) htq <| .conv rfl U5 U3 (r := tq) (IntWalk.i64_in _ (by omega)) <| .add rfl rfl (IntWalk.i64_in _ (by omega)) <| .assign rfl <| .nil) fun Az Hz => ?_
  refine zsr fun K3 hK3 => ?_
  refine goCh Hz (.fa 0 rfl U28 <| .lb m4 20 U3 rfl rfl rfl <| .conv rfl U3 U5 (r := vo) (IntWalk.u8_in _ (by omega)) <| .move rfl <| .move rfl <| .move rfl <| .move rfl .nil) fun Az Hz => ?_
  refine plz (ecl Hz Try.func26 rfl (create_any vo xa xb xc _ _ hvo ha9 hb9 hc9) ?_)
  rintro e w33 ⟨bl2, sz2, pe2, place, p33, c33, rfl, -, -, -, -, -, -, -, hpl9, hd33, hb33⟩
  have m34 := m4.callF 22 rfl hb33 hd33
  refine ⟨_, rfl, ?_⟩; intro Az Hz
  refine plz (stw Hz m34 21 fct18 fun w36 m36 _ => ?_)
  refine znl (hK3 _ _ ?_)
  refine rtd (retC (fn := Try.f23) Hz m36 (i := 21) rfl rfl rfl U73 rfl fct18 ?_)
  exact ⟨_, _, _, _, _, place, _, _, rfl, hpl9, m36.outF (i := 22) rfl, m36.below⟩
 intro hb11 Hz; try simp only [QQ, Qax] at hb11
 refine wcf Hz ?_
 refine zss (hK2 _ _ ?_)
 replace Hz := Hz.oz [2, 3, 4, 5, 6, 12, 13]
 refine zsr fun K4 hK4 => ?_
 refine goCh Hz (.fa 0 rfl U28 <| .lb m4 20 U3 rfl rfl rfl <| .conv rfl U3 U5 (r := vo) (IntWalk.u8_in _ (by omega)) <| .move rfl <| .move rfl <| .move rfl <| .move rfl .nil) fun Az Hz => ?_
 refine plz (ecl Hz Try.func26 rfl (create_any vo xa xb xc _ _ hvo ha9 hb9 hc9) ?_)
 rintro e w52 ⟨bl2, sz2, pe2, place, p52, c52, rfl, -, -, -, -, -, -, -, hpl9, hd52, hb52⟩
 have m53 := m4.callF 22 rfl hb52 hd52
 refine ⟨_, rfl, ?_⟩; intro Az Hz
 refine plz (stw Hz m53 21 fct18 fun w55 m55 _ => ?_)
 refine znl (hK4 _ _ ?_)
 refine rtd (retC (fn := Try.f23) Hz m55 (i := 21) rfl rfl rfl U73 rfl fct18 ?_)
 exact ⟨_, _, _, _, _, place, _, _, rfl, hpl9, m55.outF (i := 22) rfl, m55.below⟩
theorem scmd_q (n : Nat) (x : VolV) (there : Bool) (p1 p2 p3 : Option Addr) (d1 d2 d3 : Nat) (wh xa xb xc : Int) (w0 : World) (hx : there = true → VolS n x) (hx0 : there = false → x = volZ) (hn : n ≤ 800000) (hw9 : 0 ≤ wh ∧ wh ≤ 255) (ha9 : 0 ≤ xa ∧ xa ≤ 255) (hb9 : 0 ≤ xb ∧ xb ≤ 255) (hc9 : 0 ≤ xc ∧ xc ≤ 255) :
   Calls Try.prog 23 #[.agg #[.int .i64 x.vo, .int .i64 x.bl, .int .i64 x.sz, .int .i64 x.pe, .slice p1 x.place.length d1, .int .i64 x.to, .int .i64 x.ne, .bool x.hi, .int .i64 x.fl, .slice p2 x.pins.length d2, .slice p3 (x.ws.map wrD).length d3], .bool there, .int .u8 wh, .int .u8 xa, .int .u8 xb, .int .u8 xc] w0 fun e w' => ∃ (kd vo2 bl2 sz2 pe2 to2 at0 ix : Int) (place : List Int) (it : List (Int × List Int)) (pp : Option Addr) (cp : Nat) (pi : Option Addr) (ci : Nat), e = .returned (.agg #[.int .i64 kd, .int .i64 vo2, .int .i64 bl2, .int .i64 sz2, .int .i64 pe2, .slice pp place.length cp, .int .i64 to2, .int .i64 at0, .int .i64 ix, .slice pi it.length ci]) ∧ place.length ≤ 9 ∧ it.length ≤ 8 ∧ ItsB it ∧ Rd (New w0) w' (.slice pp place.length cp) (.ns .i64 place) ∧ Rd (New w0) w' (.slice pi it.length ci) (.l 2 (it.map itD)) ∧ Below w0.heap.size w0 w' := by
 cases there
 · obtain rfl := hx0 rfl
   refine (scmd_no 0 0 0 0 0 0 0 false p1 p2 p3 0 d1 0 d2 0 d3 wh xa xb xc w0 (by omega) hw9 ha9 hb9 hc9).mono ?_
   rintro e w' ⟨vo2, bl2, sz2, pe2, to2, place, pp, cp, rfl, hp, hd, hb⟩
   exact ⟨1, vo2, bl2, sz2, pe2, to2, 0, 0, place, [], pp, cp, none, 0, rfl, hp, by simp, (fun e h => by cases h), hd, Rd.l0 none 0 2, hb⟩
 obtain ⟨h1, h2, h3, h4, -⟩ := hx rfl
 obtain ⟨vo, bl, sz, pe, place0, to, ne, hi, fl, pins, ws⟩ := x
 simp only at *
 obtain ⟨⟨a1, a2, a3, a4, a5, a6, a7, a8, a9, a10, a11⟩, b1, b2, b3⟩ := h1
 obtain ⟨z, rfl⟩ : ∃ z : Nat, sz = (z : Int) := ⟨sz.toNat, by omega⟩
 refine (scmd_any vo bl z pe to ne fl hi p1 p2 p3 place0.length d1 pins.length d2 (ws.map wrD).length d3 wh xa xb xc w0 (by omega) (by rw [List.length_map]; omega) (by omega) hw9 ha9 hb9 hc9).mono ?_
 rintro e w' ⟨kd, bl2, sz2, pe2, to2, at0, ix, vo2, it, pi, ci, dd, rfl, hkd, hit, hib, hd, hb⟩
 exact ⟨kd, vo2, bl2, sz2, pe2, to2, at0, ix, [], it, none, 0, pi, ci, rfl, by simp, hit, hib, Rd.nilN _ _ .i64 none, hd, hb⟩
theorem svol_any (l : List Int) (pl : Option Addr) (cl : Nat) (w0 : World) (h0 : Rd (fun _ => True) w0 (.slice pl l.length cl) (.ns .u8 l)) (hl : l.length ≤ 100000) (hlb : ∀ j, j < l.length → 0 ≤ l.getD j 0 ∧ l.getD j 0 ≤ 255) :
   Calls Try.prog 6 #[.slice pl l.length cl] w0 fun e w' => ∃ (x : VolV) (p1 p2 p3 : Option Addr) (d1 d2 d3 : Nat), e = .returned (.agg #[.int .i64 x.vo, .int .i64 x.bl, .int .i64 x.sz, .int .i64 x.pe, .slice p1 x.place.length d1, .int .i64 x.to, .int .i64 x.ne, .bool x.hi, .int .i64 x.fl, .slice p2 x.pins.length d2, .slice p3 (x.ws.map wrD).length d3]) ∧ VolS l.length x ∧ Rd (New w0) w' (.slice p1 x.place.length d1) (.ns .i64 x.place) ∧ Rd (New w0) w' (.slice p2 x.pins.length d2) (.ns .i64 x.pins) ∧ Rd (New w0) w' (.slice p3 (x.ws.map wrD).length d3) (.l 2 (x.ws.map wrD)) ∧ Below w0.heap.size w0 w' := by
 refine ent1 Try.func6 rfl Try.ntmps6 fun Az Hz => ?_
 have m0 := MemOk.start (fun _ => False) w0
 refine zsr fun K0 hK0 => ?_
 refine plz (e_alloc Hz m0 20 fct20 rfl fun g1 Az w2 Hz m2 _ _ => ?_)
 refine znl (hK0 _ _ ?_)
 refine zsr fun K1 hK1 => ?_
 refine goCh Hz (.build rfl fct30 fl67sV rfl (by dsimp only [setL, List.set] <;> rfl) .nil) fun Az Hz => ?_
 refine plz (e_box Hz m2 21 (cs := [_]) rfl rfl rfl fun g5 Az w6 Hz m6 _ _ => ?_)
 refine gz hK1 Hz (.assign rfl .nil) fun Az Hz => ?_
 refine wsk fun K2 hK2 => ?_
 refine regS Hz (.assign rfl .nil) fun Az Hz => ?_
 refine wp_block ?_
 refine wp_loop_ghost (fun g a w => ∃ (i k B2 B c : Nat) (L : List VolV) (p : Option Addr), i ≤ l.length ∧ k ≤ i ∧ g = l.length - i ∧ MacS k L ∧ Has 72 [(0, .slice pl l.length cl), (2, .pointer (some ⟨B2, 0, none⟩)), (3, .pointer (some ⟨B, 0, none⟩)), (4, .int .i64 i)] a ∧ MemOk (cn w0) w0 [(1, .box B 67 [.slice p (L.map volD).length c]), (2, .dat (.slice p (L.map volD).length c) (.l 11 (L.map volD))), (3, .box B2 28 [.int .i64 0, .int .i64 0, .int .i64 0, .int .i64 0, .slice none 0 0, .int .i64 0, .int .i64 0, .bool false, .int .i64 0, .slice none 0 0, .slice none 0 0])] w) (l.length) ?_ ?_
 · have mz := m6.dat 2 rfl (Rd.l0 none 0 11)
   exact ⟨0, 0, _, _, _, [], _, Nat.zero_le _, Nat.zero_le _, rfl, ⟨Nat.zero_le _, fun x h => by cases h⟩, Hz.only [0, 2, 3, 4], mz.ren [(1, 21), (2, 2), (3, 20)] (by decide)⟩
 clear Hz m6
 rintro g Az w9 ⟨i, k, B2, B, c, L, p, hil, hki, hg, hM, Hz, m9⟩
 refine wsk fun K3 hK3 => ?_
 refine regS Hz (.move rfl <| .inc (i + 3) <| .move rfl <| .len rfl U22 <| .lss rfl rfl .nil) fun Az Hz => ?_
 refine bc Hz 17 ?_ ?_
 ·
  intro hb15 Hz; try simp only [QQ, Qax] at hb15
  have hi9 : i + 3 < l.length := by omega
  refine wct Hz ?_
  refine zss (hK3 _ _ ?_)
  refine wsk fun K4 hK4 => ?_
  refine wp_block ?_
  refine zsr fun K5 hK5 => ?_
  refine goCh Hz (.move rfl .nil) fun Az Hz => ?_
  refine plz (ecl Hz Try.func21 rfl (rmVol _ _ L _ _ _ _ (by have := hM.1; omega) (m9.into [(1, 1), (2, 2)] (by decide) rfl)) ?_)
  rintro e w18 ⟨x, th, p118, p218, p318, d118, d218, d318, rfl, hx1, hx0, hm18⟩
  have mx18 := m9.back hm18 [(1, 1), (2, 2), (100, 3), (101, 4), (102, 5)] (by decide); clear hm18 m9
  have m18 := mx18.oz [1, 2, 100, 101, 102, 3]
  refine ⟨_, rfl, ?_⟩; intro Az Hz
  refine goCh Hz (.move rfl <| .extract rfl rfl <| .extract rfl rfl .nil) fun Az Hz => ?_
  refine plz (e_alloc Hz m18 103 fct20 rfl fun g23 Az w24 Hz m24 _ _ => ?_)
  refine plz (stw Hz m24 103 fct17 fun w25 m25 _ => ?_)
  refine gz hK5 Hz (.assign rfl .nil) fun Az Hz => ?_
  refine wsk fun K6 hK6 => ?_
  replace Hz := Hz.oz [0, 2, 3, 4, 5, 6]
  obtain ⟨gx29, ox29, hp29, hl29, hrg29⟩ := h0.extN (i) (by omega)
  revert Hz
  cases hp29
  intro Hz
  obtain ⟨gx31, ox31, hp31, hl31, hrg31⟩ := h0.extN (i + 1) (by omega)
  revert Hz
  cases hp31
  intro Hz
  obtain ⟨gx33, ox33, hp33, hl33, hrg33⟩ := h0.extN (i + 2) (by omega)
  revert Hz
  cases hp33
  intro Hz
  obtain ⟨gx35, ox35, hp35, hl35, hrg35⟩ := h0.extN (i + 3) (by omega)
  revert Hz
  cases hp35
  intro Hz
  have m36 := m25.oz [1, 2, 3, 100, 101, 102, 103]
  refine region_p 21 (B := [(1, _), (2, _), (3, _), (100, _), (101, _), (102, _), (103, _)]) (m36.to ⟨il, il, il, il, il, il, il, trivial⟩) m36 (by kernel_rfl) (fun w37 hP37 m37 => ?_); clear m36
  refine goR hP37 [0, 1, 2, 3, 4, 5, 6, 7, 8, 9, 10, 11, 12, 13, 14, 15, 16, 17, 18, 19, 20] [0, 5, 10, 15, 20] 21 0 2097151 Hz (m37.to ⟨il, il, il, il, il, il, il, trivial⟩) (.loadBR hh (i := 103) rfl rfl U28 rfl fct17 (by simp) (by dsimp only [List.drop, List.take] <;> rfl) <| .move rfl <| .move rfl <| .move rfl <| .p (fun _ _ h => y_idx h rfl rfl U22 fct15 (i) rfl (by omega)) <| .loadAt1 (fun _ h => (hrg29 h rfl)) (q := 0) rfl rfl rfl U5 rfl <| .move rfl <| .move rfl <| .add rfl rfl (r := ((i + 1 : Nat) : Int)) (by rw [IntWalk.i64_in _ (by omega)]; omega) <| .p (fun _ _ h => y_idx h rfl rfl U22 fct15 (i + 1) rfl (by omega)) <| .loadAt1 (fun _ h => (hrg31 h rfl)) (q := 0) rfl rfl rfl U5 rfl <| .move rfl <| .move rfl <| .add rfl rfl (r := ((i + 2 : Nat) : Int)) (by rw [IntWalk.i64_in _ (by omega)]; omega) <| .p (fun _ _ h => y_idx h rfl rfl U22 fct15 (i + 2) rfl (by omega)) <| .loadAt1 (fun _ h => (hrg33 h rfl)) (q := 0) rfl rfl rfl U5 rfl <| .move rfl <| .move rfl <| .add rfl rfl (r := ((i + 3 : Nat) : Int)) (by rw [IntWalk.i64_in _ (by omega)]; omega) <| .p (fun _ _ h => y_idx h rfl rfl U22 fct15 (i + 3) rfl (by omega)) <| .loadAt1 (fun _ h => (hrg35 h rfl)) (q := 0) rfl rfl rfl U5 rfl .nil) fun Az Hz => ?_
  refine se 21 ?_
  refine ecl Hz Try.func23 rfl (scmd_q k x th _ _ _ _ _ _ _ _ _ _ _ (fun h => hM.2 _ (hx1 h)) hx0 (by omega) (hlb _ (by omega)) (hlb _ (by omega)) (hlb _ (by omega)) (hlb _ (by omega))) ?_
  rintro e w59 ⟨kd, vo2, bl2, sz2, pe2, to2, at0, ix, place, it, pp59, cp59, pi59, ci59, rfl, hpl9, hit8, hitb, hd59, he59, hb59⟩
  have m60 := m37.callF2 104 105 rfl rfl hb59 hd59 he59
  refine ⟨_, rfl, ?_⟩; intro Az Hz
  refine se 22 ?_
  refine ecl Hz Try.func22 rfl (rputCmd _ _ _ _ _ _ _ _ place it _ _ _ _ _ _ ((m60.rd (i := 104) rfl).any) ((m60.rd (i := 105) rfl).any) (by omega) (by omega) (fun e he => (hitb e he).2)) ?_
  rintro e w62 ⟨bs, p62, c62, e9, rfl, hbs, hbb, hd62, hb62⟩
  have m63 := m60.callF 106 rfl hb62 hd62
  refine ⟨_, rfl, ?_⟩; intro Az Hz
  refine goB hP37 [23, 24, 25, 26, 27] 5 8388607 268435455 Hz (.move rfl <| .extract rfl rfl <| .extract rfl rfl <| .assign rfl <| .assign rfl .nil) fun Az Hz => ?_
  refine wpAnyE_done (by kernel_rfl) ?_ _
  refine hK6 _ _ ?_
  replace Hz := Hz.oz [0, 2, 3, 4, 28, 7]
  refine wp_region_lit ?_
  refine goCh Hz (.move rfl <| .move rfl .nil) fun Az Hz => ?_
  refine plz (ecl Hz Try.func24 rfl (rmApply _ _ k L _ _ bs _ _ _ hM (by omega) (by omega) hbb (m63.into [(1, 1), (2, 2), (3, 106)] (by decide) rfl)) ?_)
  rintro e w73 ⟨e1, rl1, rf1, rn1, L2, p73, c73, rfl, hM2, hm73⟩
  have mx73 := m63.back hm73 [(1, 1), (2, 2)] (by decide); clear hm73 m63
  have m73 := mx73.oz [1, 2, 3, 100, 101, 102, 103, 104, 105]
  refine ⟨_, rfl, ?_⟩; intro Az Hz
  refine znl (hK4 _ _ ?_)
  refine wp_region_lit ?_
  refine goCh Hz (.move rfl <| .inc (i + 4) <| .assign rfl .nil) fun Az Hz => ?_
  refine wpList_nil ?_
  show ∃ n', n' < _ ∧ _
  exact ⟨l.length - (i + 4), by omega, i + 4, k + 1, _, _, _, L2, _, by omega, by omega, rfl, hM2, Hz.only [0, 2, 3, 4], m73.ren [(1, 1), (2, 2), (3, 3)] (by decide)⟩
 intro hb15 Hz; try simp only [QQ, Qax] at hb15
 refine wcf Hz ?_
 refine wp_exit ?_
 refine hK2 _ _ ?_
 refine wsk fun K7 hK7 => ?_
 refine regS Hz (.move rfl <| .nilCheck rfl <| .fa 0 rfl U67 <| .lb m9 1 U65 rfl rfl rfl <| .len rfl U65 <| .eql rfl rfl .nil) fun Az Hz => ?_
 refine bc Hz 59 ?_ ?_
 ·
  intro hb84 Hz; try simp only [QQ, Qax] at hb84
  refine wct Hz ?_
  replace Hz := Hz.oz [0, 2, 3, 4]
  refine zsr fun K8 hK8 => ?_
  refine plz (ecl Hz Try.func26 rfl (create_any 0 3 1 1 0 _ (by omega) (by omega) (by omega) (by omega)) ?_)
  rintro e w86 ⟨bl2, sz2, pe2, place, p86, c86, rfl, hbl1, hbl9, hsz1, hsz3, hpe1, hpeb, hplc, hpl9, hd86, hb86⟩
  have m87 := m9.callF 100 rfl hb86 hd86
  refine ⟨_, rfl, ?_⟩; intro Az Hz
  have hN : NewOk (Int.tmod 0 3) bl2 sz2 pe2 0 place := ⟨by decide, by decide, by omega, by omega, by omega, by omega, by omega, by omega, hplc, by omega, by omega⟩
  refine plz (ecl Hz Try.func25 rfl (rnew_yes _ _ bl2 sz2 pe2 0 _ _ place _ _ _ _ _ _ ((m87.rd (i := 100) rfl).any) (by omega) hN) ?_)
  rintro e w89 ⟨p89, c89, rfl, hd89, hb89⟩
  have m90 := m87.callF 101 rfl hb89 hd89
  refine ⟨_, rfl, ?_⟩; intro Az Hz
  refine goCh Hz (.move rfl <| .extract rfl rfl <| .extract rfl rfl .nil) fun Az Hz => ?_
  refine plz (e_alloc Hz m90 102 fct20 rfl fun g95 Az w96 Hz m96 _ _ => ?_)
  refine plz (stw Hz m96 102 fct17 fun w97 m97 _ => ?_)
  refine gz hK8 Hz (.assign rfl .nil) fun Az Hz => ?_
  replace Hz := Hz.oz [0, 2, 3, 4, 9]
  refine zsr fun K9 hK9 => ?_
  refine goCh Hz (.loadBR m97 (i := 102) rfl rfl U28 rfl fct17 (by simp) (by dsimp only [List.drop, List.take] <;> rfl) .nil) fun Az Hz => ?_
  refine plz (stw Hz m97 3 fct17 fun w102 m102 _ => ?_)
  refine znl (hK9 _ _ ?_)
  refine rtd (retC (fn := Try.f6) Hz m102 (i := 3) rfl rfl rfl U28 rfl fct17 ?_)
  exact ⟨newV (Int.tmod 0 3) bl2 sz2 pe2 0 place, _, _, _, _, _, _, rfl, newV_s hN, m102.outF (i := 101) rfl, Rd.nilN _ _ .i64 none, Rd.l0 none 0 2, m102.below⟩
 intro hb84 Hz; try simp only [QQ, Qax] at hb84
 have hL0 : 0 < L.length := by simp at hb84; exact List.length_pos_iff.2 hb84
 obtain ⟨x, hes⟩ : ∃ x, L[0]? = some x := ⟨_, List.getElem?_eq_getElem hL0⟩
 refine wcf Hz ?_
 refine zss (hK7 _ _ ?_)
 replace Hz := Hz.oz [0, 2, 3, 4]
 refine zsr fun K10 hK10 => ?_
 refine goCh Hz (.move rfl <| .nilCheck rfl <| .fa 0 rfl U67 <| .lb m9 1 U65 rfl rfl rfl .nil) fun Az Hz => ?_
 obtain ⟨b113, o113, vs113, hp113, hR113, ho113, m113⟩ := m9.openR (i := 2) rfl (0) (r := [.v (.int .i64 x.vo), .v (.int .i64 x.bl), .v (.int .i64 x.sz), .v (.int .i64 x.pe), .ns .i64 x.place, .v (.int .i64 x.to), .v (.int .i64 x.ne), .v (.bool x.hi), .v (.int .i64 x.fl), .ns .i64 x.pins, .l 2 (x.ws.map wrD)]) (volD_get hes) 100 rfl
 revert Hz
 cases hp113; clear m9 ho113
 rcases hR113 with _ | ⟨hd113_0, _ | ⟨hd113_1, _ | ⟨hd113_2, _ | ⟨hd113_3, _ | ⟨hd113_4, _ | ⟨hd113_5, _ | ⟨hd113_6, _ | ⟨hd113_7, _ | ⟨hd113_8, _ | ⟨hd113_9, _ | ⟨hd113_10, _ | _⟩⟩⟩⟩⟩⟩⟩⟩⟩⟩⟩
 obtain rfl := hd113_0.v_out
 clear hd113_0
 obtain rfl := hd113_1.v_out
 clear hd113_1
 obtain rfl := hd113_2.v_out
 clear hd113_2
 obtain rfl := hd113_3.v_out
 clear hd113_3
 obtain ⟨p114, c114, hv114, hc114⟩ := hd113_4.ns_shape; subst hv114
 intro Hz
 have m114 := m113.dat 101 rfl (hd113_4.cast (fun _ h => (free_add rfl h))); clear m113 hd113_4
 revert Hz
 obtain rfl := hd113_5.v_out
 clear hd113_5
 obtain rfl := hd113_6.v_out
 clear hd113_6
 obtain rfl := hd113_7.v_out
 clear hd113_7
 obtain rfl := hd113_8.v_out
 clear hd113_8
 obtain ⟨p115, c115, hv115, hc115⟩ := hd113_9.ns_shape; subst hv115
 intro Hz
 have m115 := m114.dat 102 rfl (hd113_9.cast (fun _ h => (free_add rfl (free_add rfl h)))); clear m114 hd113_9
 revert Hz
 obtain ⟨p116, c116, hv116, hc116⟩ := hd113_10.l_shape; subst hv116
 intro Hz
 have m116 := m115.dat 103 rfl (hd113_10.cast (fun _ h => (free_add rfl (free_add rfl (free_add rfl h))))); clear m115 hd113_10
 refine goCh Hz (.c rfl (fun _ h => y_idx h rfl rfl U65 fct17 (0) rfl (by simpa using hL0)) <| .loadCR m116 (i := 100) rfl rfl U28 rfl fct17 .nil) fun Az Hz => ?_
 refine plz (stw Hz m116 3 fct17 fun w119 m119 _ => ?_)
 refine znl (hK10 _ _ ?_)
 refine rtd (retC (fn := Try.f6) Hz m119 (i := 3) rfl rfl rfl U28 rfl fct17 ?_)
 exact ⟨x, _, _, _, _, _, _, rfl, (hM.2 _ (List.mem_of_getElem? hes)).up (by omega), m119.outF (i := 101) rfl, m119.outF (i := 102) rfl, m119.outF (i := 103) rfl, m119.below⟩
end Go.Proofs.Yteglmahnkfgelaa.K
end
section
namespace Go.Proofs.Yteglmahnkfgelaa.K
open Go.ChangeShapes Go.WideShapes Go.ChangeAt Go.RowKit
set_option linter.unusedVariables false
set_option linter.unusedSimpArgs false
def WrsB (ws : List (Int × List (Int × List Int))) : Prop := ∀ e ∈ ws, e.2.length ≤ 8 ∧ ItsB e.2
theorem WrsB.ok {ws : List (Int × List (Int × List Int))} (h : WrsB ws) : WrsOk ws := fun e he => ⟨Nat.le_trans (h e he).1 (by decide), (h e he).2.ok⟩
set_option maxRecDepth 100000
set_option maxHeartbeats 4000000
end Go.Proofs.Yteglmahnkfgelaa.K
end
section
namespace Go.Proofs.Yteglmahnkfgelaa.K
open Go.ChangeShapes Go.WideShapes Go.ChangeAt Go.RowKit
set_option linter.unusedVariables false
set_option linter.unusedSimpArgs false
set_option maxRecDepth 100000
set_option maxHeartbeats 4000000
end Go.Proofs.Yteglmahnkfgelaa.K
end
section
namespace Go.Proofs.Yteglmahnkfgelaa.K
open Go.ChangeShapes Go.WideShapes Go.ChangeAt Go.RowKit
set_option linter.unusedVariables false
set_option linter.unusedSimpArgs false
def pinT (fl n : Int) (z : Int) : Int := fl + z % (n - fl + 1)
abbrev stZ (bl sz : Int) : List (List Int) := List.replicate bl.toNat (List.replicate sz.toNat 0)
abbrev stL (bl sz : Int) (ws : List PWr) (t : Nat) : List (List Int) := (ws.take t).foldl stW (stZ bl sz)
theorem stStep_len (L : List (List Int)) (x : PI) : (stStep L x).length = L.length := by unfold stStep; split <;> simp
theorem stSteps_len (l : List PI) : ∀ L : List (List Int), (l.foldl stStep L).length = L.length := by
 induction l with
 | nil => intro L; rfl
 | cons x l ih => intro L; rw [List.foldl_cons, ih, stStep_len]
theorem stW_len (L : List (List Int)) (x : PWr) : (stW L x).length = L.length := stSteps_len _ _
theorem stWs_len (l : List PWr) : ∀ L : List (List Int), (l.foldl stW L).length = L.length := by
 induction l with
 | nil => intro L; rfl
 | cons x l ih => intro L; rw [List.foldl_cons, ih, stW_len]
theorem stL_len (bl sz : Int) (ws : List PWr) (t : Nat) : (stL bl sz ws t).length = bl.toNat := by rw [stWs_len, List.length_replicate]
def wantF (i : Nat) (d : List Int) (x : PI) : List Int := if x.1 = (i : Int) then x.2 else d
set_option maxRecDepth 100000
set_option maxHeartbeats 4000000
end Go.Proofs.Yteglmahnkfgelaa.K
end
