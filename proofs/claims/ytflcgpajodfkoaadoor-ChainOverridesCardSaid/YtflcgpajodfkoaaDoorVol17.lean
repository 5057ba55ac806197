/- volume: the reference's Do; the seat's calls. -/
import Derived.Test.YtflcgpajodfkoaaDoorVol16
namespace Go.Proofs.YtflcgpajodfkoaaDoor.K
open Go.ChangeShapes Go.WideShapes Go.ChangeAt Go.RowKit
set_option linter.unusedVariables false
set_option linter.unusedSimpArgs false
theorem fl90rD0 : flatS Tryd.prog 90 [.int .i64 0, .int .i64 0, .int .i64 0, .int .i64 0, .slice none 0 0] = true := by kernel_rfl
theorem fl90rD4 : flatS Tryd.prog 90 [.int .i64 0, .int .i64 0, .int .i64 0, .int .i64 0, .slice none 0 0] = true := by kernel_rfl
theorem fl90rD5 : flatS Tryd.prog 90 [.int .i64 0, .int .i64 0, .int .i64 0, .int .i64 0, .slice none 0 0] = true := by kernel_rfl
theorem fl87cm : flatS Tryd.prog 87 [.int .i64 0, .int .i64 0, .int .i64 0, .int .i64 0, .int .i64 0, .slice none 0 0, .int .i64 0, .int .i64 0, .int .i64 0, .slice none 0 0] = true := by kernel_rfl
theorem doR_err {bl sz to ne fl : Int} {hi : Bool} {pins : List Int} {ws : List (Int × List (Int × List Int))} {kd at0 ix : Int} {it : List (Int × List Int)} {ne' fl' e9 : Int} {hi' : Bool} {ws' : List (Int × List (Int × List Int))} (h : doR bl sz to ne fl hi pins ws kd at0 ix it = (ne', hi', fl', ws', e9)) (he : ¬ e9 = 0) : ne' = ne ∧ hi' = hi ∧ fl' = fl ∧ ws' = ws := by
 unfold doR putR pruneR takeR publishR wrR at h
 repeat' split at h
 all_goals (simp only [Prod.mk.injEq] at h; obtain ⟨rfl, rfl, rfl, rfl, rfl⟩ := h; first | exact ⟨rfl, rfl, rfl, rfl⟩ | exact absurd rfl he | (exfalso; revert he; simp; done) | simp_all)
theorem pinR_err {fl at0 n : Int} {hi : Bool} {pins pins' : List Int} {e9 : Int} (h : pinR hi fl at0 n pins = (pins', e9)) (he : ¬ e9 = 0) : pins' = pins := by
 unfold pinR at h
 split at h
 all_goals (simp only [Prod.mk.injEq] at h; obtain ⟨rfl, rfl⟩ := h; first | rfl | exact absurd rfl he)
theorem unpinR_err {at0 : Int} {hi : Bool} {pins pins' : List Int} {e9 : Int} (h : unpinR hi at0 pins = (pins', e9)) (he : ¬ e9 = 0) : pins' = pins := by
 unfold unpinR at h
 split at h
 all_goals (simp only [Prod.mk.injEq] at h; obtain ⟨rfl, rfl⟩ := h; first | rfl | exact absurd rfl he)
theorem b2 {a b : Int} (ha : 0 ≤ a ∧ a ≤ 255) (hb : 0 ≤ b ∧ b ≤ 255) : ∀ j, j < [a, b].length → 0 ≤ [a, b].getD j 0 ∧ [a, b].getD j 0 ≤ 255 := fun j hj => by
 match j, hj with
 | 0, _ => exact ha
 | 1, _ => exact hb
theorem b3 {a b c : Int} (ha : 0 ≤ a ∧ a ≤ 255) (hb : 0 ≤ b ∧ b ≤ 255) (hc : 0 ≤ c ∧ c ≤ 255) : ∀ j, j < [a, b, c].length → 0 ≤ [a, b, c].getD j 0 ∧ [a, b, c].getD j 0 ≤ 255 := fun j hj => by
 match j, hj with
 | 0, _ => exact ha
 | 1, _ => exact hb
 | 2, _ => exact hc
def SmallI (l : List (Int × List Int)) : Prop := l.length ≤ 12 ∧ ∀ e ∈ l, e.2.length ≤ 40
theorem SmallI.ok {l : List (Int × List Int)} (h : SmallI l) : ItsOk l := fun e he => Nat.le_trans (h.2 e he) (by decide)
set_option maxRecDepth 100000
set_option maxHeartbeats 4000000
theorem rDo (X : Cx) (vo bl sz pe to ne fl : Int) (hi : Bool) (place pins : List Int) (ws : List (Int × List (Int × List Int))) (items : List (Int × List Int)) (pp pn pw : Option Addr) (cp cn9 cw : Nat) (pi : Option Addr) (ci : Nat) (kd v1 v2 v3 v4 v5 at0 ix : Int) (q1 : Option Addr) (n1 c1 : Nat) (w0 : World) (hk4 : kd ≠ 4) (hk5 : kd ≠ 5) (hne : -1000000000000000 ≤ ne ∧ ne ≤ 1000000000000000) (hl : ws.length ≤ 900000) (hp : pins.length ≤ 1000000) (hil : items.length ≤ 1000000) (hio : ItsOk items) (m0 : MemOk X w0 [(1, .dat (.slice pp place.length cp) (.ns .i64 place)), (2, .dat (.slice pn pins.length cn9) (.ns .i64 pins)), (3, .dat (.slice pw (ws.map wrD).length cw) (.l 2 (ws.map wrD))), (4, .dat (.slice pi items.length ci) (.l 2 (items.map itD)))] w0) :
   Calls Tryd.prog 64 #[.agg #[.int .i64 vo, .int .i64 bl, .int .i64 sz, .int .i64 pe, .slice pp place.length cp, .int .i64 to, .int .i64 ne, .bool hi, .int .i64 fl, .slice pn pins.length cn9, .slice pw (ws.map wrD).length cw], .agg #[.int .i64 kd, .int .i64 v1, .int .i64 v2, .int .i64 v3, .int .i64 v4, .slice q1 n1 c1, .int .i64 v5, .int .i64 at0, .int .i64 ix, .slice pi items.length ci]] w0 fun e w' => ∃ (ne' : Int) (hi' : Bool) (fl' : Int) (ws' : List (Int × List (Int × List Int))) (e9 rl rf rn : Int) (p3' : Option Addr) (d3' : Nat), e = .returned (.tuple #[.agg #[.int .i64 vo, .int .i64 bl, .int .i64 sz, .int .i64 pe, .slice pp place.length cp, .int .i64 to, .int .i64 ne', .bool hi', .int .i64 fl', .slice pn pins.length cn9, .slice p3' (ws'.map wrD).length d3'], .agg #[.int .i64 e9, .int .i64 rl, .int .i64 rf, .int .i64 rn, .slice none 0 0]]) ∧ doR bl sz to ne fl hi pins ws kd at0 ix items = (ne', hi', fl', ws', e9) ∧ ((e9 ≠ 0 ∧ rl = 0 ∧ rf = 0 ∧ rn = 0) ∨ (e9 = 0 ∧ rl = ws'.length ∧ rf = fl' ∧ rn = ne')) ∧ MemOk X w0 [(1, .dat (.slice pp place.length cp) (.ns .i64 place)), (2, .dat (.slice pn pins.length cn9) (.ns .i64 pins)), (3, .dat (.slice pw (ws.map wrD).length cw) (.l 2 (ws.map wrD))), (4, .dat (.slice pi items.length ci) (.l 2 (items.map itD))), (7, .dat (.slice p3' (ws'.map wrD).length d3') (.l 2 (ws'.map wrD)))] w' := by
 refine ent2 Tryd.func64 rfl Tryd.ntmps64 fun Az Hz => ?_
 refine zsr fun K0 hK0 => ?_
 refine wpList_plain rfl (fun K hK => ?_)
 refine e_box Hz m0 20 (cs := [_, _, _, _, _, _, _, _, _, _, _]) rfl rfl rfl ?_
 clear Hz Az m0; intro g1 Az w2 Hz m2 hB2 hg2
 clear hB2 hg2
 refine hK _ _ ?_; clear hK
 refine wpList_plain rfl (fun K hK => ?_)
 refine e_box Hz m2 21 (cs := [_, _, _, _, _, _, _, _, _, _]) rfl rfl rfl ?_
 clear Hz Az m2; intro g3 Az w4 Hz m4 hB4 hg4
 clear hB4 hg4
 refine hK _ _ ?_; clear hK
 refine wpList_plain rfl (fun K hK => ?_)
 refine e_alloc Hz m4 22 fct12 rfl ?_
 clear Hz Az m4; intro g5 Az w6 Hz m6 hB6 hg6
 clear hB6 hg6
 refine hK _ _ ?_; clear hK
 refine wpList_plain rfl (fun K hK => ?_)
 refine e_alloc Hz m6 23 fct19 rfl ?_
 clear Hz Az m6; intro g7 Az w8 Hz m8 hB8 hg8
 clear hB8 hg8
 refine hK _ _ ?_; clear hK
 refine znl (hK0 _ _ ?_); clear hK0
 refine zsr fun K1 hK1 => ?_
 refine goCh Hz (.loadBR m8 (i := 20) rfl rfl U30 rfl fct10 (by simp) (by dsimp only [List.drop, List.take] <;> rfl) <| .loadBR m8 (i := 21) rfl rfl U87 rfl fct11 (by simp) (by dsimp only [List.drop, List.take] <;> rfl) <| .nil) ?_
 clear Hz Az; intro Az Hz
 refine wpList_plain rfl (fun K hK => ?_)
 refine e_call Hz Tryd.func86 rfl rfl rfl rfl (rdone _ _ _ _ _ _ _ _ _ place pins ws items _ _ _ _ _ _ _ _ kd _ _ _ _ _ _ _ _ _ _ _ hk4 hk5 hne hl hp hil hio (m8.into [(1, 1), (2, 2), (3, 3), (4, 4)] (by decide) rfl)) ?_
 rintro e w13 ⟨ne1, hi1, fl1, ws1, e1, p13, c13, rfl, hR, hm13⟩
 have mx13 := m8.back hm13 [(1, 1), (2, 2), (3, 3), (4, 4), (24, 7)] (by decide); clear hm13 m8
 have m13 : MemOk _ _ [(1, _), (2, _), (3, _), (4, _), (24, _), (20, _), (21, _), (22, _), (23, _)] _ := mx13.only [1, 2, 3, 4, 24, 20, 21, 22, 23]; clear mx13
 refine ⟨_, rfl, ?_⟩; clear Hz Az; intro Az Hz
 refine hK _ _ ?_; clear hK
 refine goCh Hz (.move rfl <| .extract rfl rfl <| .extract rfl rfl <| .nil) ?_
 clear Hz Az; intro Az Hz
 refine wpList_plain rfl (fun K hK => ?_)
 refine e_alloc Hz m13 25 fct12 rfl ?_
 clear Hz Az m13; intro g18 Az w19 Hz m19 hB19 hg19
 clear hB19 hg19
 refine hK _ _ ?_; clear hK
 refine wpList_plain rfl (fun K hK => ?_)
 refine e_storeW Hz m19 25 rfl rfl rfl rfl rfl fct10 ?_
 clear m19; intro w20 m20 hB20
 clear hB20
 refine hK _ _ ?_; clear hK
 refine goCh Hz (.assign rfl .nil) ?_
 clear Hz Az; intro Az Hz
 refine znl (hK1 _ _ ?_); clear hK1
 refine wp_seq_k (fun K2 hK2 => ?_)
 replace Hz : Has 27 [(2, _), (4, _), (5, _), (6, _), (7, _)] Az := Hz.only [2, 4, 5, 6, 7]
 refine regS Hz (.move rfl <| .neq rfl rfl <| .nil) ?_
 clear Hz Az; intro Az Hz
 refine bool_cases Hz (t := 15) rfl ?_ ?_
 ·
  clear Hz; intro hb25 Hz; try simp only [QQ, Qax] at hb25
  refine wp_cond_true (Hz.ev (x := .tmp 15) rfl) ?_
  refine zsr fun K3 hK3 => ?_
  refine goCh Hz (.loadBR m20 (i := 20) rfl rfl U30 rfl fct10 (by simp) (by dsimp only [List.drop, List.take] <;> rfl) <| .move rfl <| .build rfl fct19 fl90rD0 rfl (by dsimp only [setL, List.set] <;> rfl) <| .nil) ?_
  clear Hz Az; intro Az Hz
  refine wpList_plain rfl (fun K hK => ?_)
  refine e_storeW Hz m20 22 rfl rfl rfl rfl rfl fct10 ?_
  clear m20; intro w32 m32 hB32
  clear hB32
  refine hK _ _ ?_; clear hK
  refine wpList_plain rfl (fun K hK => ?_)
  refine e_storeW Hz m32 23 rfl rfl rfl rfl rfl fct18 ?_
  clear m32; intro w33 m33 hB33
  clear hB33
  refine hK _ _ ?_; clear hK
  refine znl (hK3 _ _ ?_); clear hK3
  refine wp_ret ?_
  try dsimp only [Exit.then, Exit.inBlock]
  refine (retCC (fn := Tryd.f64) Hz m33 (i := 22) (i2 := 23) rfl rfl rfl rfl rfl U30 rfl fct10 U90 rfl fct18 ?_)
  obtain ⟨rfl, rfl, rfl, rfl⟩ := doR_err hR (by assumption)
  have m34 := m33.dat 26 rfl (m33.rd (i := 3) rfl); clear m33
  exact ⟨ne1, hi1, fl1, ws1, e1, 0, 0, 0, _, _, rfl, hR, .inl ⟨by assumption, rfl, rfl, rfl⟩, m34.ren [(1, 1), (2, 2), (3, 3), (4, 4), (7, 26)] (by decide)⟩
 clear Hz; intro hb25 Hz; try simp only [QQ, Qax] at hb25
 refine wp_cond_false (Hz.ev (x := .tmp 15) rfl) ?_
 refine zss (hK2 _ _ ?_); clear hK2
 refine wp_seq_k (fun K4 hK4 => ?_)
 have m35 : MemOk _ _ [(1, _), (2, _), (3, _), (4, _), (20, _), (21, _), (22, _), (23, _), (24, _), (25, _)] _ := m20.only [1, 2, 3, 4, 20, 21, 22, 23, 24, 25]; clear m20
 refine region_p 10 (B := [(25, _)]) (m35.to ⟨il, trivial⟩) m35 (by kernel_rfl) (fun w36 hP36 m36 => ?_); clear m35
 refine goR hP36 [0, 1, 3, 4, 5, 6] [0, 1, 4, 6] 6 0 123 Hz (m36.to ⟨il, trivial⟩) (.loadBR hh (i := 25) rfl rfl U30 rfl fct10 (by simp) (by dsimp only [List.drop, List.take] <;> rfl) <| .loadBR hh (i := 25) rfl rfl U30 rfl fct10 (by simp) (by dsimp only [List.drop, List.take] <;> rfl) <| .fa 8 rfl U30 <| .lb hh 25 U2 rfl rfl rfl <| .fa 6 rfl U30 <| .lb hh 25 U3 rfl rfl rfl <| .nil) ?_
 clear Hz Az; intro Az Hz
 refine stepE_only 2 rfl (by kernel_rfl) rfl (fun K hK => ?_)
 refine e_call Hz Tryd.func22 rfl rfl rfl rfl (rlen_any _ _ _ _ _ _ _ _ _ _ _ _ _ _ _ _ _ _) ?_
 rintro e w43 ⟨rfl, hb43⟩
 have m44 := m36.later hb43
 clear m36
 clear hb43
 refine ⟨_, rfl, ?_⟩; clear Hz Az; intro Az Hz
 refine hK _ _ (m44.to ⟨il, trivial⟩) ?_; clear hK K
 refine goA hP36 [7] 1 127 255 Hz (m44.to ⟨il, trivial⟩) (.build rfl fct19 fl90rD0 rfl (by dsimp only [setL, List.set] <;> rfl) <| .nil) ?_
 clear Hz Az; intro Az Hz
 refine stepE_only 8 rfl (by kernel_rfl) rfl (fun K hK => ?_)
 refine e_storeW Hz m44 22 rfl rfl rfl rfl rfl fct10 ?_
 clear m44; intro w47 m47 hB47
 clear hB47
 refine hK _ _ (m47.to ⟨il, trivial⟩) ?_; clear hK K
 refine stepE_only 9 rfl (by kernel_rfl) rfl (fun K hK => ?_)
 refine e_storeW Hz m47 23 rfl rfl rfl rfl rfl fct18 ?_
 clear m47; intro w48 m48 hB48
 clear hB48
 refine hK _ _ (m48.to ⟨il, trivial⟩) ?_; clear hK K
 refine wpAnyE_done (by kernel_rfl) ?_ _
 refine hK4 _ _ ?_; clear hK4
 refine wp_ret ?_
 try dsimp only [Exit.then, Exit.inBlock]
 refine (retCC (fn := Tryd.f64) Hz m48 (i := 22) (i2 := 23) rfl rfl rfl rfl rfl U30 rfl fct10 U90 rfl fct18 ?_)
 obtain rfl : e1 = 0 := by first | assumption | omega
 exact ⟨ne1, hi1, fl1, ws1, 0, ws1.length, fl1, ne1, _, _, by rw [List.length_map], hR, .inr ⟨rfl, rfl, rfl, rfl⟩, m48.ren [(1, 1), (2, 2), (3, 3), (4, 4), (7, 24)] (by decide)⟩
theorem rDo4 (X : Cx) (vo bl sz pe to ne fl : Int) (hi : Bool) (place pins : List Int) (ws : List (Int × List (Int × List Int))) (pp pn pw : Option Addr) (cp cn9 cw : Nat) (v1 v2 v3 v4 v5 at0 v6 : Int) (q1 : Option Addr) (n1 c1 : Nat) (q2 : Option Addr) (n2 c2 : Nat) (w0 : World) (hp : pins.length ≤ 900000) (hsp : pins.Pairwise (· ≤ ·)) (m0 : MemOk X w0 [(1, .dat (.slice pp place.length cp) (.ns .i64 place)), (2, .dat (.slice pn pins.length cn9) (.ns .i64 pins)), (3, .dat (.slice pw (ws.map wrD).length cw) (.l 2 (ws.map wrD)))] w0) :
   Calls Tryd.prog 64 #[.agg #[.int .i64 vo, .int .i64 bl, .int .i64 sz, .int .i64 pe, .slice pp place.length cp, .int .i64 to, .int .i64 ne, .bool hi, .int .i64 fl, .slice pn pins.length cn9, .slice pw (ws.map wrD).length cw], .agg #[.int .i64 4, .int .i64 v1, .int .i64 v2, .int .i64 v3, .int .i64 v4, .slice q1 n1 c1, .int .i64 v5, .int .i64 at0, .int .i64 v6, .slice q2 n2 c2]] w0 fun e w' => ∃ (pins' : List Int) (e9 rl rf rn : Int) (p2' : Option Addr) (d2' : Nat), e = .returned (.tuple #[.agg #[.int .i64 vo, .int .i64 bl, .int .i64 sz, .int .i64 pe, .slice pp place.length cp, .int .i64 to, .int .i64 ne, .bool hi, .int .i64 fl, .slice p2' pins'.length d2', .slice pw (ws.map wrD).length cw], .agg #[.int .i64 e9, .int .i64 rl, .int .i64 rf, .int .i64 rn, .slice none 0 0]]) ∧ pinR hi fl at0 ws.length pins = (pins', e9) ∧ ((e9 ≠ 0 ∧ rl = 0 ∧ rf = 0 ∧ rn = 0) ∨ (e9 = 0 ∧ rl = ws.length ∧ rf = fl ∧ rn = ne)) ∧ MemOk X w0 [(1, .dat (.slice pp place.length cp) (.ns .i64 place)), (2, .dat (.slice pn pins.length cn9) (.ns .i64 pins)), (3, .dat (.slice pw (ws.map wrD).length cw) (.l 2 (ws.map wrD))), (6, .dat (.slice p2' pins'.length d2') (.ns .i64 pins'))] w' := by
 refine ent2 Tryd.func64 rfl Tryd.ntmps64 fun Az Hz => ?_
 refine zsr fun K0 hK0 => ?_
 refine wpList_plain rfl (fun K hK => ?_)
 refine e_box Hz m0 20 (cs := [_, _, _, _, _, _, _, _, _, _, _]) rfl rfl rfl ?_
 clear Hz Az m0; intro g1 Az w2 Hz m2 hB2 hg2
 clear hB2 hg2
 refine hK _ _ ?_; clear hK
 refine wpList_plain rfl (fun K hK => ?_)
 refine e_box Hz m2 21 (cs := [_, _, _, _, _, _, _, _, _, _]) rfl rfl rfl ?_
 clear Hz Az m2; intro g3 Az w4 Hz m4 hB4 hg4
 clear hB4 hg4
 refine hK _ _ ?_; clear hK
 refine wpList_plain rfl (fun K hK => ?_)
 refine e_alloc Hz m4 22 fct12 rfl ?_
 clear Hz Az m4; intro g5 Az w6 Hz m6 hB6 hg6
 clear hB6 hg6
 refine hK _ _ ?_; clear hK
 refine wpList_plain rfl (fun K hK => ?_)
 refine e_alloc Hz m6 23 fct19 rfl ?_
 clear Hz Az m6; intro g7 Az w8 Hz m8 hB8 hg8
 clear hB8 hg8
 refine hK _ _ ?_; clear hK
 refine znl (hK0 _ _ ?_); clear hK0
 refine zsr fun K1 hK1 => ?_
 refine goCh Hz (.loadBR m8 (i := 20) rfl rfl U30 rfl fct10 (by simp) (by dsimp only [List.drop, List.take] <;> rfl) <| .loadBR m8 (i := 21) rfl rfl U87 rfl fct11 (by simp) (by dsimp only [List.drop, List.take] <;> rfl) <| .nil) ?_
 clear Hz Az; intro Az Hz
 refine wpList_plain rfl (fun K hK => ?_)
 refine e_call Hz Tryd.func86 rfl rfl rfl rfl (rdone4 _ _ _ _ _ _ _ _ _ place pins ws _ _ _ _ _ _ _ _ _ _ _ _ _ _ _ _ _ _ _ _ hp hsp (m8.into [(1, 1), (2, 2), (3, 3)] (by decide) rfl)) ?_
 rintro e w13 ⟨pins1, e1, p13, c13, rfl, hR, hm13⟩
 have mx13 := m8.back hm13 [(1, 1), (2, 2), (3, 3), (24, 6)] (by decide); clear hm13 m8
 have m13 : MemOk _ _ [(1, _), (2, _), (3, _), (24, _), (20, _), (21, _), (22, _), (23, _)] _ := mx13.only [1, 2, 3, 24, 20, 21, 22, 23]; clear mx13
 refine ⟨_, rfl, ?_⟩; clear Hz Az; intro Az Hz
 refine hK _ _ ?_; clear hK
 refine goCh Hz (.move rfl <| .extract rfl rfl <| .extract rfl rfl <| .nil) ?_
 clear Hz Az; intro Az Hz
 refine wpList_plain rfl (fun K hK => ?_)
 refine e_alloc Hz m13 25 fct12 rfl ?_
 clear Hz Az m13; intro g18 Az w19 Hz m19 hB19 hg19
 clear hB19 hg19
 refine hK _ _ ?_; clear hK
 refine wpList_plain rfl (fun K hK => ?_)
 refine e_storeW Hz m19 25 rfl rfl rfl rfl rfl fct10 ?_
 clear m19; intro w20 m20 hB20
 clear hB20
 refine hK _ _ ?_; clear hK
 refine goCh Hz (.assign rfl .nil) ?_
 clear Hz Az; intro Az Hz
 refine znl (hK1 _ _ ?_); clear hK1
 refine wp_seq_k (fun K2 hK2 => ?_)
 replace Hz : Has 27 [(2, _), (4, _), (5, _), (6, _), (7, _)] Az := Hz.only [2, 4, 5, 6, 7]
 refine regS Hz (.move rfl <| .neq rfl rfl <| .nil) ?_
 clear Hz Az; intro Az Hz
 refine bool_cases Hz (t := 15) rfl ?_ ?_
 ·
  clear Hz; intro hb25 Hz; try simp only [QQ, Qax] at hb25
  refine wp_cond_true (Hz.ev (x := .tmp 15) rfl) ?_
  refine zsr fun K3 hK3 => ?_
  refine goCh Hz (.loadBR m20 (i := 20) rfl rfl U30 rfl fct10 (by simp) (by dsimp only [List.drop, List.take] <;> rfl) <| .move rfl <| .build rfl fct19 fl90rD4 rfl (by dsimp only [setL, List.set] <;> rfl) <| .nil) ?_
  clear Hz Az; intro Az Hz
  refine wpList_plain rfl (fun K hK => ?_)
  refine e_storeW Hz m20 22 rfl rfl rfl rfl rfl fct10 ?_
  clear m20; intro w32 m32 hB32
  clear hB32
  refine hK _ _ ?_; clear hK
  refine wpList_plain rfl (fun K hK => ?_)
  refine e_storeW Hz m32 23 rfl rfl rfl rfl rfl fct18 ?_
  clear m32; intro w33 m33 hB33
  clear hB33
  refine hK _ _ ?_; clear hK
  refine znl (hK3 _ _ ?_); clear hK3
  refine wp_ret ?_
  try dsimp only [Exit.then, Exit.inBlock]
  refine (retCC (fn := Tryd.f64) Hz m33 (i := 22) (i2 := 23) rfl rfl rfl rfl rfl U30 rfl fct10 U90 rfl fct18 ?_)
  obtain rfl := pinR_err hR (by assumption)
  have m34 := m33.dat 26 rfl (m33.rd (i := 2) rfl); clear m33
  exact ⟨pins1, e1, 0, 0, 0, _, _, rfl, hR, .inl ⟨by assumption, rfl, rfl, rfl⟩, m34.ren [(1, 1), (2, 2), (3, 3), (6, 26)] (by decide)⟩
 clear Hz; intro hb25 Hz; try simp only [QQ, Qax] at hb25
 refine wp_cond_false (Hz.ev (x := .tmp 15) rfl) ?_
 refine zss (hK2 _ _ ?_); clear hK2
 refine wp_seq_k (fun K4 hK4 => ?_)
 have m35 : MemOk _ _ [(1, _), (2, _), (3, _), (20, _), (21, _), (22, _), (23, _), (24, _), (25, _)] _ := m20.only [1, 2, 3, 20, 21, 22, 23, 24, 25]; clear m20
 refine region_p 10 (B := [(25, _)]) (m35.to ⟨il, trivial⟩) m35 (by kernel_rfl) (fun w36 hP36 m36 => ?_); clear m35
 refine goR hP36 [0, 1, 3, 4, 5, 6] [0, 1, 4, 6] 6 0 123 Hz (m36.to ⟨il, trivial⟩) (.loadBR hh (i := 25) rfl rfl U30 rfl fct10 (by simp) (by dsimp only [List.drop, List.take] <;> rfl) <| .loadBR hh (i := 25) rfl rfl U30 rfl fct10 (by simp) (by dsimp only [List.drop, List.take] <;> rfl) <| .fa 8 rfl U30 <| .lb hh 25 U2 rfl rfl rfl <| .fa 6 rfl U30 <| .lb hh 25 U3 rfl rfl rfl <| .nil) ?_
 clear Hz Az; intro Az Hz
 refine stepE_only 2 rfl (by kernel_rfl) rfl (fun K hK => ?_)
 refine e_call Hz Tryd.func22 rfl rfl rfl rfl (rlen_any _ _ _ _ _ _ _ _ _ _ _ _ _ _ _ _ _ _) ?_
 rintro e w43 ⟨rfl, hb43⟩
 have m44 := m36.later hb43
 clear m36
 clear hb43
 refine ⟨_, rfl, ?_⟩; clear Hz Az; intro Az Hz
 refine hK _ _ (m44.to ⟨il, trivial⟩) ?_; clear hK K
 refine goA hP36 [7] 1 127 255 Hz (m44.to ⟨il, trivial⟩) (.build rfl fct19 fl90rD4 rfl (by dsimp only [setL, List.set] <;> rfl) <| .nil) ?_
 clear Hz Az; intro Az Hz
 refine stepE_only 8 rfl (by kernel_rfl) rfl (fun K hK => ?_)
 refine e_storeW Hz m44 22 rfl rfl rfl rfl rfl fct10 ?_
 clear m44; intro w47 m47 hB47
 clear hB47
 refine hK _ _ (m47.to ⟨il, trivial⟩) ?_; clear hK K
 refine stepE_only 9 rfl (by kernel_rfl) rfl (fun K hK => ?_)
 refine e_storeW Hz m47 23 rfl rfl rfl rfl rfl fct18 ?_
 clear m47; intro w48 m48 hB48
 clear hB48
 refine hK _ _ (m48.to ⟨il, trivial⟩) ?_; clear hK K
 refine wpAnyE_done (by kernel_rfl) ?_ _
 refine hK4 _ _ ?_; clear hK4
 refine wp_ret ?_
 try dsimp only [Exit.then, Exit.inBlock]
 refine (retCC (fn := Tryd.f64) Hz m48 (i := 22) (i2 := 23) rfl rfl rfl rfl rfl U30 rfl fct10 U90 rfl fct18 ?_)
 obtain rfl : e1 = 0 := by first | assumption | omega
 exact ⟨pins1, 0, ws.length, fl, ne, _, _, by rw [List.length_map], hR, .inr ⟨rfl, rfl, rfl, rfl⟩, m48.ren [(1, 1), (2, 2), (3, 3), (6, 24)] (by decide)⟩
theorem rDo5 (X : Cx) (vo bl sz pe to ne fl : Int) (hi : Bool) (place pins : List Int) (ws : List (Int × List (Int × List Int))) (pp pn pw : Option Addr) (cp cn9 cw : Nat) (v1 v2 v3 v4 v5 at0 v6 : Int) (q1 : Option Addr) (n1 c1 : Nat) (q2 : Option Addr) (n2 c2 : Nat) (w0 : World) (hp : pins.length ≤ 900000) (m0 : MemOk X w0 [(1, .dat (.slice pp place.length cp) (.ns .i64 place)), (2, .dat (.slice pn pins.length cn9) (.ns .i64 pins)), (3, .dat (.slice pw (ws.map wrD).length cw) (.l 2 (ws.map wrD)))] w0) :
   Calls Tryd.prog 64 #[.agg #[.int .i64 vo, .int .i64 bl, .int .i64 sz, .int .i64 pe, .slice pp place.length cp, .int .i64 to, .int .i64 ne, .bool hi, .int .i64 fl, .slice pn pins.length cn9, .slice pw (ws.map wrD).length cw], .agg #[.int .i64 5, .int .i64 v1, .int .i64 v2, .int .i64 v3, .int .i64 v4, .slice q1 n1 c1, .int .i64 v5, .int .i64 at0, .int .i64 v6, .slice q2 n2 c2]] w0 fun e w' => ∃ (pins' : List Int) (e9 rl rf rn : Int) (p2' : Option Addr) (d2' : Nat), e = .returned (.tuple #[.agg #[.int .i64 vo, .int .i64 bl, .int .i64 sz, .int .i64 pe, .slice pp place.length cp, .int .i64 to, .int .i64 ne, .bool hi, .int .i64 fl, .slice p2' pins'.length d2', .slice pw (ws.map wrD).length cw], .agg #[.int .i64 e9, .int .i64 rl, .int .i64 rf, .int .i64 rn, .slice none 0 0]]) ∧ unpinR hi at0 pins = (pins', e9) ∧ ((e9 ≠ 0 ∧ rl = 0 ∧ rf = 0 ∧ rn = 0) ∨ (e9 = 0 ∧ rl = ws.length ∧ rf = fl ∧ rn = ne)) ∧ MemOk X w0 [(1, .dat (.slice pp place.length cp) (.ns .i64 place)), (2, .dat (.slice pn pins.length cn9) (.ns .i64 pins)), (3, .dat (.slice pw (ws.map wrD).length cw) (.l 2 (ws.map wrD))), (6, .dat (.slice p2' pins'.length d2') (.ns .i64 pins'))] w' := by
 refine ent2 Tryd.func64 rfl Tryd.ntmps64 fun Az Hz => ?_
 refine zsr fun K0 hK0 => ?_
 refine wpList_plain rfl (fun K hK => ?_)
 refine e_box Hz m0 20 (cs := [_, _, _, _, _, _, _, _, _, _, _]) rfl rfl rfl ?_
 clear Hz Az m0; intro g1 Az w2 Hz m2 hB2 hg2
 clear hB2 hg2
 refine hK _ _ ?_; clear hK
 refine wpList_plain rfl (fun K hK => ?_)
 refine e_box Hz m2 21 (cs := [_, _, _, _, _, _, _, _, _, _]) rfl rfl rfl ?_
 clear Hz Az m2; intro g3 Az w4 Hz m4 hB4 hg4
 clear hB4 hg4
 refine hK _ _ ?_; clear hK
 refine wpList_plain rfl (fun K hK => ?_)
 refine e_alloc Hz m4 22 fct12 rfl ?_
 clear Hz Az m4; intro g5 Az w6 Hz m6 hB6 hg6
 clear hB6 hg6
 refine hK _ _ ?_; clear hK
 refine wpList_plain rfl (fun K hK => ?_)
 refine e_alloc Hz m6 23 fct19 rfl ?_
 clear Hz Az m6; intro g7 Az w8 Hz m8 hB8 hg8
 clear hB8 hg8
 refine hK _ _ ?_; clear hK
 refine znl (hK0 _ _ ?_); clear hK0
 refine zsr fun K1 hK1 => ?_
 refine goCh Hz (.loadBR m8 (i := 20) rfl rfl U30 rfl fct10 (by simp) (by dsimp only [List.drop, List.take] <;> rfl) <| .loadBR m8 (i := 21) rfl rfl U87 rfl fct11 (by simp) (by dsimp only [List.drop, List.take] <;> rfl) <| .nil) ?_
 clear Hz Az; intro Az Hz
 refine wpList_plain rfl (fun K hK => ?_)
 refine e_call Hz Tryd.func86 rfl rfl rfl rfl (rdone5 _ _ _ _ _ _ _ _ _ place pins ws _ _ _ _ _ _ _ _ _ _ _ _ _ _ _ _ _ _ _ _ hp (m8.into [(1, 1), (2, 2), (3, 3)] (by decide) rfl)) ?_
 rintro e w13 ⟨pins1, e1, p13, c13, rfl, hR, hm13⟩
 have mx13 := m8.back hm13 [(1, 1), (2, 2), (3, 3), (24, 6)] (by decide); clear hm13 m8
 have m13 : MemOk _ _ [(1, _), (2, _), (3, _), (24, _), (20, _), (21, _), (22, _), (23, _)] _ := mx13.only [1, 2, 3, 24, 20, 21, 22, 23]; clear mx13
 refine ⟨_, rfl, ?_⟩; clear Hz Az; intro Az Hz
 refine hK _ _ ?_; clear hK
 refine goCh Hz (.move rfl <| .extract rfl rfl <| .extract rfl rfl <| .nil) ?_
 clear Hz Az; intro Az Hz
 refine wpList_plain rfl (fun K hK => ?_)
 refine e_alloc Hz m13 25 fct12 rfl ?_
 clear Hz Az m13; intro g18 Az w19 Hz m19 hB19 hg19
 clear hB19 hg19
 refine hK _ _ ?_; clear hK
 refine wpList_plain rfl (fun K hK => ?_)
 refine e_storeW Hz m19 25 rfl rfl rfl rfl rfl fct10 ?_
 clear m19; intro w20 m20 hB20
 clear hB20
 refine hK _ _ ?_; clear hK
 refine goCh Hz (.assign rfl .nil) ?_
 clear Hz Az; intro Az Hz
 refine znl (hK1 _ _ ?_); clear hK1
 refine wp_seq_k (fun K2 hK2 => ?_)
 replace Hz : Has 27 [(2, _), (4, _), (5, _), (6, _), (7, _)] Az := Hz.only [2, 4, 5, 6, 7]
 refine regS Hz (.move rfl <| .neq rfl rfl <| .nil) ?_
 clear Hz Az; intro Az Hz
 refine bool_cases Hz (t := 15) rfl ?_ ?_
 ·
  clear Hz; intro hb25 Hz; try simp only [QQ, Qax] at hb25
  refine wp_cond_true (Hz.ev (x := .tmp 15) rfl) ?_
  refine zsr fun K3 hK3 => ?_
  refine goCh Hz (.loadBR m20 (i := 20) rfl rfl U30 rfl fct10 (by simp) (by dsimp only [List.drop, List.take] <;> rfl) <| .move rfl <| .build rfl fct19 fl90rD5 rfl (by dsimp only [setL, List.set] <;> rfl) <| .nil) ?_
  clear Hz Az; intro Az Hz
  refine wpList_plain rfl (fun K hK => ?_)
  refine e_storeW Hz m20 22 rfl rfl rfl rfl rfl fct10 ?_
  clear m20; intro w32 m32 hB32
  clear hB32
  refine hK _ _ ?_; clear hK
  refine wpList_plain rfl (fun K hK => ?_)
  refine e_storeW Hz m32 23 rfl rfl rfl rfl rfl fct18 ?_
  clear m32; intro w33 m33 hB33
  clear hB33
  refine hK _ _ ?_; clear hK
  refine znl (hK3 _ _ ?_); clear hK3
  refine wp_ret ?_
  try dsimp only [Exit.then, Exit.inBlock]
  refine (retCC (fn := Tryd.f64) Hz m33 (i := 22) (i2 := 23) rfl rfl rfl rfl rfl U30 rfl fct10 U90 rfl fct18 ?_)
  obtain rfl := unpinR_err hR (by assumption)
  have m34 := m33.dat 26 rfl (m33.rd (i := 2) rfl); clear m33
  exact ⟨pins1, e1, 0, 0, 0, _, _, rfl, hR, .inl ⟨by assumption, rfl, rfl, rfl⟩, m34.ren [(1, 1), (2, 2), (3, 3), (6, 26)] (by decide)⟩
 clear Hz; intro hb25 Hz; try simp only [QQ, Qax] at hb25
 refine wp_cond_false (Hz.ev (x := .tmp 15) rfl) ?_
 refine zss (hK2 _ _ ?_); clear hK2
 refine wp_seq_k (fun K4 hK4 => ?_)
 have m35 : MemOk _ _ [(1, _), (2, _), (3, _), (20, _), (21, _), (22, _), (23, _), (24, _), (25, _)] _ := m20.only [1, 2, 3, 20, 21, 22, 23, 24, 25]; clear m20
 refine region_p 10 (B := [(25, _)]) (m35.to ⟨il, trivial⟩) m35 (by kernel_rfl) (fun w36 hP36 m36 => ?_); clear m35
 refine goR hP36 [0, 1, 3, 4, 5, 6] [0, 1, 4, 6] 6 0 123 Hz (m36.to ⟨il, trivial⟩) (.loadBR hh (i := 25) rfl rfl U30 rfl fct10 (by simp) (by dsimp only [List.drop, List.take] <;> rfl) <| .loadBR hh (i := 25) rfl rfl U30 rfl fct10 (by simp) (by dsimp only [List.drop, List.take] <;> rfl) <| .fa 8 rfl U30 <| .lb hh 25 U2 rfl rfl rfl <| .fa 6 rfl U30 <| .lb hh 25 U3 rfl rfl rfl <| .nil) ?_
 clear Hz Az; intro Az Hz
 refine stepE_only 2 rfl (by kernel_rfl) rfl (fun K hK => ?_)
 refine e_call Hz Tryd.func22 rfl rfl rfl rfl (rlen_any _ _ _ _ _ _ _ _ _ _ _ _ _ _ _ _ _ _) ?_
 rintro e w43 ⟨rfl, hb43⟩
 have m44 := m36.later hb43
 clear m36
 clear hb43
 refine ⟨_, rfl, ?_⟩; clear Hz Az; intro Az Hz
 refine hK _ _ (m44.to ⟨il, trivial⟩) ?_; clear hK K
 refine goA hP36 [7] 1 127 255 Hz (m44.to ⟨il, trivial⟩) (.build rfl fct19 fl90rD5 rfl (by dsimp only [setL, List.set] <;> rfl) <| .nil) ?_
 clear Hz Az; intro Az Hz
 refine stepE_only 8 rfl (by kernel_rfl) rfl (fun K hK => ?_)
 refine e_storeW Hz m44 22 rfl rfl rfl rfl rfl fct10 ?_
 clear m44; intro w47 m47 hB47
 clear hB47
 refine hK _ _ (m47.to ⟨il, trivial⟩) ?_; clear hK K
 refine stepE_only 9 rfl (by kernel_rfl) rfl (fun K hK => ?_)
 refine e_storeW Hz m47 23 rfl rfl rfl rfl rfl fct18 ?_
 clear m47; intro w48 m48 hB48
 clear hB48
 refine hK _ _ (m48.to ⟨il, trivial⟩) ?_; clear hK K
 refine wpAnyE_done (by kernel_rfl) ?_ _
 refine hK4 _ _ ?_; clear hK4
 refine wp_ret ?_
 try dsimp only [Exit.then, Exit.inBlock]
 refine (retCC (fn := Tryd.f64) Hz m48 (i := 22) (i2 := 23) rfl rfl rfl rfl rfl U30 rfl fct10 U90 rfl fct18 ?_)
 obtain rfl : e1 = 0 := by first | assumption | omega
 exact ⟨pins1, 0, ws.length, fl, ne, _, _, by rw [List.length_map], hR, .inr ⟨rfl, rfl, rfl, rfl⟩, m48.ren [(1, 1), (2, 2), (3, 3), (6, 24)] (by decide)⟩
theorem scmd_any (vo bl : Int) (z : Nat) (pe to ne fl : Int) (hi : Bool) (pp pn pw : Option Addr) (np cp nn9 cn9 nw cw : Nat) (wh xa xb xc : Int) (w0 : World) (hz : z ≤ 1000) (hnw : nw ≤ 1000000) (hne : -1000000000000000 ≤ ne ∧ ne ≤ 1000000000000000) (hw9 : 0 ≤ wh ∧ wh ≤ 255) (ha9 : 0 ≤ xa ∧ xa ≤ 255) (hb9 : 0 ≤ xb ∧ xb ≤ 255) (hc9 : 0 ≤ xc ∧ xc ≤ 255) :
   Calls Tryd.prog 40 #[.agg #[.int .i64 vo, .int .i64 bl, .int .i64 (z : Int), .int .i64 pe, .slice pp np cp, .int .i64 to, .int .i64 ne, .bool hi, .int .i64 fl, .slice pn nn9 cn9, .slice pw nw cw], .bool true, .int .u8 wh, .int .u8 xa, .int .u8 xb, .int .u8 xc] w0 fun e w' => ∃ (kd bl2 sz2 pe2 to2 at0 ix vo2 : Int) (it : List (Int × List Int)) (pi : Option Addr) (ci : Nat) (dd : Unit), e = .returned (.agg #[.int .i64 kd, .int .i64 vo2, .int .i64 bl2, .int .i64 sz2, .int .i64 pe2, .slice none 0 0, .int .i64 to2, .int .i64 at0, .int .i64 ix, .slice pi it.length ci]) ∧ (2 ≤ kd ∧ kd ≤ 8) ∧ it.length ≤ 8 ∧ ItsB it ∧ Rd (New w0) w' (.slice pi it.length ci) (.l 2 (it.map itD)) ∧ Below w0.heap.size w0 w' := by
 refine ent6 Tryd.func40 rfl Tryd.ntmps40 fun Az Hz => ?_
 have m0 := MemOk.start (fun _ => False) w0
 refine zsr fun K0 hK0 => ?_
 refine wpList_plain rfl (fun K hK => ?_)
 refine e_box Hz m0 20 (cs := [_, _, _, _, _, _, _, _, _, _, _]) rfl rfl rfl ?_
 clear Hz Az m0; intro g1 Az w2 Hz m2 hB2 hg2
 clear hB2 hg2
 refine hK _ _ ?_; clear hK
 refine wpList_plain rfl (fun K hK => ?_)
 refine e_alloc Hz m2 21 fct14 rfl ?_
 clear Hz Az m2; intro g3 Az w4 Hz m4 hB4 hg4
 clear hB4 hg4
 refine hK _ _ ?_; clear hK
 refine znl (hK0 _ _ ?_); clear hK0
 refine wp_seq_k (fun K1 hK1 => ?_)
 refine regS Hz (.move rfl <| .not rfl <| .nil) ?_
 clear Hz Az; intro Az Hz
 refine wp_cond_false (Hz.ev (x := .tmp 16) rfl) ?_
 refine zss (hK1 _ _ ?_); clear hK1
 refine zsr fun K2 hK2 => ?_
 refine goCh Hz (.fa 0 rfl U30 <| .lb m4 20 U3 rfl rfl rfl <| .build rfl fct14 fl87cm rfl (by dsimp only [setL, List.set] <;> rfl) <| .nil) ?_
 clear Hz Az; intro Az Hz
 refine wpList_plain rfl (fun K hK => ?_)
 refine e_alloc Hz m4 22 fct14 rfl ?_
 clear Hz Az m4; intro g13 Az w14 Hz m14 hB14 hg14
 clear hB14 hg14
 refine hK _ _ ?_; clear hK
 refine wpList_plain rfl (fun K hK => ?_)
 refine e_storeW Hz m14 22 rfl rfl rfl rfl rfl fct11 ?_
 clear m14; intro w15 m15 hB15
 clear hB15
 refine hK _ _ ?_; clear hK
 refine znl (hK2 _ _ ?_); clear hK2
 refine wp_seq_k (fun K3 hK3 => ?_)
 have hC3 : ∀ (a : Act) (w : World), (∃ (kd at0 ix : Int) (it : List (Int × List Int)) (pi : Option Addr) (ci : Nat) (B6 B12 B14 : Nat), (2 ≤ kd ∧ kd ≤ 8) ∧ it.length ≤ 8 ∧ ItsB it ∧ Has 131 [(2, .int .u8 wh), (3, .int .u8 xa), (4, .int .u8 xb), (5, .int .u8 xc), (6, .pointer (some ⟨B6, 0, none⟩)), (12, .pointer (some ⟨B12, 0, none⟩)), (14, .pointer (some ⟨B14, 0, none⟩))] a ∧ MemOk (cn w0) w0 [(6, .box B6 30 [.int .i64 vo, .int .i64 bl, .int .i64 (z : Int), .int .i64 pe, .slice pp np cp, .int .i64 to, .int .i64 ne, .bool hi, .int .i64 fl, .slice pn nn9 cn9, .slice pw nw cw]), (12, .box B12 87 [.int .i64 0, .int .i64 0, .int .i64 0, .int .i64 0, .int .i64 0, .slice none 0 0, .int .i64 0, .int .i64 0, .int .i64 0, .slice none 0 0]), (14, .box B14 87 [.int .i64 kd, .int .i64 vo, .int .i64 0, .int .i64 0, .int .i64 0, .slice none 0 0, .int .i64 0, .int .i64 at0, .int .i64 ix, .slice pi it.length ci]), (9, .dat (.slice pi it.length ci) (.l 2 (it.map itD)))] w) → K3 a w := by
   clear Hz m15
   rintro Az w16 ⟨kd, at0, ix, it, pi, ci, B6, B12, B14, hkd, hit8, hitb, Hz, m16⟩
   refine hK3 _ _ ?_; clear hK3
   refine wp_seq_k (fun K4 hK4 => ?_)
   refine zsr fun K5 hK5 => ?_
   refine goCh Hz (.fa 7 rfl U30 <| .lb m16 6 U4 rfl rfl rfl <| .move rfl <| .nil) ?_
   clear Hz Az; intro Az Hz
   refine bool_cases Hz (t := 111) rfl ?_ ?_
   ·
    clear Hz; intro hb23 Hz; try simp only [QQ, Qax] at hb23
    refine goCh Hz (.moveZ rfl <| .remZ rfl rfl (by decide) rfl <| .lssZ rfl rfl <| .pickT rfl rfl <| .nil) ?_
    clear Hz Az; intro Az Hz
    refine znl (hK5 _ _ ?_); clear hK5
    refine bool_cases Hz (t := 115) rfl ?_ ?_
    ·
     clear Hz; intro hb28 Hz; try simp only [QQ, Qax] at hb28
     refine wp_cond_true (Hz.ev (x := .tmp 115) rfl) ?_
     replace Hz : Has 131 [(3, _), (4, _), (5, _), (6, _), (12, _), (14, _)] Az := Hz.only [3, 4, 5, 6, 12, 14]
     have m30 : MemOk _ _ [(6, _), (9, _), (12, _), (14, _)] _ := m16.only [6, 9, 12, 14]; clear m16
     refine region_p 15 (B := [(6, _)]) (m30.to ⟨il, trivial⟩) m30 (by kernel_rfl) (fun w31 hP31 m31 => ?_); clear m30
     refine goR hP31 [0, 1, 2, 3, 4, 5, 6, 7, 8, 9, 10] [1, 3, 5, 7] 11 0 2047 Hz (m31.to ⟨il, trivial⟩) (.fa 0 rfl U30 <| .lb hh 6 U3 rfl rfl rfl <| .fa 6 rfl U30 <| .lb hh 6 U3 rfl rfl rfl <| .fa 1 rfl U30 <| .lb hh 6 U3 rfl rfl rfl <| .fa 2 rfl U30 <| .lb hh 6 U3 rfl rfl rfl <| .move rfl <| .move rfl <| .move rfl <| .nil) ?_
     clear Hz Az; intro Az Hz
     refine stepE_only 11 rfl (by kernel_rfl) rfl (fun K hK => ?_)
     refine e_litN Hz m31 100 (k := .u8) rfl rfl U22 fct0 rfl rfl rfl rfl ?_
     clear Hz Az m31; intro g43 Az w44 Hz m44
     refine hK _ _ (m44.to ⟨il, trivial⟩) ?_; clear hK K
     have m45 := m44.freezeN 100 rfl; clear m44
     refine stepE_only 12 rfl (by kernel_rfl) rfl (fun K hK => ?_)
     refine e_call Hz Tryd.func62 rfl rfl rfl rfl (sitem_any bl z [xa, xb, xc] _ _ _ ((m45.rd (i := 100) rfl).any) (by simp) (b3 ha9 hb9 hc9) (by omega)) ?_
     rintro e w46 ⟨it, p46, c46, rfl, hit8, hpre9, hitb, hit1, hd46, hb46⟩
     have m47 := m45.callF 101 rfl hb46 hd46
     clear m45
     clear hb46 hd46
     refine ⟨_, rfl, ?_⟩; clear Hz Az; intro Az Hz
     refine hK _ _ (m47.to ⟨il, trivial⟩) ?_; clear hK K
     refine goA hP31 [13] 1 8191 16383 Hz (m47.to ⟨il, trivial⟩) (.build rfl fct14 fl87cm rfl (by dsimp only [setL, List.set] <;> rfl) <| .nil) ?_
     clear Hz Az; intro Az Hz
     refine stepE_only 14 rfl (by kernel_rfl) rfl (fun K hK => ?_)
     refine e_storeW Hz m47 14 rfl rfl rfl rfl rfl fct11 ?_
     clear m47; intro w50 m50 hB50
     clear hB50
     refine hK _ _ (m50.to ⟨il, trivial⟩) ?_; clear hK K
     refine wpAnyE_done (by kernel_rfl) ?_ _
     refine hK4 _ _ ?_; clear hK4
     replace Hz : Has 131 [(12, _), (14, _)] Az := Hz.only [12, 14]
     refine zsr fun K6 hK6 => ?_
     refine goCh Hz (.loadBR m50 (i := 14) rfl rfl U87 rfl fct11 (by simp) (by dsimp only [List.drop, List.take] <;> rfl) .nil) ?_
     clear Hz Az; intro Az Hz
     refine wpList_plain rfl (fun K hK => ?_)
     refine e_storeW Hz m50 12 rfl rfl rfl rfl rfl fct11 ?_
     clear m50; intro w54 m54 hB54
     clear hB54
     refine hK _ _ ?_; clear hK
     refine znl (hK6 _ _ ?_); clear hK6
     refine wp_ret ?_
     try dsimp only [Exit.then, Exit.inBlock]
     refine (retC (fn := Tryd.f40) Hz m54 (i := 12) rfl rfl rfl U87 rfl fct11 ?_)
     exact ⟨_, _, _, _, _, _, _, _, _, _, _, (), rfl, by first | assumption | decide, by first | assumption, by first | assumption, m54.outF (i := 101) rfl, m54.below⟩
    clear Hz; intro hb28 Hz; try simp only [QQ, Qax] at hb28
    refine wp_cond_false (Hz.ev (x := .tmp 115) rfl) ?_
    refine zss (hK4 _ _ ?_); clear hK4
    replace Hz : Has 131 [(12, _), (14, _)] Az := Hz.only [12, 14]
    refine zsr fun K7 hK7 => ?_
    refine goCh Hz (.loadBR m16 (i := 14) rfl rfl U87 rfl fct11 (by simp) (by dsimp only [List.drop, List.take] <;> rfl) .nil) ?_
    clear Hz Az; intro Az Hz
    refine wpList_plain rfl (fun K hK => ?_)
    refine e_storeW Hz m16 12 rfl rfl rfl rfl rfl fct11 ?_
    clear m16; intro w58 m58 hB58
    clear hB58
    refine hK _ _ ?_; clear hK
    refine znl (hK7 _ _ ?_); clear hK7
    refine wp_ret ?_
    try dsimp only [Exit.then, Exit.inBlock]
    refine (retC (fn := Tryd.f40) Hz m58 (i := 12) rfl rfl rfl U87 rfl fct11 ?_)
    exact ⟨_, _, _, _, _, _, _, _, _, _, _, (), rfl, by first | assumption | decide, by first | assumption, by first | assumption, m58.outF (i := 9) rfl, m58.below⟩
   clear Hz; intro hb23 Hz; try simp only [QQ, Qax] at hb23
   refine goCh Hz (.sk <| .sk <| .sk <| .pickF rfl rfl <| .nil) ?_
   clear Hz Az; intro Az Hz
   refine znl (hK5 _ _ ?_); clear hK5
   refine wp_cond_false (Hz.ev (x := .tmp 115) rfl) ?_
   refine zss (hK4 _ _ ?_); clear hK4
   replace Hz : Has 131 [(12, _), (14, _)] Az := Hz.only [12, 14]
   refine zsr fun K8 hK8 => ?_
   refine goCh Hz (.loadBR m16 (i := 14) rfl rfl U87 rfl fct11 (by simp) (by dsimp only [List.drop, List.take] <;> rfl) .nil) ?_
   clear Hz Az; intro Az Hz
   refine wpList_plain rfl (fun K hK => ?_)
   refine e_storeW Hz m16 12 rfl rfl rfl rfl rfl fct11 ?_
   clear m16; intro w66 m66 hB66
   clear hB66
   refine hK _ _ ?_; clear hK
   refine znl (hK8 _ _ ?_); clear hK8
   refine wp_ret ?_
   try dsimp only [Exit.then, Exit.inBlock]
   refine (retC (fn := Tryd.f40) Hz m66 (i := 12) rfl rfl rfl U87 rfl fct11 ?_)
   exact ⟨_, _, _, _, _, _, _, _, _, _, _, (), rfl, by first | assumption | decide, by first | assumption, by first | assumption, m66.outF (i := 9) rfl, m66.below⟩
 replace Hz : Has 131 [(2, _), (3, _), (4, _), (5, _), (6, _), (12, _), (14, _)] Az := Hz.only [2, 3, 4, 5, 6, 12, 14]
 refine regS Hz (.move rfl <| .rem rfl rfl (by decide) rfl <| .nil) ?_
 clear Hz Az; intro Az Hz
 refine wp_block ?_
 refine wp_seq_k (fun K9 hK9 => ?_)
 refine regS Hz (.eql rfl rfl <| .assign rfl <| .nil) ?_
 clear Hz Az; intro Az Hz
 refine bool_cases Hz (t := 39) rfl ?_ ?_
 ·
  clear Hz; intro hb72 Hz; try simp only [QQ, Qax] at hb72
  refine wp_cond_true (Hz.ev (x := .tmp 39) rfl) ?_
  refine zss (hK9 _ _ ?_); clear hK9
  refine wp_cond_true (Hz.ev (x := .tmp 39) rfl) ?_
  refine wp_region_lit ?_
  refine goCh Hz (.fa 1 rfl U30 <| .lb m15 20 U3 rfl rfl rfl <| .fa 2 rfl U30 <| .lb m15 20 U3 rfl rfl rfl <| .move rfl <| .move rfl <| .move rfl <| .nil) ?_
  clear Hz Az; intro Az Hz
  refine wpList_plain rfl (fun K hK => ?_)
  refine e_litN Hz m15 23 (k := .u8) rfl rfl U22 fct0 rfl rfl rfl rfl ?_
  clear Hz Az m15; intro g80 Az w81 Hz m81
  refine hK _ _ ?_; clear hK
  have m82 := m81.freezeN 23 rfl; clear m81
  refine wpList_plain rfl (fun K hK => ?_)
  refine e_call Hz Tryd.func62 rfl rfl rfl rfl (sitem_any bl z [xa, xb, xc] _ _ _ ((m82.rd (i := 23) rfl).any) (by simp) (b3 ha9 hb9 hc9) (by omega)) ?_
  rintro e w83 ⟨it, p83, c83, rfl, hit8, hpre9, hitb, hit1, hd83, hb83⟩
  have m84 := m82.callF 24 rfl hb83 hd83
  clear m82
  clear hb83 hd83
  refine ⟨_, rfl, ?_⟩; clear Hz Az; intro Az Hz
  refine hK _ _ ?_; clear hK
  refine goCh Hz (.fieldAddr (off := 0) rfl U87 rfl (s := 0) (by kernel_rfl) rfl .nil) ?_
  clear Hz Az; intro Az Hz
  refine wpList_plain rfl (fun K hK => ?_)
  refine e_store1 Hz m84 22 rfl rfl rfl rfl rfl fct8 (by dsimp only [List.set] <;> rfl) ?_
  clear m84; intro w87 m87 hB87
  clear hB87
  refine hK _ _ ?_; clear hK
  refine goCh Hz (.fieldAddr (off := 9) rfl U87 rfl (s := 0) (by kernel_rfl) rfl .nil) ?_
  clear Hz Az; intro Az Hz
  refine wpList_plain rfl (fun K hK => ?_)
  refine e_store1 Hz m87 22 rfl rfl rfl rfl rfl fct27 (by dsimp only [List.set] <;> rfl) ?_
  clear m87; intro w89 m89 hB89
  clear hB89
  refine hK _ _ ?_; clear hK
  refine wpList_nil ?_
  show K3 _ _
  exact hC3 _ _ ⟨_, _, _, it, _, _, _, _, _, by decide, hit8, hitb, Hz.only [2, 3, 4, 5, 6, 12, 14], m89.ren [(6, 20), (12, 21), (14, 22), (9, 24)] (by decide)⟩
 clear Hz; intro hb72 Hz; try simp only [QQ, Qax] at hb72
 refine wp_cond_false (Hz.ev (x := .tmp 39) rfl) ?_
 refine regS Hz (.eql rfl rfl <| .assign rfl <| .nil) ?_
 clear Hz Az; intro Az Hz
 refine bool_cases Hz (t := 39) rfl ?_ ?_
 ·
  clear Hz; intro hb92 Hz; try simp only [QQ, Qax] at hb92
  refine wp_cond_true (Hz.ev (x := .tmp 39) rfl) ?_
  refine zss (hK9 _ _ ?_); clear hK9
  refine wp_cond_true (Hz.ev (x := .tmp 39) rfl) ?_
  refine wp_region_lit ?_
  refine goCh Hz (.fa 1 rfl U30 <| .lb m15 20 U3 rfl rfl rfl <| .fa 2 rfl U30 <| .lb m15 20 U3 rfl rfl rfl <| .move rfl <| .move rfl <| .move rfl <| .nil) ?_
  clear Hz Az; intro Az Hz
  refine wpList_plain rfl (fun K hK => ?_)
  refine e_litN Hz m15 23 (k := .u8) rfl rfl U22 fct0 rfl rfl rfl rfl ?_
  clear Hz Az m15; intro g100 Az w101 Hz m101
  refine hK _ _ ?_; clear hK
  have m102 := m101.freezeN 23 rfl; clear m101
  refine wpList_plain rfl (fun K hK => ?_)
  refine e_call Hz Tryd.func62 rfl rfl rfl rfl (sitem_any bl z [xa, xb, xc] _ _ _ ((m102.rd (i := 23) rfl).any) (by simp) (b3 ha9 hb9 hc9) (by omega)) ?_
  rintro e w103 ⟨it, p103, c103, rfl, hit8, hpre9, hitb, hit1, hd103, hb103⟩
  have m104 := m102.callF 24 rfl hb103 hd103
  clear m102
  clear hb103 hd103
  refine ⟨_, rfl, ?_⟩; clear Hz Az; intro Az Hz
  refine hK _ _ ?_; clear hK
  refine goCh Hz (.fieldAddr (off := 0) rfl U87 rfl (s := 0) (by kernel_rfl) rfl .nil) ?_
  clear Hz Az; intro Az Hz
  refine wpList_plain rfl (fun K hK => ?_)
  refine e_store1 Hz m104 22 rfl rfl rfl rfl rfl fct8 (by dsimp only [List.set] <;> rfl) ?_
  clear m104; intro w107 m107 hB107
  clear hB107
  refine hK _ _ ?_; clear hK
  refine goCh Hz (.fieldAddr (off := 9) rfl U87 rfl (s := 0) (by kernel_rfl) rfl .nil) ?_
  clear Hz Az; intro Az Hz
  refine wpList_plain rfl (fun K hK => ?_)
  refine e_store1 Hz m107 22 rfl rfl rfl rfl rfl fct27 (by dsimp only [List.set] <;> rfl) ?_
  clear m107; intro w109 m109 hB109
  clear hB109
  refine hK _ _ ?_; clear hK
  refine wpList_nil ?_
  show K3 _ _
  exact hC3 _ _ ⟨_, _, _, it, _, _, _, _, _, by decide, hit8, hitb, Hz.only [2, 3, 4, 5, 6, 12, 14], m109.ren [(6, 20), (12, 21), (14, 22), (9, 24)] (by decide)⟩
 clear Hz; intro hb92 Hz; try simp only [QQ, Qax] at hb92
 refine wp_cond_false (Hz.ev (x := .tmp 39) rfl) ?_
 refine regS Hz (.eql rfl rfl <| .assign rfl <| .nil) ?_
 clear Hz Az; intro Az Hz
 refine bool_cases Hz (t := 39) rfl ?_ ?_
 ·
  clear Hz; intro hb112 Hz; try simp only [QQ, Qax] at hb112
  refine wp_cond_true (Hz.ev (x := .tmp 39) rfl) ?_
  refine zss (hK9 _ _ ?_); clear hK9
  refine wp_cond_true (Hz.ev (x := .tmp 39) rfl) ?_
  refine wp_region_lit ?_
  refine goCh Hz (.fa 1 rfl U30 <| .lb m15 20 U3 rfl rfl rfl <| .fa 2 rfl U30 <| .lb m15 20 U3 rfl rfl rfl <| .move rfl <| .move rfl <| .move rfl <| .nil) ?_
  clear Hz Az; intro Az Hz
  refine wpList_plain rfl (fun K hK => ?_)
  refine e_litN Hz m15 23 (k := .u8) rfl rfl U22 fct0 rfl rfl rfl rfl ?_
  clear Hz Az m15; intro g120 Az w121 Hz m121
  refine hK _ _ ?_; clear hK
  have m122 := m121.freezeN 23 rfl; clear m121
  refine wpList_plain rfl (fun K hK => ?_)
  refine e_call Hz Tryd.func62 rfl rfl rfl rfl (sitem_any bl z [xa, xb, xc] _ _ _ ((m122.rd (i := 23) rfl).any) (by simp) (b3 ha9 hb9 hc9) (by omega)) ?_
  rintro e w123 ⟨it, p123, c123, rfl, hit8, hpre9, hitb, hit1, hd123, hb123⟩
  have m124 := m122.callF 24 rfl hb123 hd123
  clear m122
  clear hb123 hd123
  refine ⟨_, rfl, ?_⟩; clear Hz Az; intro Az Hz
  refine hK _ _ ?_; clear hK
  refine goCh Hz (.fieldAddr (off := 0) rfl U87 rfl (s := 0) (by kernel_rfl) rfl .nil) ?_
  clear Hz Az; intro Az Hz
  refine wpList_plain rfl (fun K hK => ?_)
  refine e_store1 Hz m124 22 rfl rfl rfl rfl rfl fct8 (by dsimp only [List.set] <;> rfl) ?_
  clear m124; intro w127 m127 hB127
  clear hB127
  refine hK _ _ ?_; clear hK
  refine goCh Hz (.fieldAddr (off := 9) rfl U87 rfl (s := 0) (by kernel_rfl) rfl .nil) ?_
  clear Hz Az; intro Az Hz
  refine wpList_plain rfl (fun K hK => ?_)
  refine e_store1 Hz m127 22 rfl rfl rfl rfl rfl fct27 (by dsimp only [List.set] <;> rfl) ?_
  clear m127; intro w129 m129 hB129
  clear hB129
  refine hK _ _ ?_; clear hK
  refine wpList_nil ?_
  show K3 _ _
  exact hC3 _ _ ⟨_, _, _, it, _, _, _, _, _, by decide, hit8, hitb, Hz.only [2, 3, 4, 5, 6, 12, 14], m129.ren [(6, 20), (12, 21), (14, 22), (9, 24)] (by decide)⟩
 clear Hz; intro hb112 Hz; try simp only [QQ, Qax] at hb112
 refine wp_cond_false (Hz.ev (x := .tmp 39) rfl) ?_
 refine wp_region_lit ?_
 refine goCh Hz (.eql rfl rfl <| .assign rfl <| .nil) ?_
 clear Hz Az; intro Az Hz
 refine znl (hK9 _ _ ?_); clear hK9
 refine bool_cases Hz (t := 39) rfl ?_ ?_
 ·
  clear Hz; intro hb132 Hz; try simp only [QQ, Qax] at hb132
  refine wp_cond_true (Hz.ev (x := .tmp 39) rfl) ?_
  replace Hz : Has 131 [(2, _), (3, _), (4, _), (5, _), (6, _), (12, _), (14, _), (37, _)] Az := Hz.only [2, 3, 4, 5, 6, 12, 14, 37]
  refine wp_region_lit ?_
  refine goCh Hz (.fa 1 rfl U30 <| .lb m15 20 U3 rfl rfl rfl <| .fa 2 rfl U30 <| .lb m15 20 U3 rfl rfl rfl <| .move rfl <| .move rfl <| .move rfl <| .nil) ?_
  clear Hz Az; intro Az Hz
  refine wpList_plain rfl (fun K hK => ?_)
  refine e_litN Hz m15 23 (k := .u8) rfl rfl U22 fct0 rfl rfl rfl rfl ?_
  clear Hz Az m15; intro g141 Az w142 Hz m142
  refine hK _ _ ?_; clear hK
  have m143 := m142.freezeN 23 rfl; clear m142
  refine wpList_plain rfl (fun K hK => ?_)
  refine e_call Hz Tryd.func62 rfl rfl rfl rfl (sitem_any bl z [xa, xb, xc] _ _ _ ((m143.rd (i := 23) rfl).any) (by simp) (b3 ha9 hb9 hc9) (by omega)) ?_
  rintro e w144 ⟨it, p144, c144, rfl, hit8, hpre9, hitb, hit1, hd144, hb144⟩
  have m145 := m143.callF 24 rfl hb144 hd144
  clear m143
  clear hb144 hd144
  refine ⟨_, rfl, ?_⟩; clear Hz Az; intro Az Hz
  refine hK _ _ ?_; clear hK
  refine goCh Hz (.fieldAddr (off := 0) rfl U87 rfl (s := 0) (by kernel_rfl) rfl .nil) ?_
  clear Hz Az; intro Az Hz
  refine wpList_plain rfl (fun K hK => ?_)
  refine e_store1 Hz m145 22 rfl rfl rfl rfl rfl fct8 (by dsimp only [List.set] <;> rfl) ?_
  clear m145; intro w148 m148 hB148
  clear hB148
  refine hK _ _ ?_; clear hK
  refine goCh Hz (.fieldAddr (off := 9) rfl U87 rfl (s := 0) (by kernel_rfl) rfl .nil) ?_
  clear Hz Az; intro Az Hz
  refine wpList_plain rfl (fun K hK => ?_)
  refine e_store1 Hz m148 22 rfl rfl rfl rfl rfl fct27 (by dsimp only [List.set] <;> rfl) ?_
  clear m148; intro w150 m150 hB150
  clear hB150
  refine hK _ _ ?_; clear hK
  refine wpList_nil ?_
  show K3 _ _
  exact hC3 _ _ ⟨_, _, _, it, _, _, _, _, _, by decide, hit8, hitb, Hz.only [2, 3, 4, 5, 6, 12, 14], m150.ren [(6, 20), (12, 21), (14, 22), (9, 24)] (by decide)⟩
 clear Hz; intro hb132 Hz; try simp only [QQ, Qax] at hb132
 refine wp_cond_false (Hz.ev (x := .tmp 39) rfl) ?_
 replace Hz : Has 131 [(2, _), (3, _), (4, _), (5, _), (6, _), (12, _), (14, _), (37, _)] Az := Hz.only [2, 3, 4, 5, 6, 12, 14, 37]
 refine regS Hz (.eql rfl rfl <| .assign rfl <| .nil) ?_
 clear Hz Az; intro Az Hz
 refine bool_cases Hz (t := 55) rfl ?_ ?_
 ·
  clear Hz; intro hb154 Hz; try simp only [QQ, Qax] at hb154
  refine wp_cond_true (Hz.ev (x := .tmp 55) rfl) ?_
  have m155 : MemOk _ _ [(20, _), (21, _), (22, _)] _ := m15.only [20, 21, 22]; clear m15
  refine region_p 10 (B := [(20, _)]) (m155.to ⟨il, trivial⟩) m155 (by kernel_rfl) (fun w156 hP156 m156 => ?_); clear m155
  refine goR hP156 [0, 1, 2, 6] [2] 4 0 71 Hz (m156.to ⟨il, trivial⟩) (.move rfl <| .conv rfl U5 U2 (r := xa) (IntWalk.i64_in _ (by omega)) <| .loadBR hh (i := 20) rfl rfl U30 rfl fct10 (by simp) (by dsimp only [List.drop, List.take] <;> rfl) <| .fa 0 rfl U87 <| .nil) ?_
  clear Hz Az; intro Az Hz
  refine stepE_only 3 rfl (by kernel_rfl) rfl (fun K hK => ?_)
  refine e_call Hz Tryd.func22 rfl rfl rfl rfl (rlen_any _ _ _ _ _ _ _ _ _ _ _ _ _ _ _ _ _ _) ?_
  rintro e w161 ⟨rfl, hb161⟩
  have m162 := m156.later hb161
  clear m156
  clear hb161
  refine ⟨_, rfl, ?_⟩; clear Hz Az; intro Az Hz
  refine hK _ _ (m162.to ⟨il, trivial⟩) ?_; clear hK K
  refine goA hP156 [4, 5] 2 79 127 Hz (m162.to ⟨il, trivial⟩) (.add rfl rfl (r := (nw : Int) + 2) (IntWalk.i64_in _ (by omega)) <| .rem rfl rfl (by omega) rfl <| .nil) ?_
  clear Hz Az; intro Az Hz
  refine stepE_only 7 rfl (by kernel_rfl) rfl (fun K hK => ?_)
  refine e_store1 Hz m162 22 rfl rfl rfl rfl rfl fct8 (by dsimp only [List.set] <;> rfl) ?_
  clear m162; intro w166 m166 hB166
  clear hB166
  refine hK _ _ (m166.to ⟨il, trivial⟩) ?_; clear hK K
  refine goA hP156 [8] 1 255 511 Hz (m166.to ⟨il, trivial⟩) (.fa 7 rfl U87 <| .nil) ?_
  clear Hz Az; intro Az Hz
  refine stepE_only 9 rfl (by kernel_rfl) rfl (fun K hK => ?_)
  refine e_store1 Hz m166 22 rfl rfl rfl rfl rfl fct23 (by dsimp only [List.set] <;> rfl) ?_
  clear m166; intro w168 m168 hB168
  clear hB168
  refine hK _ _ (m168.to ⟨il, trivial⟩) ?_; clear hK K
  refine wpAnyE_done (by kernel_rfl) ?_ _
  have m169 := m168.dat 23 rfl (Rd.l0 none 0 2); clear m168
  show K3 _ _
  exact hC3 _ _ ⟨_, _, _, [], _, _, _, _, _, by decide, by decide, (fun _ h => by cases h), Hz.only [2, 3, 4, 5, 6, 12, 14], m169.ren [(6, 20), (12, 21), (14, 22), (9, 23)] (by decide)⟩
 clear Hz; intro hb154 Hz; try simp only [QQ, Qax] at hb154
 refine wp_cond_false (Hz.ev (x := .tmp 55) rfl) ?_
 refine regS Hz (.eql rfl rfl <| .assign rfl <| .nil) ?_
 clear Hz Az; intro Az Hz
 refine bool_cases Hz (t := 65) rfl ?_ ?_
 ·
  clear Hz; intro hb172 Hz; try simp only [QQ, Qax] at hb172
  refine wp_cond_true (Hz.ev (x := .tmp 65) rfl) ?_
  have m173 : MemOk _ _ [(20, _), (21, _), (22, _)] _ := m15.only [20, 21, 22]; clear m15
  refine region_p 10 (B := [(20, _)]) (m173.to ⟨il, trivial⟩) m173 (by kernel_rfl) (fun w174 hP174 m174 => ?_); clear m173
  refine goR hP174 [0, 1, 2, 6] [2] 4 0 71 Hz (m174.to ⟨il, trivial⟩) (.move rfl <| .conv rfl U5 U2 (r := xa) (IntWalk.i64_in _ (by omega)) <| .loadBR hh (i := 20) rfl rfl U30 rfl fct10 (by simp) (by dsimp only [List.drop, List.take] <;> rfl) <| .fa 0 rfl U87 <| .nil) ?_
  clear Hz Az; intro Az Hz
  refine stepE_only 3 rfl (by kernel_rfl) rfl (fun K hK => ?_)
  refine e_call Hz Tryd.func22 rfl rfl rfl rfl (rlen_any _ _ _ _ _ _ _ _ _ _ _ _ _ _ _ _ _ _) ?_
  rintro e w179 ⟨rfl, hb179⟩
  have m180 := m174.later hb179
  clear m174
  clear hb179
  refine ⟨_, rfl, ?_⟩; clear Hz Az; intro Az Hz
  refine hK _ _ (m180.to ⟨il, trivial⟩) ?_; clear hK K
  refine goA hP174 [4, 5] 2 79 127 Hz (m180.to ⟨il, trivial⟩) (.add rfl rfl (r := (nw : Int) + 2) (IntWalk.i64_in _ (by omega)) <| .rem rfl rfl (by omega) rfl <| .nil) ?_
  clear Hz Az; intro Az Hz
  refine stepE_only 7 rfl (by kernel_rfl) rfl (fun K hK => ?_)
  refine e_store1 Hz m180 22 rfl rfl rfl rfl rfl fct8 (by dsimp only [List.set] <;> rfl) ?_
  clear m180; intro w184 m184 hB184
  clear hB184
  refine hK _ _ (m184.to ⟨il, trivial⟩) ?_; clear hK K
  refine goA hP174 [8] 1 255 511 Hz (m184.to ⟨il, trivial⟩) (.fa 7 rfl U87 <| .nil) ?_
  clear Hz Az; intro Az Hz
  refine stepE_only 9 rfl (by kernel_rfl) rfl (fun K hK => ?_)
  refine e_store1 Hz m184 22 rfl rfl rfl rfl rfl fct23 (by dsimp only [List.set] <;> rfl) ?_
  clear m184; intro w186 m186 hB186
  clear hB186
  refine hK _ _ (m186.to ⟨il, trivial⟩) ?_; clear hK K
  refine wpAnyE_done (by kernel_rfl) ?_ _
  have m187 := m186.dat 23 rfl (Rd.l0 none 0 2); clear m186
  show K3 _ _
  exact hC3 _ _ ⟨_, _, _, [], _, _, _, _, _, by decide, by decide, (fun _ h => by cases h), Hz.only [2, 3, 4, 5, 6, 12, 14], m187.ren [(6, 20), (12, 21), (14, 22), (9, 23)] (by decide)⟩
 clear Hz; intro hb172 Hz; try simp only [QQ, Qax] at hb172
 refine wp_cond_false (Hz.ev (x := .tmp 65) rfl) ?_
 refine regS Hz (.eql rfl rfl <| .assign rfl <| .nil) ?_
 clear Hz Az; intro Az Hz
 refine bool_cases Hz (t := 75) rfl ?_ ?_
 ·
  clear Hz; intro hb190 Hz; try simp only [QQ, Qax] at hb190
  refine wp_cond_true (Hz.ev (x := .tmp 75) rfl) ?_
  replace Hz : Has 131 [(2, _), (3, _), (4, _), (5, _), (6, _), (12, _), (14, _), (37, _)] Az := Hz.only [2, 3, 4, 5, 6, 12, 14, 37]
  have m192 : MemOk _ _ [(20, _), (21, _), (22, _)] _ := m15.only [20, 21, 22]; clear m15
  refine region_p 10 (B := [(20, _)]) (m192.to ⟨il, trivial⟩) m192 (by kernel_rfl) (fun w193 hP193 m193 => ?_); clear m192
  refine goR hP193 [0, 1, 2, 6] [2] 4 0 71 Hz (m193.to ⟨il, trivial⟩) (.move rfl <| .conv rfl U5 U2 (r := xa) (IntWalk.i64_in _ (by omega)) <| .loadBR hh (i := 20) rfl rfl U30 rfl fct10 (by simp) (by dsimp only [List.drop, List.take] <;> rfl) <| .fa 0 rfl U87 <| .nil) ?_
  clear Hz Az; intro Az Hz
  refine stepE_only 3 rfl (by kernel_rfl) rfl (fun K hK => ?_)
  refine e_call Hz Tryd.func22 rfl rfl rfl rfl (rlen_any _ _ _ _ _ _ _ _ _ _ _ _ _ _ _ _ _ _) ?_
  rintro e w198 ⟨rfl, hb198⟩
  have m199 := m193.later hb198
  clear m193
  clear hb198
  refine ⟨_, rfl, ?_⟩; clear Hz Az; intro Az Hz
  refine hK _ _ (m199.to ⟨il, trivial⟩) ?_; clear hK K
  refine goA hP193 [4, 5] 2 79 127 Hz (m199.to ⟨il, trivial⟩) (.add rfl rfl (r := (nw : Int) + 2) (IntWalk.i64_in _ (by omega)) <| .rem rfl rfl (by omega) rfl <| .nil) ?_
  clear Hz Az; intro Az Hz
  refine stepE_only 7 rfl (by kernel_rfl) rfl (fun K hK => ?_)
  refine e_store1 Hz m199 22 rfl rfl rfl rfl rfl fct8 (by dsimp only [List.set] <;> rfl) ?_
  clear m199; intro w203 m203 hB203
  clear hB203
  refine hK _ _ (m203.to ⟨il, trivial⟩) ?_; clear hK K
  refine goA hP193 [8] 1 255 511 Hz (m203.to ⟨il, trivial⟩) (.fa 7 rfl U87 <| .nil) ?_
  clear Hz Az; intro Az Hz
  refine stepE_only 9 rfl (by kernel_rfl) rfl (fun K hK => ?_)
  refine e_store1 Hz m203 22 rfl rfl rfl rfl rfl fct23 (by dsimp only [List.set] <;> rfl) ?_
  clear m203; intro w205 m205 hB205
  clear hB205
  refine hK _ _ (m205.to ⟨il, trivial⟩) ?_; clear hK K
  refine wpAnyE_done (by kernel_rfl) ?_ _
  have m206 := m205.dat 23 rfl (Rd.l0 none 0 2); clear m205
  show K3 _ _
  exact hC3 _ _ ⟨_, _, _, [], _, _, _, _, _, by decide, by decide, (fun _ h => by cases h), Hz.only [2, 3, 4, 5, 6, 12, 14], m206.ren [(6, 20), (12, 21), (14, 22), (9, 23)] (by decide)⟩
 clear Hz; intro hb190 Hz; try simp only [QQ, Qax] at hb190
 refine wp_cond_false (Hz.ev (x := .tmp 75) rfl) ?_
 replace Hz : Has 131 [(2, _), (3, _), (4, _), (5, _), (6, _), (12, _), (14, _), (37, _)] Az := Hz.only [2, 3, 4, 5, 6, 12, 14, 37]
 refine regS Hz (.eql rfl rfl <| .assign rfl <| .nil) ?_
 clear Hz Az; intro Az Hz
 refine bool_cases Hz (t := 85) rfl ?_ ?_
 ·
  clear Hz; intro hb210 Hz; try simp only [QQ, Qax] at hb210
  refine wp_cond_true (Hz.ev (x := .tmp 85) rfl) ?_
  refine wp_region_lit ?_
  refine goCh Hz (.fieldAddr (off := 0) rfl U87 rfl (s := 0) (by kernel_rfl) rfl .nil) ?_
  clear Hz Az; intro Az Hz
  refine wpList_plain rfl (fun K hK => ?_)
  refine e_store1 Hz m15 22 rfl rfl rfl rfl rfl fct8 (by dsimp only [List.set] <;> rfl) ?_
  clear m15; intro w212 m212 hB212
  clear hB212
  refine hK _ _ ?_; clear hK
  refine wpList_nil ?_
  have m213 := m212.dat 23 rfl (Rd.l0 none 0 2); clear m212
  show K3 _ _
  exact hC3 _ _ ⟨_, _, _, [], _, _, _, _, _, by decide, by decide, (fun _ h => by cases h), Hz.only [2, 3, 4, 5, 6, 12, 14], m213.ren [(6, 20), (12, 21), (14, 22), (9, 23)] (by decide)⟩
 clear Hz; intro hb210 Hz; try simp only [QQ, Qax] at hb210
 refine wp_cond_false (Hz.ev (x := .tmp 85) rfl) ?_
 refine regS Hz (.eql rfl rfl <| .assign rfl <| .nil) ?_
 clear Hz Az; intro Az Hz
 refine bool_cases Hz (t := 88) rfl ?_ ?_
 ·
  clear Hz; intro hb216 Hz; try simp only [QQ, Qax] at hb216
  refine wp_cond_true (Hz.ev (x := .tmp 88) rfl) ?_
  have m217 : MemOk _ _ [(20, _), (21, _), (22, _)] _ := m15.only [20, 21, 22]; clear m15
  refine region_p 22 (B := [(20, _)]) (m217.to ⟨il, trivial⟩) m217 (by kernel_rfl) (fun w218 hP218 m218 => ?_); clear m217
  refine goR hP218 [0, 1, 2, 3, 4, 5, 6, 7, 8, 9, 10, 11, 12, 13, 16] [1, 9, 11] 15 0 81919 Hz (m218.to ⟨il, trivial⟩) (.fa 6 rfl U30 <| .lb hh 20 U3 rfl rfl rfl <| .move rfl <| .rem rfl rfl (by decide) (Int.tmod_eq_emod_of_nonneg (by omega)) <| .conv rfl U5 U3 (r := xc % 5) (IntWalk.i64_in _ (by omega)) <| .quo rfl rfl (by decide) (r := xc % 5 / 4) (by rw [Int.tdiv_eq_ediv_of_nonneg (by omega)]; exact IntWalk.i64_in _ (by omega)) <| .sub rfl rfl (r := ne - xc % 5 / 4) (IntWalk.i64_in _ (by omega)) <| .p (fun _ _ h => y_max h rfl rfl rfl) <| .fa 1 rfl U30 <| .lb hh 20 U3 rfl rfl rfl <| .fa 2 rfl U30 <| .lb hh 20 U3 rfl rfl rfl <| .move rfl <| .move rfl <| .fa 0 rfl U87 <| .nil) ?_
  clear Hz Az; intro Az Hz
  refine stepE_only 14 rfl (by kernel_rfl) rfl (fun K hK => ?_)
  refine e_litN Hz m218 23 (k := .u8) rfl rfl U22 fct0 rfl rfl rfl rfl ?_
  clear Hz Az m218; intro g234 Az w235 Hz m235
  refine hK _ _ (m235.to ⟨il, trivial⟩) ?_; clear hK K
  have m236 := m235.freezeN 23 rfl; clear m235
  refine stepE_only 15 rfl (by kernel_rfl) rfl (fun K hK => ?_)
  refine e_call Hz Tryd.func62 rfl rfl rfl rfl (sitem_any bl z [xa, xb] _ _ _ ((m236.rd (i := 23) rfl).any) (by simp) (b2 ha9 hb9) (by omega)) ?_
  rintro e w237 ⟨it, p237, c237, rfl, hit8, hpre9, hitb, hit1, hd237, hb237⟩
  have m238 := m236.callF 24 rfl hb237 hd237
  clear m236
  clear hb237 hd237
  refine ⟨_, rfl, ?_⟩; clear Hz Az; intro Az Hz
  refine hK _ _ (m238.to ⟨il, trivial⟩) ?_; clear hK K
  refine stepE_only 17 rfl (by kernel_rfl) rfl (fun K hK => ?_)
  refine e_store1 Hz m238 22 rfl rfl rfl rfl rfl fct8 (by dsimp only [List.set] <;> rfl) ?_
  clear m238; intro w240 m240 hB240
  clear hB240
  refine hK _ _ (m240.to ⟨il, trivial⟩) ?_; clear hK K
  refine goA hP218 [18] 1 262143 524287 Hz (m240.to ⟨il, trivial⟩) (.fa 8 rfl U87 <| .nil) ?_
  clear Hz Az; intro Az Hz
  refine stepE_only 19 rfl (by kernel_rfl) rfl (fun K hK => ?_)
  refine e_store1 Hz m240 22 rfl rfl rfl rfl rfl fct8 (by dsimp only [List.set] <;> rfl) ?_
  clear m240; intro w242 m242 hB242
  clear hB242
  refine hK _ _ (m242.to ⟨il, trivial⟩) ?_; clear hK K
  refine goA hP218 [20] 1 1048575 2097151 Hz (m242.to ⟨il, trivial⟩) (.fa 9 rfl U87 <| .nil) ?_
  clear Hz Az; intro Az Hz
  refine stepE_only 21 rfl (by kernel_rfl) rfl (fun K hK => ?_)
  refine e_store1 Hz m242 22 rfl rfl rfl rfl rfl fct27 (by dsimp only [List.set] <;> rfl) ?_
  clear m242; intro w244 m244 hB244
  clear hB244
  refine hK _ _ (m244.to ⟨il, trivial⟩) ?_; clear hK K
  refine wpAnyE_done (by kernel_rfl) ?_ _
  show K3 _ _
  exact hC3 _ _ ⟨_, _, _, it, _, _, _, _, _, by decide, hit8, hitb, Hz.only [2, 3, 4, 5, 6, 12, 14], m244.ren [(6, 20), (12, 21), (14, 22), (9, 24)] (by decide)⟩
 clear Hz; intro hb216 Hz; try simp only [QQ, Qax] at hb216
 refine wp_cond_false (Hz.ev (x := .tmp 88) rfl) ?_
 refine wp_region_lit ?_
 refine goCh Hz (.fieldAddr (off := 0) rfl U87 rfl (s := 0) (by kernel_rfl) rfl .nil) ?_
 clear Hz Az; intro Az Hz
 refine wpList_plain rfl (fun K hK => ?_)
 refine e_store1 Hz m15 22 rfl rfl rfl rfl rfl fct8 (by dsimp only [List.set] <;> rfl) ?_
 clear m15; intro w246 m246 hB246
 clear hB246
 refine hK _ _ ?_; clear hK
 refine wpList_nil ?_
 have m247 := m246.dat 23 rfl (Rd.l0 none 0 2); clear m246
 show K3 _ _
 exact hC3 _ _ ⟨_, _, _, [], _, _, _, _, _, by decide, by decide, (fun _ h => by cases h), Hz.only [2, 3, 4, 5, 6, 12, 14], m247.ren [(6, 20), (12, 21), (14, 22), (9, 23)] (by decide)⟩
end Go.Proofs.YtflcgpajodfkoaaDoor.K
