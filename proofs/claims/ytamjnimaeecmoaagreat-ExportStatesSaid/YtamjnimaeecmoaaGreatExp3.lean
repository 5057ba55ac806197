/- export: retained, Full, Since. -/
import Derived.Test.YtamjnimaeecmoaaGreatExp2
namespace Go.Proofs.YtamjnimaeecmoaaGreat.K
open Go.ChangeShapes Go.WideShapes Go.ChangeAt Go.RowKit
set_option linter.unusedVariables false
set_option linter.unusedSimpArgs false
theorem fl42efu : flatS Tryz.prog 42 [.int .i64 0, .int .i64 0, .int .i64 0, .int .i64 0, .slice none 0 0] = true := by kernel_rfl
theorem fl42esi : flatS Tryz.prog 42 [.int .i64 0, .int .i64 0, .int .i64 0, .int .i64 0, .slice none 0 0] = true := by kernel_rfl
def FullE (y : VolV) (L : List (Nat × Nat)) (t e9 bl sz fr t9 : Int) (its : List (Int × List Int)) : Prop := (y.hi = true ∧ e9 = 28) ∨ (y.hi = false ∧ t < y.fl ∧ e9 = 30) ∨ (y.hi = false ∧ y.fl ≤ t ∧ (y.ws.length : Int) < t ∧ e9 = 31) ∨ (y.hi = false ∧ y.fl ≤ t ∧ t ≤ (y.ws.length : Int) ∧ L = [] ∧ e9 = 32) ∨ (y.hi = false ∧ y.fl ≤ t ∧ t ≤ (y.ws.length : Int) ∧ L ≠ [] ∧ e9 = 0 ∧ bl = y.bl ∧ sz = y.sz ∧ fr = -1 ∧ t9 = t ∧ its = wholeI (stL y.bl y.sz y.ws t.toNat) y.bl.toNat)
def SinceE (y : VolV) (L : List (Nat × Nat)) (f t e9 bl sz fr t9 : Int) (its : List (Int × List Int)) : Prop := (y.hi = true ∧ e9 = 28) ∨ (y.hi = false ∧ t < f ∧ e9 = 23) ∨ (y.hi = false ∧ f ≤ t ∧ f < y.fl ∧ e9 = 30) ∨ (y.hi = false ∧ f ≤ t ∧ y.fl ≤ f ∧ (y.ws.length : Int) < t ∧ e9 = 31) ∨ (y.hi = false ∧ f ≤ t ∧ y.fl ≤ f ∧ t ≤ (y.ws.length : Int) ∧ L = [] ∧ e9 = 32) ∨ (y.hi = false ∧ f ≤ t ∧ y.fl ≤ f ∧ t ≤ (y.ws.length : Int) ∧ L ≠ [] ∧ e9 = 0 ∧ bl = y.bl ∧ sz = y.sz ∧ fr = f ∧ t9 = t ∧ its = selI (stL y.bl y.sz y.ws t.toNat) (chgB y f t) y.bl.toNat)
theorem vlen_y (y : VolV) (pp pn pw : Option Addr) (cp nn9 cn9 cw : Nat) (w0 : World) :
   Calls Tryz.prog 69 #[.agg #[.int .i64 y.vo, .int .i64 y.bl, .int .i64 y.sz, .int .i64 y.pe, .slice pp y.place.length cp, .int .i64 y.to, .int .i64 y.ne, .bool y.hi, .int .i64 y.fl, .slice pn nn9 cn9, .slice pw (y.ws.map wrD).length cw]] w0 fun e w' => e = .returned (.int .i64 (y.ws.length : Int)) ∧ Below w0.heap.size w0 w' := by
 have h := vlen_any y.vo y.bl y.sz y.pe y.to y.ne y.fl y.hi pp pn pw y.place.length cp nn9 cn9 (y.ws.map wrD).length cw w0
 rw [List.length_map] at h
 rw [List.length_map]
 exact h
set_option maxRecDepth 100000
set_option maxHeartbeats 4000000
theorem eret_x (y : VolV) (pp pn pw : Option Addr) (cp nn9 cn9 cw : Nat) (a9 b9 : Int) (w0 : World) :
   Calls Tryz.prog 37 #[.agg #[.int .i64 y.vo, .int .i64 y.bl, .int .i64 y.sz, .int .i64 y.pe, .slice pp y.place.length cp, .int .i64 y.to, .int .i64 y.ne, .bool y.hi, .int .i64 y.fl, .slice pn nn9 cn9, .slice pw (y.ws.map wrD).length cw], .int .i64 a9, .int .i64 b9] w0 fun e w' => ∃ r : Int, e = .returned (.int .i64 r) ∧ ((a9 < y.fl ∧ r = 30) ∨ (y.fl ≤ a9 ∧ (y.ws.length : Int) < b9 ∧ r = 31) ∨ (y.fl ≤ a9 ∧ b9 ≤ (y.ws.length : Int) ∧ r = 0)) ∧ Below w0.heap.size w0 w' := by
 refine ent3 Tryz.func37 rfl Tryz.ntmps37 fun Az Hz => ?_
 have m0 := MemOk.start (fun _ => False) w0
 refine zsr fun K0 hK0 => ?_
 refine plz (e_box Hz m0 40 (cs := [_, _, _, _, _, _, _, _, _, _, _]) rfl rfl rfl fun g1 Az w2 Hz m2 _ _ => ?_)
 refine gz hK0 Hz (.assign rfl .nil) fun Az Hz => ?_
 refine wsk fun K1 hK1 => ?_
 refine regS Hz (.move rfl <| .fa 8 rfl U33 <| .lb m2 40 U2 rfl rfl rfl <| .lss rfl rfl .nil) fun Az Hz => ?_
 refine bc Hz 10 ?_ ?_
 ·
  intro hb8 Hz; try simp only [QQ, Qax] at hb8
  have hr1 : a9 < y.fl := by have := hb8; first | omega | (simp at this; omega) | (simp at this; exact this)
  refine wct Hz ?_
  refine regS Hz (.assign rfl .nil) fun Az Hz => ?_
  refine rt1 Hz ?_
  exact ⟨_, rfl, .inl ⟨hr1, rfl⟩, m2.below⟩
 intro hb8 Hz; try simp only [QQ, Qax] at hb8
 have hr1 : y.fl ≤ a9 := by have := hb8; first | omega | (simp at this; omega) | (simp at this; exact this)
 refine wcf Hz ?_
 refine zss (hK1 _ _ ?_)
 refine wsk fun K2 hK2 => ?_
 refine zsr fun K3 hK3 => ?_
 refine goCh Hz (.move rfl <| .loadBR m2 (i := 40) rfl rfl U33 rfl fct1 (by simp) (by dsimp only [List.drop, List.take] <;> rfl) .nil) fun Az Hz => ?_
 refine plz (ecb Hz Tryz.func69 rfl m2 (vlen_y y _ _ _ _ _ _ _ _) fun Az w14 Hz m15 => ?_)
 refine gz hK3 Hz (.gtr rfl rfl .nil) fun Az Hz => ?_
 refine bc Hz 14 ?_ ?_
 ·
  intro hb18 Hz; try simp only [QQ, Qax] at hb18
  have hr2 : (y.ws.length : Int) < b9 := by have := hb18; first | omega | (simp at this; omega) | (simp at this; exact this)
  refine wct Hz ?_
  replace Hz := Hz.oz [6, 10, 14]
  refine regS Hz (.assign rfl .nil) fun Az Hz => ?_
  refine rt1 Hz ?_
  exact ⟨_, rfl, .inr (.inl ⟨hr1, hr2, rfl⟩), m15.below⟩
 intro hb18 Hz; try simp only [QQ, Qax] at hb18
 have hr2 : b9 ≤ (y.ws.length : Int) := by have := hb18; first | omega | (simp at this; omega) | (simp at this; exact this)
 refine wcf Hz ?_
 refine zss (hK2 _ _ ?_)
 replace Hz := Hz.oz [6, 10, 14]
 refine regS Hz (.assign rfl .nil) fun Az Hz => ?_
 refine rt1 Hz ?_
 exact ⟨_, rfl, .inr (.inr ⟨hr1, hr2, rfl⟩), m15.below⟩
theorem efull_x (X : Cx) (y : VolV) (n : Nat) (hS : VolS n y) (hn : n ≤ 1000) (pp pn pw : Option Addr) (cp nn9 cn9 cw : Nat) (L : List (Nat × Nat)) (pl : Option Addr) (cl : Nat) (t9 : Int) (w0 : World) (hL : L.length ≤ 1000000) (hLo : ∀ x ∈ L, x.1 < y.place.length ∧ x.2 ≤ y.ws.length) (hall : L = [] ∨ (L ≠ [] ∧ (y.fl ≤ t9 → t9 ≤ (y.ws.length : Int) → ∀ k, k < y.place.length → ∃ m, (k, m) ∈ L ∧ min y.fl (m : Int) ≤ t9 ∧ t9 ≤ (m : Int)))) (m0 : MemOk X w0 [(3, .dat (.slice pw (y.ws.map wrD).length cw) (.l 2 (y.ws.map wrD))), (4, .dat (.slice pl L.length cl) (.l 7 (L.map (ckD y))))] w0) :
   Calls Tryz.prog 14 #[.agg #[.int .i64 y.vo, .int .i64 y.bl, .int .i64 y.sz, .int .i64 y.pe, .slice pp y.place.length cp, .int .i64 y.to, .int .i64 y.ne, .bool y.hi, .int .i64 y.fl, .slice pn nn9 cn9, .slice pw (y.ws.map wrD).length cw], .slice pl L.length cl, .int .i64 t9] w0 fun e w' => ∃ (e9 bl sz fr8 t8 : Int) (its : List (Int × List Int)) (p9 : Option Addr) (c9 : Nat), FullE y L t9 e9 bl sz fr8 t8 its ∧ e = .returned (.tuple #[.agg #[.int .i64 bl, .int .i64 sz, .int .i64 fr8, .int .i64 t8, .slice p9 (its.map itD).length c9], .int .i64 e9]) ∧ MemOk X w0 [(3, .dat (.slice pw (y.ws.map wrD).length cw) (.l 2 (y.ws.map wrD))), (4, .dat (.slice pl L.length cl) (.l 7 (L.map (ckD y)))), (9, .dat (.slice p9 (its.map itD).length c9) (.l 2 (its.map itD)))] w' := by
 refine ent3 Tryz.func14 rfl Tryz.ntmps14 fun Az Hz => ?_
 have hF := hS.f hn
 have hf0 := hF.fl0
 have hf1 := hF.fl1
 refine zsr fun K0 hK0 => ?_
 refine plz (e_box Hz m0 40 (cs := [_, _, _, _, _, _, _, _, _, _, _]) rfl rfl rfl fun g1 Az w2 Hz m2 _ _ => ?_)
 refine plz (e_alloc Hz m2 41 fct38 rfl fun g3 Az w4 Hz m4 _ _ => ?_)
 refine gz hK0 Hz (.assign rfl .nil) fun Az Hz => ?_
 refine wsk fun K1 hK1 => ?_
 refine regS Hz (.fa 7 rfl U33 <| .lb m4 40 U4 rfl rfl rfl .nil) fun Az Hz => ?_
 refine bc Hz 12 ?_ ?_
 ·
  intro hb8 Hz; try simp only [QQ, Qax] at hb8
  have hh : y.hi = true := hb8
  refine wct Hz ?_
  refine zsr fun K2 hK2 => ?_
  refine goCh Hz (.build rfl fct38 fl42efu rfl (by dsimp only [setL, List.set] <;> rfl) .nil) fun Az Hz => ?_
  refine plz (stw Hz m4 41 fct37 fun w11 m11 _ => ?_)
  refine gz hK2 Hz (.assign rfl .nil) fun Az Hz => ?_
  refine rtd (retCT (fn := Tryz.f14) Hz m11 (i := 41) rfl rfl rfl rfl U42 rfl fct37 ?_)
  have mA := m11.dat 91 rfl (Rd.l0 none 0 2)
  exact ⟨_, 0, 0, 0, 0, [], _, _, .inl ⟨hh, rfl⟩, rfl, mA.ren [(3, 3), (4, 4), (9, 91)] (by decide)⟩
 intro hb8 Hz; try simp only [QQ, Qax] at hb8
 have hh : y.hi = false := hb8
 refine wcf Hz ?_
 refine zss (hK1 _ _ ?_)
 refine wsk fun K3 hK3 => ?_
 refine zsr fun K4 hK4 => ?_
 refine goCh Hz (.loadBR m4 (i := 40) rfl rfl U33 rfl fct1 (by simp) (by dsimp only [List.drop, List.take] <;> rfl) <| .move rfl <| .move rfl .nil) fun Az Hz => ?_
 refine plz (ecl Hz Tryz.func37 rfl (eret_x y _ _ _ _ _ _ _ t9 t9 _) ?_)
 rintro e w19 ⟨r9, rfl, hr, hb19⟩
 have m20 := m4.later hb19
 refine ⟨_, rfl, ?_⟩; intro Az Hz
 refine gz hK4 Hz (.assign rfl .nil) fun Az Hz => ?_
 replace Hz := Hz.oz [1, 2, 3, 6, 7, 12, 8]
 refine regS Hz (.move rfl <| .neq rfl rfl .nil) fun Az Hz => ?_
 refine bc Hz 19 ?_ ?_
 ·
  intro hb26 Hz; try simp only [QQ, Qax] at hb26
  have hr0 : r9 ≠ 0 := by have := hb26; first | omega | (simp at this; omega) | (simp at this; exact this)
  refine wct Hz ?_
  refine zsr fun K5 hK5 => ?_
  refine goCh Hz (.build rfl fct38 fl42efu rfl (by dsimp only [setL, List.set] <;> rfl) <| .move rfl .nil) fun Az Hz => ?_
  refine plz (stw Hz m20 41 fct37 fun w31 m31 _ => ?_)
  refine gz hK5 Hz (.assign rfl .nil) fun Az Hz => ?_
  refine rtd (retCT (fn := Tryz.f14) Hz m31 (i := 41) rfl rfl rfl rfl U42 rfl fct37 ?_)
  have mA := m31.dat 91 rfl (Rd.l0 none 0 2)
  rcases hr with ⟨h1, rfl⟩ | ⟨h1, h2, rfl⟩ | ⟨h1, h2, rfl⟩
  · exact ⟨_, 0, 0, 0, 0, [], _, _, .inr (.inl ⟨hh, h1, rfl⟩), rfl, mA.ren [(3, 3), (4, 4), (9, 91)] (by decide)⟩
  · exact ⟨_, 0, 0, 0, 0, [], _, _, .inr (.inr (.inl ⟨hh, h1, h2, rfl⟩)), rfl, mA.ren [(3, 3), (4, 4), (9, 91)] (by decide)⟩
  exact absurd rfl hr0
 intro hb26 Hz; try simp only [QQ, Qax] at hb26
 have hr0 : r9 = 0 := by have := hb26; first | omega | (simp at this; omega) | (simp at this; exact this)
 have hrr : y.fl ≤ t9 ∧ t9 ≤ (y.ws.length : Int) := by rcases hr with ⟨h1, rfl⟩ | ⟨h1, h2, rfl⟩ | ⟨h1, h2, rfl⟩ <;> omega
 refine wcf Hz ?_
 refine zss (hK3 _ _ ?_)
 refine wsk fun K6 hK6 => ?_
 rcases hall with hL0 | ⟨hL1, hall9⟩
 ·
  refine wp_region_lit ?_
  refine goCh Hz (.loadBR m20 (i := 40) rfl rfl U33 rfl fct1 (by simp) (by dsimp only [List.drop, List.take] <;> rfl) <| .move rfl <| .move rfl <| .move rfl .nil) fun Az Hz => ?_
  refine plz (ecl Hz Tryz.func38 rfl (epall_no _ y n hS hn _ _ _ _ _ _ _ L _ _ t9 t9 _ hL0 (m20.into [(3, 3), (4, 4)] (by decide) rfl)) ?_)
  rintro e w37 ⟨rfl, hm37⟩
  have mx37 := m20.back hm37 [(3, 3), (4, 4)] (by decide); clear hm37 m20
  have m37 := mx37.oz [3, 4, 40, 41]
  refine ⟨_, rfl, ?_⟩; intro Az Hz
  refine gz hK6 Hz (.move rfl <| .extract rfl rfl <| .extract rfl rfl <| .assign rfl <| .assign rfl <| .nil) fun Az Hz => ?_
  refine wsk fun K7 hK7 => ?_
  replace Hz := Hz.oz [2, 3, 6, 7, 12, 19, 9, 10]
  refine regS Hz (.move rfl <| .not rfl .nil) fun Az Hz => ?_
  refine wct Hz ?_
  refine zsr fun K8 hK8 => ?_
  refine goCh Hz (.build rfl fct38 fl42efu rfl (by dsimp only [setL, List.set] <;> rfl) .nil) fun Az Hz => ?_
  refine plz (stw Hz m37 41 fct37 fun w49 m49 _ => ?_)
  refine gz hK8 Hz (.assign rfl .nil) fun Az Hz => ?_
  refine rtd (retCT (fn := Tryz.f14) Hz m49 (i := 41) rfl rfl rfl rfl U42 rfl fct37 ?_)
  have mA := m49.dat 91 rfl (Rd.l0 none 0 2)
  exact ⟨_, 0, 0, 0, 0, [], _, _, .inr (.inr (.inr (.inl ⟨hh, hrr.1, hrr.2, hL0, rfl⟩))), rfl, mA.ren [(3, 3), (4, 4), (9, 91)] (by decide)⟩
 refine wp_region_lit ?_
 refine goCh Hz (.loadBR m20 (i := 40) rfl rfl U33 rfl fct1 (by simp) (by dsimp only [List.drop, List.take] <;> rfl) <| .move rfl <| .move rfl <| .move rfl .nil) fun Az Hz => ?_
 refine plz (ecl Hz Tryz.func38 rfl (epall_yes _ y n hS hn _ _ _ _ _ _ _ L _ _ t9 t9 _ hL hLo (hall9 (by omega) (by omega)) (m20.into [(3, 3), (4, 4)] (by decide) rfl)) ?_)
 rintro e w55 ⟨Lp, p55, c55, hPL, rfl, hm55⟩
 have mx55 := m20.back hm55 [(3, 3), (4, 4), (42, 9)] (by decide); clear hm55 m20
 have m55 := mx55.oz [3, 4, 42, 40, 41]
 refine ⟨_, rfl, ?_⟩; intro Az Hz
 obtain ⟨tn, htn⟩ : ∃ tn : Nat, t9 = (tn : Int) := ⟨t9.toNat, by omega⟩
 refine gz hK6 Hz (.move rfl <| .extract rfl rfl <| .extract rfl rfl <| .assign rfl <| .assign rfl <| .nil) fun Az Hz => ?_
 refine wsk fun K9 hK9 => ?_
 replace Hz := Hz.oz [2, 3, 6, 7, 12, 19, 9, 10]
 refine regS Hz (.move rfl <| .not rfl .nil) fun Az Hz => ?_
 refine wcf Hz ?_
 refine zss (hK9 _ _ ?_)
 refine zsr fun K10 hK10 => ?_
 refine goCh Hz (.loadBR m55 (i := 40) rfl rfl U33 rfl fct1 (by simp) (by dsimp only [List.drop, List.take] <;> rfl) <| .move rfl <| .move rfl .nil) fun Az Hz => ?_
 refine plz (ecl Hz Tryz.func39 rfl (ecoll_f _ y n hS hn _ _ _ _ _ _ _ L Lp _ _ _ (-1) t9 tn _ _ hLo hPL rfl htn (by omega) (m55.into [(4, 42)] (by decide) rfl)) ?_)
 rintro e w71 ⟨p71, c71, rfl, hm71⟩
 have mx71 := m55.back hm71 [(42, 4), (43, 9)] (by decide); clear hm71 m55
 have m71 := mx71.oz [42, 43, 3, 4, 40, 41]
 refine ⟨_, rfl, ?_⟩; intro Az Hz
 refine goCh Hz (.extract rfl rfl <| .extract rfl rfl .nil) fun Az Hz => ?_
 refine plz (stw Hz m71 41 fct37 fun w75 m75 _ => ?_)
 refine gz hK10 Hz (.assign rfl .nil) fun Az Hz => ?_
 refine rtd (retCT (fn := Tryz.f14) Hz m75 (i := 41) rfl rfl rfl rfl U42 rfl fct37 ?_)
 exact ⟨_, _, _, _, _, _, _, _, .inr (.inr (.inr (.inr ⟨hh, hrr.1, hrr.2, hL1, rfl, rfl, rfl, rfl, rfl, by rw [htn, selI_all]; rfl⟩))), rfl, m75.ren [(3, 3), (4, 4), (9, 43)] (by decide)⟩
theorem esince_x (X : Cx) (y : VolV) (n : Nat) (hS : VolS n y) (hn : n ≤ 1000) (pp pn pw : Option Addr) (cp nn9 cn9 cw : Nat) (L : List (Nat × Nat)) (pl : Option Addr) (cl : Nat) (fr t9 : Int) (w0 : World) (hL : L.length ≤ 1000000) (hLo : ∀ x ∈ L, x.1 < y.place.length ∧ x.2 ≤ y.ws.length) (hall : L = [] ∨ (L ≠ [] ∧ (∀ x ∈ L, x.2 = y.ws.length) ∧ (∀ k, k < y.place.length → (k, y.ws.length) ∈ L))) (m0 : MemOk X w0 [(3, .dat (.slice pw (y.ws.map wrD).length cw) (.l 2 (y.ws.map wrD))), (4, .dat (.slice pl L.length cl) (.l 7 (L.map (ckD y))))] w0) :
   Calls Tryz.prog 17 #[.agg #[.int .i64 y.vo, .int .i64 y.bl, .int .i64 y.sz, .int .i64 y.pe, .slice pp y.place.length cp, .int .i64 y.to, .int .i64 y.ne, .bool y.hi, .int .i64 y.fl, .slice pn nn9 cn9, .slice pw (y.ws.map wrD).length cw], .slice pl L.length cl, .int .i64 fr, .int .i64 t9] w0 fun e w' => ∃ (e9 bl sz fr8 t8 : Int) (its : List (Int × List Int)) (p9 : Option Addr) (c9 : Nat), SinceE y L fr t9 e9 bl sz fr8 t8 its ∧ e = .returned (.tuple #[.agg #[.int .i64 bl, .int .i64 sz, .int .i64 fr8, .int .i64 t8, .slice p9 (its.map itD).length c9], .int .i64 e9]) ∧ MemOk X w0 [(3, .dat (.slice pw (y.ws.map wrD).length cw) (.l 2 (y.ws.map wrD))), (4, .dat (.slice pl L.length cl) (.l 7 (L.map (ckD y)))), (9, .dat (.slice p9 (its.map itD).length c9) (.l 2 (its.map itD)))] w' := by
 refine ent4 Tryz.func17 rfl Tryz.ntmps17 fun Az Hz => ?_
 have hF := hS.f hn
 have hf0 := hF.fl0
 have hf1 := hF.fl1
 refine zsr fun K0 hK0 => ?_
 refine plz (e_box Hz m0 40 (cs := [_, _, _, _, _, _, _, _, _, _, _]) rfl rfl rfl fun g1 Az w2 Hz m2 _ _ => ?_)
 refine plz (e_box Hz m2 41 rfl rfl rfl fun g3 Az w4 Hz m4 _ _ => ?_)
 refine plz (e_box Hz m4 42 rfl rfl rfl fun g5 Az w6 Hz m6 _ _ => ?_)
 refine plz (e_alloc Hz m6 43 fct38 rfl fun g7 Az w8 Hz m8 _ _ => ?_)
 refine gz hK0 Hz (.assign rfl .nil) fun Az Hz => ?_
 refine wsk fun K1 hK1 => ?_
 refine regS Hz (.fa 7 rfl U33 <| .lb m8 40 U4 rfl rfl rfl .nil) fun Az Hz => ?_
 refine bc Hz 15 ?_ ?_
 ·
  intro hb12 Hz; try simp only [QQ, Qax] at hb12
  have hh : y.hi = true := hb12
  refine wct Hz ?_
  refine zsr fun K2 hK2 => ?_
  refine goCh Hz (.build rfl fct38 fl42esi rfl (by dsimp only [setL, List.set] <;> rfl) .nil) fun Az Hz => ?_
  refine plz (stw Hz m8 43 fct37 fun w15 m15 _ => ?_)
  refine gz hK2 Hz (.assign rfl .nil) fun Az Hz => ?_
  refine rtd (retCT (fn := Tryz.f17) Hz m15 (i := 43) rfl rfl rfl rfl U42 rfl fct37 ?_)
  have mA := m15.dat 91 rfl (Rd.l0 none 0 2)
  exact ⟨_, 0, 0, 0, 0, [], _, _, .inl ⟨hh, rfl⟩, rfl, mA.ren [(3, 3), (4, 4), (9, 91)] (by decide)⟩
 intro hb12 Hz; try simp only [QQ, Qax] at hb12
 have hh : y.hi = false := hb12
 refine wcf Hz ?_
 refine zss (hK1 _ _ ?_)
 refine wsk fun K3 hK3 => ?_
 refine regS Hz (.lb m8 41 U2 rfl rfl rfl <| .lb m8 42 U2 rfl rfl rfl <| .gtr rfl rfl .nil) fun Az Hz => ?_
 refine bc Hz 19 ?_ ?_
 ·
  intro hb20 Hz; try simp only [QQ, Qax] at hb20
  have hg : t9 < fr := by have := hb20; first | omega | (simp at this; omega) | (simp at this; exact this)
  refine wct Hz ?_
  replace Hz := Hz.oz [1, 4, 6, 7, 8, 9, 15, 19]
  refine zsr fun K4 hK4 => ?_
  refine goCh Hz (.build rfl fct38 fl42esi rfl (by dsimp only [setL, List.set] <;> rfl) .nil) fun Az Hz => ?_
  refine plz (stw Hz m8 43 fct37 fun w24 m24 _ => ?_)
  refine gz hK4 Hz (.assign rfl .nil) fun Az Hz => ?_
  refine rtd (retCT (fn := Tryz.f17) Hz m24 (i := 43) rfl rfl rfl rfl U42 rfl fct37 ?_)
  have mA := m24.dat 91 rfl (Rd.l0 none 0 2)
  exact ⟨_, 0, 0, 0, 0, [], _, _, .inr (.inl ⟨hh, hg, rfl⟩), rfl, mA.ren [(3, 3), (4, 4), (9, 91)] (by decide)⟩
 intro hb20 Hz; try simp only [QQ, Qax] at hb20
 have hg : fr ≤ t9 := by have := hb20; first | omega | (simp at this; omega) | (simp at this; exact this)
 refine wcf Hz ?_
 refine zss (hK3 _ _ ?_)
 refine wsk fun K5 hK5 => ?_
 replace Hz := Hz.oz [1, 4, 6, 7, 8, 9, 15, 19]
 refine zsr fun K6 hK6 => ?_
 refine goCh Hz (.loadBR m8 (i := 40) rfl rfl U33 rfl fct1 (by simp) (by dsimp only [List.drop, List.take] <;> rfl) <| .lb m8 41 U2 rfl rfl rfl <| .lb m8 42 U2 rfl rfl rfl .nil) fun Az Hz => ?_
 refine plz (ecl Hz Tryz.func37 rfl (eret_x y _ _ _ _ _ _ _ fr t9 _) ?_)
 rintro e w33 ⟨r9, rfl, hr, hb33⟩
 have m34 := m8.later hb33
 refine ⟨_, rfl, ?_⟩; intro Az Hz
 refine gz hK6 Hz (.assign rfl .nil) fun Az Hz => ?_
 refine regS Hz (.move rfl <| .neq rfl rfl .nil) fun Az Hz => ?_
 refine bc Hz 26 ?_ ?_
 ·
  intro hb39 Hz; try simp only [QQ, Qax] at hb39
  have hr0 : r9 ≠ 0 := by have := hb39; first | omega | (simp at this; omega) | (simp at this; exact this)
  refine wct Hz ?_
  refine zsr fun K7 hK7 => ?_
  refine goCh Hz (.build rfl fct38 fl42esi rfl (by dsimp only [setL, List.set] <;> rfl) <| .move rfl .nil) fun Az Hz => ?_
  refine plz (stw Hz m34 43 fct37 fun w44 m44 _ => ?_)
  refine gz hK7 Hz (.assign rfl .nil) fun Az Hz => ?_
  refine rtd (retCT (fn := Tryz.f17) Hz m44 (i := 43) rfl rfl rfl rfl U42 rfl fct37 ?_)
  have mA := m44.dat 91 rfl (Rd.l0 none 0 2)
  rcases hr with ⟨h1, rfl⟩ | ⟨h1, h2, rfl⟩ | ⟨h1, h2, rfl⟩
  · exact ⟨_, 0, 0, 0, 0, [], _, _, .inr (.inr (.inl ⟨hh, hg, h1, rfl⟩)), rfl, mA.ren [(3, 3), (4, 4), (9, 91)] (by decide)⟩
  · exact ⟨_, 0, 0, 0, 0, [], _, _, .inr (.inr (.inr (.inl ⟨hh, hg, h1, h2, rfl⟩))), rfl, mA.ren [(3, 3), (4, 4), (9, 91)] (by decide)⟩
  exact absurd rfl hr0
 intro hb39 Hz; try simp only [QQ, Qax] at hb39
 have hr0 : r9 = 0 := by have := hb39; first | omega | (simp at this; omega) | (simp at this; exact this)
 have hrr : y.fl ≤ fr ∧ t9 ≤ (y.ws.length : Int) := by rcases hr with ⟨h1, rfl⟩ | ⟨h1, h2, rfl⟩ | ⟨h1, h2, rfl⟩ <;> omega
 refine wcf Hz ?_
 refine zss (hK5 _ _ ?_)
 refine wsk fun K8 hK8 => ?_
 rcases hall with hL0 | ⟨hL1, hall9⟩
 ·
  replace Hz := Hz.oz [1, 4, 6, 7, 8, 9, 15, 19, 26]
  refine wp_region_lit ?_
  refine goCh Hz (.loadBR m34 (i := 40) rfl rfl U33 rfl fct1 (by simp) (by dsimp only [List.drop, List.take] <;> rfl) <| .move rfl <| .lb m34 41 U2 rfl rfl rfl <| .lb m34 42 U2 rfl rfl rfl .nil) fun Az Hz => ?_
  refine plz (ecl Hz Tryz.func38 rfl (epall_no _ y n hS hn _ _ _ _ _ _ _ L _ _ fr t9 _ hL0 (m34.into [(3, 3), (4, 4)] (by decide) rfl)) ?_)
  rintro e w51 ⟨rfl, hm51⟩
  have mx51 := m34.back hm51 [(3, 3), (4, 4)] (by decide); clear hm51 m34
  have m51 := mx51.oz [3, 4, 40, 41, 42, 43]
  refine ⟨_, rfl, ?_⟩; intro Az Hz
  refine gz hK8 Hz (.move rfl <| .extract rfl rfl <| .extract rfl rfl <| .assign rfl <| .assign rfl <| .nil) fun Az Hz => ?_
  refine wsk fun K9 hK9 => ?_
  replace Hz := Hz.oz [4, 6, 7, 8, 9, 15, 19, 26, 11, 12]
  refine regS Hz (.move rfl <| .not rfl .nil) fun Az Hz => ?_
  refine wct Hz ?_
  refine zsr fun K10 hK10 => ?_
  refine goCh Hz (.build rfl fct38 fl42esi rfl (by dsimp only [setL, List.set] <;> rfl) .nil) fun Az Hz => ?_
  refine plz (stw Hz m51 43 fct37 fun w63 m63 _ => ?_)
  refine gz hK10 Hz (.assign rfl .nil) fun Az Hz => ?_
  refine rtd (retCT (fn := Tryz.f17) Hz m63 (i := 43) rfl rfl rfl rfl U42 rfl fct37 ?_)
  have mA := m63.dat 91 rfl (Rd.l0 none 0 2)
  exact ⟨_, 0, 0, 0, 0, [], _, _, .inr (.inr (.inr (.inr (.inl ⟨hh, hg, hrr.1, hrr.2, hL0, rfl⟩)))), rfl, mA.ren [(3, 3), (4, 4), (9, 91)] (by decide)⟩
 replace Hz := Hz.oz [1, 4, 6, 7, 8, 9, 15, 19, 26]
 refine wp_region_lit ?_
 refine goCh Hz (.loadBR m34 (i := 40) rfl rfl U33 rfl fct1 (by simp) (by dsimp only [List.drop, List.take] <;> rfl) <| .move rfl <| .lb m34 41 U2 rfl rfl rfl <| .lb m34 42 U2 rfl rfl rfl .nil) fun Az Hz => ?_
 refine plz (ecl Hz Tryz.func38 rfl (epall_yes _ y n hS hn _ _ _ _ _ _ _ L _ _ fr t9 _ hL hLo (fun k hk => ⟨_, hall9.2 k hk, by omega, by omega⟩) (m34.into [(3, 3), (4, 4)] (by decide) rfl)) ?_)
 rintro e w70 ⟨Lp, p70, c70, hPL, rfl, hm70⟩
 have mx70 := m34.back hm70 [(3, 3), (4, 4), (44, 9)] (by decide); clear hm70 m34
 have m70 := mx70.oz [3, 4, 44, 40, 41, 42, 43]
 refine ⟨_, rfl, ?_⟩; intro Az Hz
 obtain ⟨tn, htn⟩ : ∃ tn : Nat, t9 = (tn : Int) := ⟨t9.toNat, by omega⟩
 refine gz hK8 Hz (.move rfl <| .extract rfl rfl <| .extract rfl rfl <| .assign rfl <| .assign rfl <| .nil) fun Az Hz => ?_
 refine wsk fun K11 hK11 => ?_
 replace Hz := Hz.oz [4, 6, 7, 8, 9, 15, 19, 26, 11, 12]
 refine regS Hz (.move rfl <| .not rfl .nil) fun Az Hz => ?_
 refine wcf Hz ?_
 refine zss (hK11 _ _ ?_)
 refine regS Hz (.makeFunc rfl <| .assign rfl .nil) fun Az Hz => ?_
 refine zsr fun K12 hK12 => ?_
 refine goCh Hz (.loadBR m70 (i := 40) rfl rfl U33 rfl fct1 (by simp) (by dsimp only [List.drop, List.take] <;> rfl) <| .move rfl <| .lb m70 41 U2 rfl rfl rfl <| .lb m70 42 U2 rfl rfl rfl <| .move rfl .nil) fun Az Hz => ?_
 refine plz (ecl Hz Tryz.func39 rfl (ecoll_s _ y n hS hn _ _ _ _ _ _ _ L Lp _ _ _ fr t9 tn _ _ hLo hall9.1 _ _ hPL rfl htn (by omega) (m70.into [(4, 44), (10, 41), (11, 42)] (by decide) rfl)) ?_)
 rintro e w92 ⟨p92, c92, rfl, hm92⟩
 have mx92 := m70.back hm92 [(44, 4), (45, 9), (41, 10), (42, 11)] (by decide); clear hm92 m70
 have m92 := mx92.oz [44, 45, 41, 42, 3, 4, 40, 43]
 refine ⟨_, rfl, ?_⟩; intro Az Hz
 refine goCh Hz (.extract rfl rfl <| .extract rfl rfl .nil) fun Az Hz => ?_
 refine plz (stw Hz m92 43 fct37 fun w96 m96 _ => ?_)
 refine gz hK12 Hz (.assign rfl .nil) fun Az Hz => ?_
 refine rtd (retCT (fn := Tryz.f17) Hz m96 (i := 43) rfl rfl rfl rfl U42 rfl fct37 ?_)
 exact ⟨_, _, _, _, _, _, _, _, .inr (.inr (.inr (.inr (.inr ⟨hh, hg, hrr.1, hrr.2, hL1, rfl, rfl, rfl, rfl, rfl, by rw [htn]; rfl⟩)))), rfl, m96.ren [(3, 3), (4, 4), (9, 45)] (by decide)⟩
end Go.Proofs.YtamjnimaeecmoaaGreat.K
