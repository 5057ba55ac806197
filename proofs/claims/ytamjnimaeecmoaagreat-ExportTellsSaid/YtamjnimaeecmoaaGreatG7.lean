/- General laws of walks. -/
import Derived.Test.YtamjnimaeecmoaaGreatG6
import Derived.Test.YtamjnimaeecmoaaGreatG5
import Derived.Test.YtamjnimaeecmoaaGreatG1
import Derived.Laws.Bits64
import Derived.RegionTactic
import Derived.ChangeAlike
import Derived.Lib.SlBytesConst
import Derived.Deep.Matrix
import Derived.Test.YtamjnimaeecmoaaGreatG3
namespace Go.Proofs.YtamjnimaeecmoaaGreat.K
open Go.ChangeShapes Go.WideShapes Go.ChangeAt Go.RowKit
set_option linter.unusedVariables false
set_option linter.unusedSimpArgs false
section
theorem fl42efu : flatS Tryz.prog 42 [.int .i64 0, .int .i64 0, .int .i64 0, .int .i64 0, .slice none 0 0] = true := by kernel_rfl
theorem fl42esi : flatS Tryz.prog 42 [.int .i64 0, .int .i64 0, .int .i64 0, .int .i64 0, .slice none 0 0] = true := by kernel_rfl
def FullG (y : VolV) (L : List (Nat × Nat)) (t : Int) (T : (Int × Int × Int × Int × Int × List (Int × List Int))) : Prop := (y.hi = true ∧ T = (28, 0, 0, 0, 0, [])) ∨ (y.hi = false ∧ t < y.fl ∧ T = (30, 0, 0, 0, 0, [])) ∨ (y.hi = false ∧ y.fl ≤ t ∧ (y.ws.length : Int) < t ∧ T = (31, 0, 0, 0, 0, [])) ∨ (y.hi = false ∧ y.fl ≤ t ∧ t ≤ (y.ws.length : Int) ∧ ¬ AllOk y L t t ∧ T = (32, 0, 0, 0, 0, [])) ∨ (y.hi = false ∧ y.fl ≤ t ∧ t ≤ (y.ws.length : Int) ∧ AllOk y L t t ∧ T = (0, y.bl, y.sz, -1, t, wholeI (stL y.bl y.sz y.ws t.toNat) y.bl.toNat))
def SinceG (y : VolV) (L : List (Nat × Nat)) (f t : Int) (T : (Int × Int × Int × Int × Int × List (Int × List Int))) : Prop := (y.hi = true ∧ T = (28, 0, 0, 0, 0, [])) ∨ (y.hi = false ∧ t < f ∧ T = (23, 0, 0, 0, 0, [])) ∨ (y.hi = false ∧ f ≤ t ∧ f < y.fl ∧ T = (30, 0, 0, 0, 0, [])) ∨ (y.hi = false ∧ f ≤ t ∧ y.fl ≤ f ∧ (y.ws.length : Int) < t ∧ T = (31, 0, 0, 0, 0, [])) ∨ (y.hi = false ∧ f ≤ t ∧ y.fl ≤ f ∧ t ≤ (y.ws.length : Int) ∧ ¬ AllOk y L f t ∧ T = (32, 0, 0, 0, 0, [])) ∨ (y.hi = false ∧ f ≤ t ∧ y.fl ≤ f ∧ t ≤ (y.ws.length : Int) ∧ AllOk y L f t ∧ T = (0, y.bl, y.sz, f, t, selI (stL y.bl y.sz y.ws t.toNat) (chgB y f t) y.bl.toNat))
theorem fullG_one {y : VolV} {L : List (Nat × Nat)} {t : Int} {T U : (Int × Int × Int × Int × Int × List (Int × List Int))} (h : FullG y L t T) (g : FullG y L t U) : T = U := by
 rcases h with ⟨a, b⟩ | ⟨a, b, c⟩ | ⟨a, b, c, d⟩ | ⟨a, b, c, d, e⟩ | ⟨a, b, c, d, e⟩ <;>
 rcases g with ⟨a2, b2⟩ | ⟨a2, b2, c2⟩ | ⟨a2, b2, c2, d2⟩ | ⟨a2, b2, c2, d2, e2⟩ | ⟨a2, b2, c2, d2, e2⟩ <;>
 first | (exact b.trans b2.symm) | (exact c.trans c2.symm) | (exact d.trans d2.symm) | (exact e.trans e2.symm) | (exact (Bool.noConfusion (a.symm.trans a2) : _)) | (exfalso; omega) | (exact absurd d d2) | (exact absurd d2 d)
theorem sinceG_one {y : VolV} {L : List (Nat × Nat)} {f t : Int} {T U : (Int × Int × Int × Int × Int × List (Int × List Int))} (h : SinceG y L f t T) (g : SinceG y L f t U) : T = U := by
 rcases h with ⟨a, b⟩ | ⟨a, b, c⟩ | ⟨a, b, c, d⟩ | ⟨a, b, c, d, e⟩ | ⟨a, b, c, d, e, f⟩ | ⟨a, b, c, d, e, f⟩ <;>
 rcases g with ⟨a2, b2⟩ | ⟨a2, b2, c2⟩ | ⟨a2, b2, c2, d2⟩ | ⟨a2, b2, c2, d2, e2⟩ | ⟨a2, b2, c2, d2, e2, f2⟩ | ⟨a2, b2, c2, d2, e2, f2⟩ <;>
 first | (exact b.trans b2.symm) | (exact c.trans c2.symm) | (exact d.trans d2.symm) | (exact e.trans e2.symm) | (exact f.trans f2.symm) | (exact (Bool.noConfusion (a.symm.trans a2) : _)) | (exfalso; omega) | (exact absurd e e2) | (exact absurd e2 e)
theorem vlen_y (y : VolV) (pp pn pw : Option Addr) (cp nn9 cn9 cw : Nat) (w0 : World) :
   Calls Tryz.prog 69 #[.agg #[.int .i64 y.vo, .int .i64 y.bl, .int .i64 y.sz, .int .i64 y.pe, .slice pp y.place.length cp, .int .i64 y.to, .int .i64 y.ne, .bool y.hi, .int .i64 y.fl, .slice pn nn9 cn9, .slice pw (y.ws.map wrD).length cw]] w0 fun e w' => e = .returned (.int .i64 (y.ws.length : Int)) ∧ Below w0.heap.size w0 w' := by
 have h := vlen_any y.vo y.bl y.sz y.pe y.to y.ne y.fl y.hi pp pn pw y.place.length cp nn9 cn9 (y.ws.map wrD).length cw w0
 rw [List.length_map] at h
 rw [List.length_map]
 exact h
set_option maxRecDepth 100000
set_option maxHeartbeats 4000000
theorem eret_x (y : VolV) (pp pn pw : Option Addr) (cp nn9 cn9 cw : Nat) (a9 b9 : Int) (w0 : World) :
   Calls Tryz.prog 37 #[.agg #[.int .i64 y.vo, .int .i64 y.bl, .int .i64 y.sz, .int .i64 y.pe, .slice pp y.place.length cp, .int .i64 y.to, .int .i64 y.ne, .bool y.hi, .int .i64 y.fl, .slice pn nn9 cn9, .slice pw (y.ws.map wrD).length cw], .int .i64 a9, .int .i64 b9] w0 fun e w' => ∃ r : Int, e = .returned (.int .i64 r) ∧ ((a9 < y.fl ∧ r = 30) ∨ (y.fl ≤ a9 ∧ (y.ws.length : Int) < b9 ∧ r = 31) ∨ (y.fl ≤ a9 ∧ b9 ≤ (y.ws.length : Int) ∧ r = 0)) ∧ Below w0.heap.size w0 w' := by
 refine ent3 Tryz.func37 rfl Tryz.ntmps37 fun Az Hz => ?_
 have m0 := MemOk.start (fun _ => False) w0
 refine zsr fun K0 hK0 => ?_
 refine plz (e_box Hz m0 40 (cs := [_, _, _, _, _, _, _, _, _, _, _]) rfl rfl rfl fun g1 Az w2 Hz m2 _ _ => ?_)
 refine gz hK0 Hz (.assign rfl .nil) fun Az Hz => ?_
 refine wsk fun K1 hK1 => ?_
 refine regS Hz (.move rfl <| .fa 8 rfl U33 <| .lb m2 40 U2 rfl rfl rfl <| .lss rfl rfl .nil) fun Az Hz => ?_
 refine bc Hz 10 ?_ ?_
 ·
  intro hb8 Hz; try simp only [QQ, Qax] at hb8
  have hr1 : a9 < y.fl := by have := hb8; first | omega | (simp at this; omega) | (simp at this; exact this)
  refine wct Hz ?_
  refine regS Hz (.assign rfl .nil) fun Az Hz => ?_
  refine rt1 Hz ?_
  exact ⟨_, rfl, .inl ⟨hr1, rfl⟩, m2.below⟩
 intro hb8 Hz; try simp only [QQ, Qax] at hb8
 have hr1 : y.fl ≤ a9 := by have := hb8; first | omega | (simp at this; omega) | (simp at this; exact this)
 refine wcf Hz ?_
 refine zss (hK1 _ _ ?_)
 refine wsk fun K2 hK2 => ?_
 refine zsr fun K3 hK3 => ?_
 refine goCh Hz (.move rfl <| .loadBR m2 (i := 40) rfl rfl U33 rfl fct1 (by simp) (by dsimp only [List.drop, List.take] <;> rfl) .nil) fun Az Hz => ?_
 refine plz (ecb Hz Tryz.func69 rfl m2 (vlen_y y _ _ _ _ _ _ _ _) fun Az w14 Hz m15 => ?_)
 refine gz hK3 Hz (.gtr rfl rfl .nil) fun Az Hz => ?_
 refine bc Hz 14 ?_ ?_
 ·
  intro hb18 Hz; try simp only [QQ, Qax] at hb18
  have hr2 : (y.ws.length : Int) < b9 := by have := hb18; first | omega | (simp at this; omega) | (simp at this; exact this)
  refine wct Hz ?_
  replace Hz := Hz.oz [6, 10, 14]
  refine regS Hz (.assign rfl .nil) fun Az Hz => ?_
  refine rt1 Hz ?_
  exact ⟨_, rfl, .inr (.inl ⟨hr1, hr2, rfl⟩), m15.below⟩
 intro hb18 Hz; try simp only [QQ, Qax] at hb18
 have hr2 : b9 ≤ (y.ws.length : Int) := by have := hb18; first | omega | (simp at this; omega) | (simp at this; exact this)
 refine wcf Hz ?_
 refine zss (hK2 _ _ ?_)
 replace Hz := Hz.oz [6, 10, 14]
 refine regS Hz (.assign rfl .nil) fun Az Hz => ?_
 refine rt1 Hz ?_
 exact ⟨_, rfl, .inr (.inr ⟨hr1, hr2, rfl⟩), m15.below⟩
theorem efull_x (X : Cx) (y : VolV) (n : Nat) (hS : VolS n y) (hn : n ≤ 1000) (pp pn pw : Option Addr) (cp nn9 cn9 cw : Nat) (L : List (Nat × Nat)) (pl : Option Addr) (cl : Nat) (t9 : Int) (w0 : World) (hL : L.length ≤ 1000000) (hLo : ∀ x ∈ L, x.1 < y.place.length ∧ x.2 ≤ y.ws.length) (m0 : MemOk X w0 [(3, .dat (.slice pw (y.ws.map wrD).length cw) (.l 2 (y.ws.map wrD))), (4, .dat (.slice pl L.length cl) (.l 7 (L.map (ckD y))))] w0) :
   Calls Tryz.prog 14 #[.agg #[.int .i64 y.vo, .int .i64 y.bl, .int .i64 y.sz, .int .i64 y.pe, .slice pp y.place.length cp, .int .i64 y.to, .int .i64 y.ne, .bool y.hi, .int .i64 y.fl, .slice pn nn9 cn9, .slice pw (y.ws.map wrD).length cw], .slice pl L.length cl, .int .i64 t9] w0 fun e w' => ∃ (T : (Int × Int × Int × Int × Int × List (Int × List Int))) (p9 : Option Addr) (c9 : Nat), FullG y L t9 T ∧ e = .returned (.tuple #[.agg #[.int .i64 T.2.1, .int .i64 T.2.2.1, .int .i64 T.2.2.2.1, .int .i64 T.2.2.2.2.1, .slice p9 (T.2.2.2.2.2.map itD).length c9], .int .i64 T.1]) ∧ MemOk X w0 [(3, .dat (.slice pw (y.ws.map wrD).length cw) (.l 2 (y.ws.map wrD))), (4, .dat (.slice pl L.length cl) (.l 7 (L.map (ckD y)))), (9, .dat (.slice p9 (T.2.2.2.2.2.map itD).length c9) (.l 2 (T.2.2.2.2.2.map itD)))] w' := by
 refine ent3 Tryz.func14 rfl Tryz.ntmps14 fun Az Hz => ?_
 have hF := hS.f hn
 have hf0 := hF.fl0
 have hf1 := hF.fl1
 refine zsr fun K0 hK0 => ?_
 refine plz (e_box Hz m0 40 (cs := [_, _, _, _, _, _, _, _, _, _, _]) rfl rfl rfl fun g1 Az w2 Hz m2 _ _ => ?_)
 refine plz (e_alloc Hz m2 41 fct33 rfl fun g3 Az w4 Hz m4 _ _ => ?_)
 refine gz hK0 Hz (.assign rfl .nil) fun Az Hz => ?_
 refine wsk fun K1 hK1 => ?_
 refine regS Hz (.fa 7 rfl U33 <| .lb m4 40 U4 rfl rfl rfl .nil) fun Az Hz => ?_
 refine bc Hz 12 ?_ ?_
 ·
  intro hb8 Hz; try simp only [QQ, Qax] at hb8
  have hh : y.hi = true := hb8
  refine wct Hz ?_
  refine zsr fun K2 hK2 => ?_
  refine goCh Hz (.build rfl fct33 fl42efu rfl (by dsimp only [setL, List.set] <;> rfl) .nil) fun Az Hz => ?_
  refine plz (stw Hz m4 41 fct32 fun w11 m11 _ => ?_)
  refine gz hK2 Hz (.assign rfl .nil) fun Az Hz => ?_
  refine rtd (retCT (fn := Tryz.f14) Hz m11 (i := 41) rfl rfl rfl rfl U42 rfl fct32 ?_)
  have mA := m11.dat 91 rfl (Rd.l0 none 0 2)
  exact ⟨(28, 0, 0, 0, 0, []), _, _, .inl ⟨hh, rfl⟩, rfl, mA.ren [(3, 3), (4, 4), (9, 91)] (by decide)⟩
 intro hb8 Hz; try simp only [QQ, Qax] at hb8
 have hh : y.hi = false := hb8
 refine wcf Hz ?_
 refine zss (hK1 _ _ ?_)
 refine wsk fun K3 hK3 => ?_
 refine zsr fun K4 hK4 => ?_
 refine goCh Hz (.loadBR m4 (i := 40) rfl rfl U33 rfl fct1 (by simp) (by dsimp only [List.drop, List.take] <;> rfl) <| .move rfl <| .move rfl .nil) fun Az Hz => ?_
 refine plz (ecl Hz Tryz.func37 rfl (eret_x y _ _ _ _ _ _ _ t9 t9 _) ?_)
 rintro e w19 ⟨r9, rfl, hr, hb19⟩
 have m20 := m4.later hb19
 refine ⟨_, rfl, ?_⟩; intro Az Hz
 refine gz hK4 Hz (.assign rfl .nil) fun Az Hz => ?_
 replace Hz := Hz.oz [1, 2, 3, 6, 7, 12, 8]
 refine regS Hz (.move rfl <| .neq rfl rfl .nil) fun Az Hz => ?_
 refine bc Hz 19 ?_ ?_
 ·
  intro hb26 Hz; try simp only [QQ, Qax] at hb26
  have hr0 : r9 ≠ 0 := by have := hb26; first | omega | (simp at this; omega) | (simp at this; exact this)
  refine wct Hz ?_
  refine zsr fun K5 hK5 => ?_
  refine goCh Hz (.build rfl fct33 fl42efu rfl (by dsimp only [setL, List.set] <;> rfl) <| .move rfl .nil) fun Az Hz => ?_
  refine plz (stw Hz m20 41 fct32 fun w31 m31 _ => ?_)
  refine gz hK5 Hz (.assign rfl .nil) fun Az Hz => ?_
  refine rtd (retCT (fn := Tryz.f14) Hz m31 (i := 41) rfl rfl rfl rfl U42 rfl fct32 ?_)
  have mA := m31.dat 91 rfl (Rd.l0 none 0 2)
  rcases hr with ⟨h1, rfl⟩ | ⟨h1, h2, rfl⟩ | ⟨h1, h2, rfl⟩
  · exact ⟨(30, 0, 0, 0, 0, []), _, _, .inr (.inl ⟨hh, h1, rfl⟩), rfl, mA.ren [(3, 3), (4, 4), (9, 91)] (by decide)⟩
  · exact ⟨(31, 0, 0, 0, 0, []), _, _, .inr (.inr (.inl ⟨hh, h1, h2, rfl⟩)), rfl, mA.ren [(3, 3), (4, 4), (9, 91)] (by decide)⟩
  exact absurd rfl hr0
 intro hb26 Hz; try simp only [QQ, Qax] at hb26
 have hr0 : r9 = 0 := by have := hb26; first | omega | (simp at this; omega) | (simp at this; exact this)
 have hrr : y.fl ≤ t9 ∧ t9 ≤ (y.ws.length : Int) := by rcases hr with ⟨h1, rfl⟩ | ⟨h1, h2, rfl⟩ | ⟨h1, h2, rfl⟩ <;> omega
 refine wcf Hz ?_
 refine zss (hK3 _ _ ?_)
 refine wsk fun K6 hK6 => ?_
 by_cases hL0 : ¬ AllOk y L t9 t9
 ·
  refine wp_region_lit ?_
  refine goCh Hz (.loadBR m20 (i := 40) rfl rfl U33 rfl fct1 (by simp) (by dsimp only [List.drop, List.take] <;> rfl) <| .move rfl <| .move rfl <| .move rfl .nil) fun Az Hz => ?_
  refine plz (ecl Hz Tryz.func38 rfl (epall_no _ y n hS hn _ _ _ _ _ _ _ L _ _ t9 t9 _ hL hLo hL0 (m20.into [(3, 3), (4, 4)] (by decide) rfl)) ?_)
  rintro e w37 ⟨rfl, hm37⟩
  have mx37 := m20.back hm37 [(3, 3), (4, 4)] (by decide); clear hm37 m20
  have m37 := mx37.oz [3, 4, 40, 41]
  refine ⟨_, rfl, ?_⟩; intro Az Hz
  refine gz hK6 Hz (.move rfl <| .extract rfl rfl <| .extract rfl rfl <| .assign rfl <| .assign rfl <| .nil) fun Az Hz => ?_
  refine wsk fun K7 hK7 => ?_
  replace Hz := Hz.oz [2, 3, 6, 7, 12, 19, 9, 10]
  refine regS Hz (.move rfl <| .not rfl .nil) fun Az Hz => ?_
  refine wct Hz ?_
  refine zsr fun K8 hK8 => ?_
  refine goCh Hz (.build rfl fct33 fl42efu rfl (by dsimp only [setL, List.set] <;> rfl) .nil) fun Az Hz => ?_
  refine plz (stw Hz m37 41 fct32 fun w49 m49 _ => ?_)
  refine gz hK8 Hz (.assign rfl .nil) fun Az Hz => ?_
  refine rtd (retCT (fn := Tryz.f14) Hz m49 (i := 41) rfl rfl rfl rfl U42 rfl fct32 ?_)
  have mA := m49.dat 91 rfl (Rd.l0 none 0 2)
  exact ⟨(32, 0, 0, 0, 0, []), _, _, .inr (.inr (.inr (.inl ⟨hh, hrr.1, hrr.2, hL0, rfl⟩))), rfl, mA.ren [(3, 3), (4, 4), (9, 91)] (by decide)⟩
 have hall9 := Classical.not_not.1 hL0
 refine wp_region_lit ?_
 refine goCh Hz (.loadBR m20 (i := 40) rfl rfl U33 rfl fct1 (by simp) (by dsimp only [List.drop, List.take] <;> rfl) <| .move rfl <| .move rfl <| .move rfl .nil) fun Az Hz => ?_
 refine plz (ecl Hz Tryz.func38 rfl (epall_yes _ y n hS hn _ _ _ _ _ _ _ L _ _ t9 t9 _ hL hLo hall9 (m20.into [(3, 3), (4, 4)] (by decide) rfl)) ?_)
 rintro e w55 ⟨Lp, p55, c55, hPL, rfl, hm55⟩
 have mx55 := m20.back hm55 [(3, 3), (4, 4), (42, 9)] (by decide); clear hm55 m20
 have m55 := mx55.oz [3, 4, 42, 40, 41]
 refine ⟨_, rfl, ?_⟩; intro Az Hz
 obtain ⟨tn, htn⟩ : ∃ tn : Nat, t9 = (tn : Int) := ⟨t9.toNat, by omega⟩
 refine gz hK6 Hz (.move rfl <| .extract rfl rfl <| .extract rfl rfl <| .assign rfl <| .assign rfl <| .nil) fun Az Hz => ?_
 refine wsk fun K9 hK9 => ?_
 replace Hz := Hz.oz [2, 3, 6, 7, 12, 19, 9, 10]
 refine regS Hz (.move rfl <| .not rfl .nil) fun Az Hz => ?_
 refine wcf Hz ?_
 refine zss (hK9 _ _ ?_)
 refine zsr fun K10 hK10 => ?_
 refine goCh Hz (.loadBR m55 (i := 40) rfl rfl U33 rfl fct1 (by simp) (by dsimp only [List.drop, List.take] <;> rfl) <| .move rfl <| .move rfl .nil) fun Az Hz => ?_
 refine plz (ecl Hz Tryz.func39 rfl (ecoll_f _ y n hS hn _ _ _ _ _ _ _ L Lp _ _ _ (-1) t9 tn _ _ hLo hPL rfl htn (by omega) (m55.into [(4, 42)] (by decide) rfl)) ?_)
 rintro e w71 ⟨p71, c71, rfl, hm71⟩
 have mx71 := m55.back hm71 [(42, 4), (43, 9)] (by decide); clear hm71 m55
 have m71 := mx71.oz [42, 43, 3, 4, 40, 41]
 refine ⟨_, rfl, ?_⟩; intro Az Hz
 refine goCh Hz (.extract rfl rfl <| .extract rfl rfl .nil) fun Az Hz => ?_
 refine plz (stw Hz m71 41 fct32 fun w75 m75 _ => ?_)
 refine gz hK10 Hz (.assign rfl .nil) fun Az Hz => ?_
 refine rtd (retCT (fn := Tryz.f14) Hz m75 (i := 41) rfl rfl rfl rfl U42 rfl fct32 ?_)
 exact ⟨(0, y.bl, y.sz, -1, t9, selI (stL y.bl y.sz y.ws tn) (fun _ => true) y.bl.toNat), _, _, .inr (.inr (.inr (.inr ⟨hh, hrr.1, hrr.2, hall9, by rw [htn, selI_all]; rfl⟩))), rfl, m75.ren [(3, 3), (4, 4), (9, 43)] (by decide)⟩
theorem esince_x (X : Cx) (y : VolV) (n : Nat) (hS : VolS n y) (hn : n ≤ 1000) (pp pn pw : Option Addr) (cp nn9 cn9 cw : Nat) (L : List (Nat × Nat)) (pl : Option Addr) (cl : Nat) (fr t9 : Int) (w0 : World) (hL : L.length ≤ 1000000) (hLo : ∀ x ∈ L, x.1 < y.place.length ∧ x.2 ≤ y.ws.length) (m0 : MemOk X w0 [(3, .dat (.slice pw (y.ws.map wrD).length cw) (.l 2 (y.ws.map wrD))), (4, .dat (.slice pl L.length cl) (.l 7 (L.map (ckD y))))] w0) :
   Calls Tryz.prog 17 #[.agg #[.int .i64 y.vo, .int .i64 y.bl, .int .i64 y.sz, .int .i64 y.pe, .slice pp y.place.length cp, .int .i64 y.to, .int .i64 y.ne, .bool y.hi, .int .i64 y.fl, .slice pn nn9 cn9, .slice pw (y.ws.map wrD).length cw], .slice pl L.length cl, .int .i64 fr, .int .i64 t9] w0 fun e w' => ∃ (T : (Int × Int × Int × Int × Int × List (Int × List Int))) (p9 : Option Addr) (c9 : Nat), SinceG y L fr t9 T ∧ e = .returned (.tuple #[.agg #[.int .i64 T.2.1, .int .i64 T.2.2.1, .int .i64 T.2.2.2.1, .int .i64 T.2.2.2.2.1, .slice p9 (T.2.2.2.2.2.map itD).length c9], .int .i64 T.1]) ∧ MemOk X w0 [(3, .dat (.slice pw (y.ws.map wrD).length cw) (.l 2 (y.ws.map wrD))), (4, .dat (.slice pl L.length cl) (.l 7 (L.map (ckD y)))), (9, .dat (.slice p9 (T.2.2.2.2.2.map itD).length c9) (.l 2 (T.2.2.2.2.2.map itD)))] w' := by
 refine ent4 Tryz.func17 rfl Tryz.ntmps17 fun Az Hz => ?_
 have hF := hS.f hn
 have hf0 := hF.fl0
 have hf1 := hF.fl1
 refine zsr fun K0 hK0 => ?_
 refine plz (e_box Hz m0 40 (cs := [_, _, _, _, _, _, _, _, _, _, _]) rfl rfl rfl fun g1 Az w2 Hz m2 _ _ => ?_)
 refine plz (e_box Hz m2 41 rfl rfl rfl fun g3 Az w4 Hz m4 _ _ => ?_)
 refine plz (e_box Hz m4 42 rfl rfl rfl fun g5 Az w6 Hz m6 _ _ => ?_)
 refine plz (e_alloc Hz m6 43 fct33 rfl fun g7 Az w8 Hz m8 _ _ => ?_)
 refine gz hK0 Hz (.assign rfl .nil) fun Az Hz => ?_
 refine wsk fun K1 hK1 => ?_
 refine regS Hz (.fa 7 rfl U33 <| .lb m8 40 U4 rfl rfl rfl .nil) fun Az Hz => ?_
 refine bc Hz 15 ?_ ?_
 ·
  intro hb12 Hz; try simp only [QQ, Qax] at hb12
  have hh : y.hi = true := hb12
  refine wct Hz ?_
  refine zsr fun K2 hK2 => ?_
  refine goCh Hz (.build rfl fct33 fl42esi rfl (by dsimp only [setL, List.set] <;> rfl) .nil) fun Az Hz => ?_
  refine plz (stw Hz m8 43 fct32 fun w15 m15 _ => ?_)
  refine gz hK2 Hz (.assign rfl .nil) fun Az Hz => ?_
  refine rtd (retCT (fn := Tryz.f17) Hz m15 (i := 43) rfl rfl rfl rfl U42 rfl fct32 ?_)
  have mA := m15.dat 91 rfl (Rd.l0 none 0 2)
  exact ⟨(28, 0, 0, 0, 0, []), _, _, .inl ⟨hh, rfl⟩, rfl, mA.ren [(3, 3), (4, 4), (9, 91)] (by decide)⟩
 intro hb12 Hz; try simp only [QQ, Qax] at hb12
 have hh : y.hi = false := hb12
 refine wcf Hz ?_
 refine zss (hK1 _ _ ?_)
 refine wsk fun K3 hK3 => ?_
 refine regS Hz (.lb m8 41 U2 rfl rfl rfl <| .lb m8 42 U2 rfl rfl rfl <| .gtr rfl rfl .nil) fun Az Hz => ?_
 refine bc Hz 19 ?_ ?_
 ·
  intro hb20 Hz; try simp only [QQ, Qax] at hb20
  have hg : t9 < fr := by have := hb20; first | omega | (simp at this; omega) | (simp at this; exact this)
  refine wct Hz ?_
  replace Hz := Hz.oz [1, 4, 6, 7, 8, 9, 15, 19]
  refine zsr fun K4 hK4 => ?_
  refine goCh Hz (.build rfl fct33 fl42esi rfl (by dsimp only [setL, List.set] <;> rfl) .nil) fun Az Hz => ?_
  refine plz (stw Hz m8 43 fct32 fun w24 m24 _ => ?_)
  refine gz hK4 Hz (.assign rfl .nil) fun Az Hz => ?_
  refine rtd (retCT (fn := Tryz.f17) Hz m24 (i := 43) rfl rfl rfl rfl U42 rfl fct32 ?_)
  have mA := m24.dat 91 rfl (Rd.l0 none 0 2)
  exact ⟨(23, 0, 0, 0, 0, []), _, _, .inr (.inl ⟨hh, hg, rfl⟩), rfl, mA.ren [(3, 3), (4, 4), (9, 91)] (by decide)⟩
 intro hb20 Hz; try simp only [QQ, Qax] at hb20
 have hg : fr ≤ t9 := by have := hb20; first | omega | (simp at this; omega) | (simp at this; exact this)
 refine wcf Hz ?_
 refine zss (hK3 _ _ ?_)
 refine wsk fun K5 hK5 => ?_
 replace Hz := Hz.oz [1, 4, 6, 7, 8, 9, 15, 19]
 refine zsr fun K6 hK6 => ?_
 refine goCh Hz (.loadBR m8 (i := 40) rfl rfl U33 rfl fct1 (by simp) (by dsimp only [List.drop, List.take] <;> rfl) <| .lb m8 41 U2 rfl rfl rfl <| .lb m8 42 U2 rfl rfl rfl .nil) fun Az Hz => ?_
 refine plz (ecl Hz Tryz.func37 rfl (eret_x y _ _ _ _ _ _ _ fr t9 _) ?_)
 rintro e w33 ⟨r9, rfl, hr, hb33⟩
 have m34 := m8.later hb33
 refine ⟨_, rfl, ?_⟩; intro Az Hz
 refine gz hK6 Hz (.assign rfl .nil) fun Az Hz => ?_
 refine regS Hz (.move rfl <| .neq rfl rfl .nil) fun Az Hz => ?_
 refine bc Hz 26 ?_ ?_
 ·
  intro hb39 Hz; try simp only [QQ, Qax] at hb39
  have hr0 : r9 ≠ 0 := by have := hb39; first | omega | (simp at this; omega) | (simp at this; exact this)
  refine wct Hz ?_
  refine zsr fun K7 hK7 => ?_
  refine goCh Hz (.build rfl fct33 fl42esi rfl (by dsimp only [setL, List.set] <;> rfl) <| .move rfl .nil) fun Az Hz => ?_
  refine plz (stw Hz m34 43 fct32 fun w44 m44 _ => ?_)
  refine gz hK7 Hz (.assign rfl .nil) fun Az Hz => ?_
  refine rtd (retCT (fn := Tryz.f17) Hz m44 (i := 43) rfl rfl rfl rfl U42 rfl fct32 ?_)
  have mA := m44.dat 91 rfl (Rd.l0 none 0 2)
  rcases hr with ⟨h1, rfl⟩ | ⟨h1, h2, rfl⟩ | ⟨h1, h2, rfl⟩
  · exact ⟨(30, 0, 0, 0, 0, []), _, _, .inr (.inr (.inl ⟨hh, hg, h1, rfl⟩)), rfl, mA.ren [(3, 3), (4, 4), (9, 91)] (by decide)⟩
  · exact ⟨(31, 0, 0, 0, 0, []), _, _, .inr (.inr (.inr (.inl ⟨hh, hg, h1, h2, rfl⟩))), rfl, mA.ren [(3, 3), (4, 4), (9, 91)] (by decide)⟩
  exact absurd rfl hr0
 intro hb39 Hz; try simp only [QQ, Qax] at hb39
 have hr0 : r9 = 0 := by have := hb39; first | omega | (simp at this; omega) | (simp at this; exact this)
 have hrr : y.fl ≤ fr ∧ t9 ≤ (y.ws.length : Int) := by rcases hr with ⟨h1, rfl⟩ | ⟨h1, h2, rfl⟩ | ⟨h1, h2, rfl⟩ <;> omega
 refine wcf Hz ?_
 refine zss (hK5 _ _ ?_)
 refine wsk fun K8 hK8 => ?_
 by_cases hL0 : ¬ AllOk y L fr t9
 ·
  replace Hz := Hz.oz [1, 4, 6, 7, 8, 9, 15, 19, 26]
  refine wp_region_lit ?_
  refine goCh Hz (.loadBR m34 (i := 40) rfl rfl U33 rfl fct1 (by simp) (by dsimp only [List.drop, List.take] <;> rfl) <| .move rfl <| .lb m34 41 U2 rfl rfl rfl <| .lb m34 42 U2 rfl rfl rfl .nil) fun Az Hz => ?_
  refine plz (ecl Hz Tryz.func38 rfl (epall_no _ y n hS hn _ _ _ _ _ _ _ L _ _ fr t9 _ hL hLo hL0 (m34.into [(3, 3), (4, 4)] (by decide) rfl)) ?_)
  rintro e w51 ⟨rfl, hm51⟩
  have mx51 := m34.back hm51 [(3, 3), (4, 4)] (by decide); clear hm51 m34
  have m51 := mx51.oz [3, 4, 40, 41, 42, 43]
  refine ⟨_, rfl, ?_⟩; intro Az Hz
  refine gz hK8 Hz (.move rfl <| .extract rfl rfl <| .extract rfl rfl <| .assign rfl <| .assign rfl <| .nil) fun Az Hz => ?_
  refine wsk fun K9 hK9 => ?_
  replace Hz := Hz.oz [4, 6, 7, 8, 9, 15, 19, 26, 11, 12]
  refine regS Hz (.move rfl <| .not rfl .nil) fun Az Hz => ?_
  refine wct Hz ?_
  refine zsr fun K10 hK10 => ?_
  refine goCh Hz (.build rfl fct33 fl42esi rfl (by dsimp only [setL, List.set] <;> rfl) .nil) fun Az Hz => ?_
  refine plz (stw Hz m51 43 fct32 fun w63 m63 _ => ?_)
  refine gz hK10 Hz (.assign rfl .nil) fun Az Hz => ?_
  refine rtd (retCT (fn := Tryz.f17) Hz m63 (i := 43) rfl rfl rfl rfl U42 rfl fct32 ?_)
  have mA := m63.dat 91 rfl (Rd.l0 none 0 2)
  exact ⟨(32, 0, 0, 0, 0, []), _, _, .inr (.inr (.inr (.inr (.inl ⟨hh, hg, hrr.1, hrr.2, hL0, rfl⟩)))), rfl, mA.ren [(3, 3), (4, 4), (9, 91)] (by decide)⟩
 have hall9 := Classical.not_not.1 hL0
 replace Hz := Hz.oz [1, 4, 6, 7, 8, 9, 15, 19, 26]
 refine wp_region_lit ?_
 refine goCh Hz (.loadBR m34 (i := 40) rfl rfl U33 rfl fct1 (by simp) (by dsimp only [List.drop, List.take] <;> rfl) <| .move rfl <| .lb m34 41 U2 rfl rfl rfl <| .lb m34 42 U2 rfl rfl rfl .nil) fun Az Hz => ?_
 refine plz (ecl Hz Tryz.func38 rfl (epall_yes _ y n hS hn _ _ _ _ _ _ _ L _ _ fr t9 _ hL hLo hall9 (m34.into [(3, 3), (4, 4)] (by decide) rfl)) ?_)
 rintro e w70 ⟨Lp, p70, c70, hPL, rfl, hm70⟩
 have mx70 := m34.back hm70 [(3, 3), (4, 4), (44, 9)] (by decide); clear hm70 m34
 have m70 := mx70.oz [3, 4, 44, 40, 41, 42, 43]
 refine ⟨_, rfl, ?_⟩; intro Az Hz
 obtain ⟨tn, htn⟩ : ∃ tn : Nat, t9 = (tn : Int) := ⟨t9.toNat, by omega⟩
 refine gz hK8 Hz (.move rfl <| .extract rfl rfl <| .extract rfl rfl <| .assign rfl <| .assign rfl <| .nil) fun Az Hz => ?_
 refine wsk fun K11 hK11 => ?_
 replace Hz := Hz.oz [4, 6, 7, 8, 9, 15, 19, 26, 11, 12]
 refine regS Hz (.move rfl <| .not rfl .nil) fun Az Hz => ?_
 refine wcf Hz ?_
 refine zss (hK11 _ _ ?_)
 refine regS Hz (.makeFunc rfl <| .assign rfl .nil) fun Az Hz => ?_
 refine zsr fun K12 hK12 => ?_
 refine goCh Hz (.loadBR m70 (i := 40) rfl rfl U33 rfl fct1 (by simp) (by dsimp only [List.drop, List.take] <;> rfl) <| .move rfl <| .lb m70 41 U2 rfl rfl rfl <| .lb m70 42 U2 rfl rfl rfl <| .move rfl .nil) fun Az Hz => ?_
 refine plz (ecl Hz Tryz.func39 rfl (ecoll_s _ y n hS hn _ _ _ _ _ _ _ L Lp _ _ _ fr t9 tn _ _ hLo (by omega) _ _ hPL rfl htn (by omega) (m70.into [(4, 44), (10, 41), (11, 42)] (by decide) rfl)) ?_)
 rintro e w92 ⟨p92, c92, rfl, hm92⟩
 have mx92 := m70.back hm92 [(44, 4), (45, 9), (41, 10), (42, 11)] (by decide); clear hm92 m70
 have m92 := mx92.oz [44, 45, 41, 42, 3, 4, 40, 43]
 refine ⟨_, rfl, ?_⟩; intro Az Hz
 refine goCh Hz (.extract rfl rfl <| .extract rfl rfl .nil) fun Az Hz => ?_
 refine plz (stw Hz m92 43 fct32 fun w96 m96 _ => ?_)
 refine gz hK12 Hz (.assign rfl .nil) fun Az Hz => ?_
 refine rtd (retCT (fn := Tryz.f17) Hz m96 (i := 43) rfl rfl rfl rfl U42 rfl fct32 ?_)
 exact ⟨(0, y.bl, y.sz, fr, t9, selI (stL y.bl y.sz y.ws tn) (chgB y fr t9) y.bl.toNat), _, _, .inr (.inr (.inr (.inr (.inr ⟨hh, hg, hrr.1, hrr.2, hall9, by rw [htn]; rfl⟩)))), rfl, m96.ren [(3, 3), (4, 4), (9, 45)] (by decide)⟩
end
section
set_option maxRecDepth 100000
set_option maxHeartbeats 4000000
theorem zat_x (X : Cx) (h : List Ver) (t : Int) (p : Option Addr) (nn c : Nat) (w0 : World) (hl : h.length ≤ 1000000) (hr : Rise h) (m0 : MemOk X w0 [(1, .dat (.slice p nn c) (.l 2 (h.map itD)))] w0) :
   Calls Tryz.prog 98 #[.slice p nn c, .int .i64 t] w0 fun e w' => (atF h t = none ∧ e = .returned (.tuple #[.slice none 0 0, .bool false]) ∧ MemOk X w0 [(1, .dat (.slice p nn c) (.l 2 (h.map itD)))] w') ∨ ∃ (d : List Int) (p9 : Option Addr) (c9 : Nat), atF h t = some d ∧ e = .returned (.tuple #[.slice p9 d.length c9, .bool true]) ∧ MemOk X w0 [(1, .dat (.slice p nn c) (.l 2 (h.map itD))), (9, .dat (.slice p9 d.length c9) (.ns .u8 d))] w' := by
 refine ent2 Tryz.func98 rfl Tryz.ntmps98 fun Az Hz => ?_
 have hnn : nn = h.length := nnOf (m0.rd (i := 1) rfl)
 revert Hz
 subst hnn
 intro Hz
 refine regS Hz (.assign rfl <| .assign rfl .nil) fun Az Hz => ?_
 refine wsk fun K0 hK0 => ?_
 refine regS Hz (.move rfl <| .len rfl U69 <| .sub rfl rfl (r := (h.length : Int) - 1) (IntWalk.i64_in _ (by omega)) <| .assign rfl .nil) fun Az Hz => ?_
 refine wp_block ?_
 refine wp_loop_ghost (fun g a w => ∃ (i : Nat), i ≤ h.length ∧ g = i ∧ (∀ q, i ≤ q → q < h.length → t < (h.getD q v0).1) ∧ Has 26 [(0, .slice p h.length c), (1, .int .i64 t), (6, .int .i64 ((i : Int) - 1))] a ∧ MemOk X w0 [(1, .dat (.slice p h.length c) (.l 2 (h.map itD)))] w) (h.length) ?_ ?_
 · exact ⟨h.length, Nat.le_refl _, rfl, fun q h8 h9 => absurd h9 (by omega), Hz.only [0, 1, 6], m0.only [1]⟩
 clear Hz m0
 rintro g Az w7 ⟨i, hil, hg, hab, Hz, m7⟩
 refine wsk fun K1 hK1 => ?_
 refine regS Hz (.move rfl <| .geq rfl rfl .nil) fun Az Hz => ?_
 refine bc Hz 11 ?_ ?_
 ·
  intro hb10 Hz; try simp only [QQ, Qax] at hb10
  have hi : 1 ≤ i := by have := hb10; first | omega | (simp at this; omega)
  obtain ⟨⟨xs, xd⟩, hes⟩ : ∃ e, h[i - 1]? = some e := ⟨_, List.getElem?_eq_getElem (by omega)⟩
  have hx9 : (h.getD (i - 1) v0).1 = xs := by rw [List.getD, hes]; rfl
  have hx8 : (h.getD (i - 1) v0).2 = xd := by rw [List.getD, hes]; rfl
  refine wct Hz ?_
  refine zss (hK1 _ _ ?_)
  refine wsk fun K2 hK2 => ?_
  refine wp_block ?_
  refine zsr fun K3 hK3 => ?_
  refine goCh Hz (.move rfl <| .move rfl .nil) fun Az Hz => ?_
  obtain ⟨b16, o16, vs16, hp16, hR16, ho16, m16⟩ := m7.openR (i := 1) rfl (i - 1) (r := [.v (.int .i64 xs), .ns .u8 xd]) (itD_get hes) 100 rfl
  revert Hz
  cases hp16; clear m7 ho16
  rcases hR16 with _ | ⟨hd16_0, _ | ⟨hd16_1, _ | _⟩⟩
  obtain rfl := hd16_0.v_out
  clear hd16_0
  obtain ⟨p17, c17, hv17, hc17⟩ := hd16_1.ns_shape; subst hv17
  intro Hz
  have m17 := m16.dat 101 rfl (hd16_1.cast (fun _ h => (free_add rfl h))); clear m16 hd16_1
  refine gz hK3 Hz (.c rfl (fun _ h_ => y_idx h_ rfl rfl U69 fct0 (i - 1) (show (i : Int) - 1 = ((i - 1 : Nat) : Int) by omega) (by omega)) <| .fieldAddrQ 0 rfl U71 rfl (s := 0) (by kernel_rfl) rfl <| .loadC0 m17 (i := 100) rfl rfl U2 rfl <| .move rfl <| .leq rfl rfl <| .nil) fun Az Hz => ?_
  refine bc Hz 20 ?_ ?_
  ·
   intro hb23 Hz; try simp only [QQ, Qax] at hb23
   have hle : xs ≤ t := by have := hb23; first | omega | (simp at this; omega)
   refine wct Hz ?_
   replace Hz := Hz.oz [0, 1, 6, 11, 20]
   refine zsr fun K4 hK4 => ?_
   refine goCh Hz (.move rfl <| .move rfl .nil) fun Az Hz => ?_
   obtain ⟨b30, o30, vs30, hp30, hR30, ho30, m30⟩ := m17.openR (i := 1) rfl (i - 1) (r := [.v (.int .i64 xs), .ns .u8 xd]) (itD_get hes) 102 rfl
   revert Hz
   cases hp30; clear m17 ho30
   rcases hR30 with _ | ⟨hd30_0, _ | ⟨hd30_1, _ | _⟩⟩
   obtain rfl := hd30_0.v_out
   clear hd30_0
   obtain ⟨p31, c31, hv31, hc31⟩ := hd30_1.ns_shape; subst hv31
   intro Hz
   have m31 := m30.dat 103 rfl (hd30_1.cast (fun _ h => (free_add rfl h))); clear m30 hd30_1
   refine gz hK4 Hz (.c rfl (fun _ h_ => y_idx h_ rfl rfl U69 fct0 (i - 1) (show (i : Int) - 1 = ((i - 1 : Nat) : Int) by omega) (by omega)) <| .fieldAddrQ 1 rfl U71 rfl (s := 0) (by kernel_rfl) rfl <| .loadC1 m31 (i := 102) (q := 1) rfl rfl rfl U22 rfl <| .assign rfl <| .assign rfl <| .nil) fun Az Hz => ?_
   refine rt2 Hz ?_
   have hu : upN h t = i := upN_eq (fun q hq => hr.low (j := i - 1) (by omega) (by rw [hx9]; exact hle) (by omega)) (fun h8 => hab i (Nat.le_refl _) h8) hil
   exact .inr ⟨xd, _, _, by unfold atF; rw [hu, if_neg (by omega), hx8], rfl, m31.ren [(1, 1), (9, 103)] (by decide)⟩
  intro hb23 Hz; try simp only [QQ, Qax] at hb23
  have hgt : t < xs := by have := hb23; first | omega | (simp at this; omega)
  refine wcf Hz ?_
  refine zss (hK2 _ _ ?_)
  replace Hz := Hz.oz [0, 1, 6, 11, 20]
  refine wp_region_lit ?_
  refine goCh Hz (.move rfl <| .sub rfl rfl (r := ((i - 1 : Nat) : Int) - 1) (by rw [IntWalk.i64_in _ (by omega)]; omega) <| .assign rfl .nil) fun Az Hz => ?_
  refine wpList_nil ?_
  show ∃ n', n' < _ ∧ _
  exact ⟨i - 1, by omega, i - 1, by omega, rfl, fun q h8 h9 => (Nat.lt_or_ge q i).elim (fun h7 => by rw [show q = i - 1 by omega, hx9]; exact hgt) (fun h7 => hab q h7 h9), Hz.only [0, 1, 6], m17.only [1]⟩
 intro hb10 Hz; try simp only [QQ, Qax] at hb10
 revert Hz
 obtain rfl : i = 0 := by have := hb10; first | omega | (simp at this; omega)
 intro Hz
 refine wcf Hz ?_
 refine wp_exit ?_
 refine hK0 _ _ ?_
 refine regS Hz (.assign rfl <| .assign rfl .nil) fun Az Hz => ?_
 refine rt2 Hz ?_
 have hu : upN h t = 0 := upN_eq (fun q hq => absurd hq (Nat.not_lt_zero _)) (fun h8 => hab 0 (Nat.le_refl _) h8) (Nat.zero_le _)
 exact .inl ⟨by unfold atF; rw [if_pos hu], rfl, m7.only [1]⟩
theorem zat_none (X : Cx) (h : List Ver) (t : Int) (p : Option Addr) (nn c : Nat) (w0 : World) (hl : h.length ≤ 1000000) (hr : Rise h) (hA : atF h t = none) (m0 : MemOk X w0 [(1, .dat (.slice p nn c) (.l 2 (h.map itD)))] w0) :
   Calls Tryz.prog 98 #[.slice p nn c, .int .i64 t] w0 fun e w' => e = .returned (.tuple #[.slice none 0 0, .bool false]) ∧ MemOk X w0 [(1, .dat (.slice p nn c) (.l 2 (h.map itD)))] w' := by
 refine (zat_x X h t p nn c w0 hl hr m0).mono fun e w' h9 => ?_
 rcases h9 with h9 | ⟨d, p9, c9, h1, h2⟩
 · exact h9.2
 rw [hA] at h1; cases h1
theorem zat_some (X : Cx) (h : List Ver) (t : Int) (p : Option Addr) (nn c : Nat) (w0 : World) (hl : h.length ≤ 1000000) (hr : Rise h) {d : List Int} (hA : atF h t = some d) (m0 : MemOk X w0 [(1, .dat (.slice p nn c) (.l 2 (h.map itD)))] w0) :
   Calls Tryz.prog 98 #[.slice p nn c, .int .i64 t] w0 fun e w' => ∃ (p9 : Option Addr) (c9 : Nat), e = .returned (.tuple #[.slice p9 d.length c9, .bool true]) ∧ MemOk X w0 [(1, .dat (.slice p nn c) (.l 2 (h.map itD))), (9, .dat (.slice p9 d.length c9) (.ns .u8 d))] w' := by
 refine (zat_x X h t p nn c w0 hl hr m0).mono fun e w' h9 => ?_
 rcases h9 with h9 | ⟨d2, p9, c9, h1, h2⟩
 · rw [hA] at h9; cases h9.1
 rw [hA] at h1; injection h1 with h1; subst h1; exact ⟨p9, c9, h2⟩
theorem zread_some (X : Cx) (vo ch cn sz mk fl : Int) (H : List (List Ver)) (i : Nat) (t : Int) (p : Option Addr) (c : Nat) (w0 : World) (hl : H.length ≤ 1000000) (hok : ∀ h ∈ H, h.length ≤ 1000000 ∧ Rise h) (hi : i < H.length) (hsz : 0 ≤ sz ∧ sz ≤ 32) (hf : fl ≤ t) (hm : t ≤ mk) {d : List Int} (hA : atF (H.getD i []) t = some d) (m0 : MemOk X w0 [(1, .dat (.slice p H.length c) (.l 1 (H.map hD)))] w0) :
   Calls Tryz.prog 72 #[.agg #[.int .i64 vo, .int .i64 ch, .int .i64 cn, .int .i64 sz, .int .i64 mk, .int .i64 fl, .slice p H.length c], .int .i64 (i : Int), .int .i64 t] w0 fun e w' => ∃ (p9 : Option Addr) (c9 : Nat), e = .returned (.tuple #[.slice p9 ((atF (H.getD i []) t).getD (List.replicate sz.toNat 0)).length c9, .int .i64 0]) ∧ MemOk X w0 [(1, .dat (.slice p H.length c) (.l 1 (H.map hD))), (9, .dat (.slice p9 ((atF (H.getD i []) t).getD (List.replicate sz.toNat 0)).length c9) (.ns .u8 ((atF (H.getD i []) t).getD (List.replicate sz.toNat 0))))] w' := by
 refine ent3 Tryz.func72 rfl Tryz.ntmps72 fun Az Hz => ?_
 obtain ⟨h9, hes⟩ : ∃ e, H[i]? = some e := ⟨_, List.getElem?_eq_getElem hi⟩
 have hx9 : H.getD i [] = h9 := by rw [List.getD, hes]; rfl
 have hh9 := hok _ (List.mem_of_getElem? hes)
 have hA9 := hA
 rw [hx9] at hA9
 refine zsr fun K0 hK0 => ?_
 refine plz (e_box Hz m0 20 (cs := [_, _, _, _, _, _, _]) rfl rfl rfl fun g1 Az w2 Hz m2 _ _ => ?_)
 refine gz hK0 Hz (.assign rfl <| .assign rfl <| .nil) fun Az Hz => ?_
 refine wsk fun K1 hK1 => ?_
 refine wp_block ?_
 refine zsr fun K2 hK2 => ?_
 refine goCh Hz (.move rfl <| .lss rfl rfl <| .move rfl .nil) fun Az Hz => ?_
 refine bc Hz 13 ?_ ?_
 · intro hb _; exact absurd hb (by first | (simp; done) | (simp; omega))
 clear Hz; intro _ Hz
 refine gz hK2 Hz (.moveZ rfl <| .faZ 6 rfl U28 <| .loadB1Z m2 (i := 20) rfl rfl rfl U26 rfl <| .lenZ rfl U26 <| .geqZ rfl rfl <| .pickF rfl rfl <| .assign rfl <| .nil) fun Az Hz => ?_
 refine bc Hz 10 ?_ ?_
 · intro hb _; exact absurd hb (by first | (simp; done) | (simp; omega))
 clear Hz; intro _ Hz
 refine wcf Hz ?_
 replace Hz := Hz.oz [1, 2, 3, 6, 7]
 refine regS Hz (.move rfl <| .fa 5 rfl U28 <| .lb m2 20 U2 rfl rfl rfl <| .lss rfl rfl <| .assign rfl .nil) fun Az Hz => ?_
 refine bc Hz 20 ?_ ?_
 · intro hb _; exact absurd hb (by first | (simp; done) | (simp; omega))
 clear Hz; intro _ Hz
 refine wcf Hz ?_
 refine regS Hz (.move rfl <| .fa 4 rfl U28 <| .lb m2 20 U2 rfl rfl rfl <| .gtr rfl rfl <| .assign rfl .nil) fun Az Hz => ?_
 refine bc Hz 25 ?_ ?_
 · intro hb _; exact absurd hb (by first | (simp; done) | (simp; omega))
 clear Hz; intro _ Hz
 refine wcf Hz ?_
 refine zss (hK1 _ _ ?_)
 replace Hz := Hz.oz [1, 2, 3, 6, 7]
 refine zsr fun K3 hK3 => ?_
 refine goCh Hz (.fa 6 rfl U28 <| .lb m2 20 U26 rfl rfl rfl <| .move rfl .nil) fun Az Hz => ?_
 obtain ⟨b41, o41, vs41, hp41, hR41, ho41, m41⟩ := m2.openR (i := 1) rfl (i) (r := [.l 2 (h9.map itD)]) (hD_get hes) 21 rfl
 revert Hz
 cases hp41; clear m2 ho41
 rcases hR41 with _ | ⟨hd41_0, _ | _⟩
 obtain ⟨p42, c42, hv42, hc42⟩ := hd41_0.l_shape; subst hv42
 intro Hz
 have m42 := m41.dat 22 rfl (hd41_0.cast (fun _ h => (free_add rfl h))); clear m41 hd41_0
 refine goCh Hz (.c rfl (fun _ h_ => y_idx h_ rfl rfl U26 fct13 (i) rfl hi) <| .loadC0 m42 (i := 21) rfl rfl U69 rfl <| .move rfl .nil) fun Az Hz => ?_
 refine plz (ecl Hz Tryz.func98 rfl (zat_some _ h9 t _ _ _ _ hh9.1 hh9.2 hA9 (m42.into [(1, 22)] (by decide) rfl)) ?_)
 rintro e w46 ⟨p46, c46, rfl, hm46⟩
 have mx46 := m42.back hm46 [(22, 1), (23, 9)] (by decide); clear hm46 m42
 have m46 := mx46.oz [22, 23, 1, 20, 21]
 refine ⟨_, rfl, ?_⟩; intro Az Hz
 refine gz hK3 Hz (.move rfl <| .extract rfl rfl <| .extract rfl rfl <| .assign rfl <| .assign rfl <| .nil) fun Az Hz => ?_
 refine wsk fun K4 hK4 => ?_
 replace Hz := Hz.oz [3, 6, 7, 8, 9]
 refine regS Hz (.move rfl <| .not rfl .nil) fun Az Hz => ?_
 refine wcf Hz ?_
 refine zss (hK4 _ _ ?_)
 refine regS Hz (.move rfl <| .assign rfl <| .assign rfl .nil) fun Az Hz => ?_
 refine rt2 Hz ?_
 rw [hA]
 exact ⟨_, _, rfl, m46.ren [(1, 1), (9, 23)] (by decide)⟩
theorem zread_none (X : Cx) (vo ch cn sz mk fl : Int) (H : List (List Ver)) (i : Nat) (t : Int) (p : Option Addr) (c : Nat) (w0 : World) (hl : H.length ≤ 1000000) (hok : ∀ h ∈ H, h.length ≤ 1000000 ∧ Rise h) (hi : i < H.length) (hsz : 0 ≤ sz ∧ sz ≤ 32) (hf : fl ≤ t) (hm : t ≤ mk) (hA : atF (H.getD i []) t = none) (m0 : MemOk X w0 [(1, .dat (.slice p H.length c) (.l 1 (H.map hD)))] w0) :
   Calls Tryz.prog 72 #[.agg #[.int .i64 vo, .int .i64 ch, .int .i64 cn, .int .i64 sz, .int .i64 mk, .int .i64 fl, .slice p H.length c], .int .i64 (i : Int), .int .i64 t] w0 fun e w' => ∃ (p9 : Option Addr) (c9 : Nat), e = .returned (.tuple #[.slice p9 ((atF (H.getD i []) t).getD (List.replicate sz.toNat 0)).length c9, .int .i64 0]) ∧ MemOk X w0 [(1, .dat (.slice p H.length c) (.l 1 (H.map hD))), (9, .dat (.slice p9 ((atF (H.getD i []) t).getD (List.replicate sz.toNat 0)).length c9) (.ns .u8 ((atF (H.getD i []) t).getD (List.replicate sz.toNat 0))))] w' := by
 refine ent3 Tryz.func72 rfl Tryz.ntmps72 fun Az Hz => ?_
 obtain ⟨h9, hes⟩ : ∃ e, H[i]? = some e := ⟨_, List.getElem?_eq_getElem hi⟩
 have hx9 : H.getD i [] = h9 := by rw [List.getD, hes]; rfl
 have hh9 := hok _ (List.mem_of_getElem? hes)
 have hA9 := hA
 rw [hx9] at hA9
 refine zsr fun K0 hK0 => ?_
 refine plz (e_box Hz m0 20 (cs := [_, _, _, _, _, _, _]) rfl rfl rfl fun g1 Az w2 Hz m2 _ _ => ?_)
 refine gz hK0 Hz (.assign rfl <| .assign rfl <| .nil) fun Az Hz => ?_
 refine wsk fun K1 hK1 => ?_
 refine wp_block ?_
 refine zsr fun K2 hK2 => ?_
 refine goCh Hz (.move rfl <| .lss rfl rfl <| .move rfl .nil) fun Az Hz => ?_
 refine bc Hz 13 ?_ ?_
 · intro hb _; exact absurd hb (by first | (simp; done) | (simp; omega))
 clear Hz; intro _ Hz
 refine gz hK2 Hz (.moveZ rfl <| .faZ 6 rfl U28 <| .loadB1Z m2 (i := 20) rfl rfl rfl U26 rfl <| .lenZ rfl U26 <| .geqZ rfl rfl <| .pickF rfl rfl <| .assign rfl <| .nil) fun Az Hz => ?_
 refine bc Hz 10 ?_ ?_
 · intro hb _; exact absurd hb (by first | (simp; done) | (simp; omega))
 clear Hz; intro _ Hz
 refine wcf Hz ?_
 replace Hz := Hz.oz [1, 2, 3, 6, 7]
 refine regS Hz (.move rfl <| .fa 5 rfl U28 <| .lb m2 20 U2 rfl rfl rfl <| .lss rfl rfl <| .assign rfl .nil) fun Az Hz => ?_
 refine bc Hz 20 ?_ ?_
 · intro hb _; exact absurd hb (by first | (simp; done) | (simp; omega))
 clear Hz; intro _ Hz
 refine wcf Hz ?_
 refine regS Hz (.move rfl <| .fa 4 rfl U28 <| .lb m2 20 U2 rfl rfl rfl <| .gtr rfl rfl <| .assign rfl .nil) fun Az Hz => ?_
 refine bc Hz 25 ?_ ?_
 · intro hb _; exact absurd hb (by first | (simp; done) | (simp; omega))
 clear Hz; intro _ Hz
 refine wcf Hz ?_
 refine zss (hK1 _ _ ?_)
 replace Hz := Hz.oz [1, 2, 3, 6, 7]
 refine zsr fun K3 hK3 => ?_
 refine goCh Hz (.fa 6 rfl U28 <| .lb m2 20 U26 rfl rfl rfl <| .move rfl .nil) fun Az Hz => ?_
 obtain ⟨b41, o41, vs41, hp41, hR41, ho41, m41⟩ := m2.openR (i := 1) rfl (i) (r := [.l 2 (h9.map itD)]) (hD_get hes) 21 rfl
 revert Hz
 cases hp41; clear m2 ho41
 rcases hR41 with _ | ⟨hd41_0, _ | _⟩
 obtain ⟨p42, c42, hv42, hc42⟩ := hd41_0.l_shape; subst hv42
 intro Hz
 have m42 := m41.dat 22 rfl (hd41_0.cast (fun _ h => (free_add rfl h))); clear m41 hd41_0
 refine goCh Hz (.c rfl (fun _ h_ => y_idx h_ rfl rfl U26 fct13 (i) rfl hi) <| .loadC0 m42 (i := 21) rfl rfl U69 rfl <| .move rfl .nil) fun Az Hz => ?_
 refine plz (ecl Hz Tryz.func98 rfl (zat_none _ h9 t _ _ _ _ hh9.1 hh9.2 hA9 (m42.into [(1, 22)] (by decide) rfl)) ?_)
 rintro e w46 ⟨rfl, hm46⟩
 have mx46 := m42.back hm46 [(22, 1)] (by decide); clear hm46 m42
 have m46 := mx46.oz [22, 1, 20, 21]
 refine ⟨_, rfl, ?_⟩; intro Az Hz
 refine gz hK3 Hz (.move rfl <| .extract rfl rfl <| .extract rfl rfl <| .assign rfl <| .assign rfl <| .nil) fun Az Hz => ?_
 refine wsk fun K4 hK4 => ?_
 replace Hz := Hz.oz [3, 6, 7, 8, 9]
 refine regS Hz (.move rfl <| .not rfl .nil) fun Az Hz => ?_
 refine wct Hz ?_
 refine zsr fun K5 hK5 => ?_
 refine goCh Hz (.fa 3 rfl U28 <| .lb m46 20 U3 rfl rfl rfl .nil) fun Az Hz => ?_
 refine plz (e_makeN Hz m46 24 (sz.toNat) rfl rfl (by omega) (by omega) U22 fct19 (by decide) (by omega) rfl fun p60 c60 Az w61 Hz m61 => ?_)
 refine gz hK5 Hz (.assign rfl <| .assign rfl <| .nil) fun Az Hz => ?_
 refine rt2 Hz ?_
 have m64 := m61.freezeN 24 rfl
 have hln : (List.replicate sz.toNat (0 : Int)).length = sz.toNat := List.length_replicate
 rw [hA]
 refine ⟨_, _, by rw [Option.getD_none, hln], ?_⟩
 rw [Option.getD_none, hln]
 exact m64.ren [(1, 1), (9, 24)] (by decide)
theorem zsamehist_x (X : Cx) (h : List Ver) (p1 p2 : Option Addr) (n1 c1 n2 c2 : Nat) (w0 : World) (hl : h.length ≤ 1000000) (m0 : MemOk X w0 [(1, .dat (.slice p1 n1 c1) (.l 2 (h.map itD))), (2, .dat (.slice p2 n2 c2) (.l 2 (h.map itD)))] w0) :
   Calls Tryz.prog 77 #[.slice p1 n1 c1, .slice p2 n2 c2] w0 fun e w' => e = .returned (.bool true) ∧ MemOk X w0 [(1, .dat (.slice p1 n1 c1) (.l 2 (h.map itD))), (2, .dat (.slice p2 n2 c2) (.l 2 (h.map itD)))] w' := by
 refine ent2 Tryz.func77 rfl Tryz.ntmps77 fun Az Hz => ?_
 have hn1 : n1 = h.length := nnOf (m0.rd (i := 1) rfl)
 have hn2 : n2 = h.length := nnOf (m0.rd (i := 2) rfl)
 revert Hz
 subst hn1 hn2
 intro Hz
 refine regS Hz (.assign rfl .nil) fun Az Hz => ?_
 refine wsk fun K0 hK0 => ?_
 refine regS Hz (.move rfl <| .len rfl U69 <| .move rfl <| .len rfl U69 <| .neq rfl rfl .nil) fun Az Hz => ?_
 refine bc Hz 10 ?_ ?_
 · intro hb _; exact absurd hb (by simp)
 clear Hz; intro _ Hz
 refine wcf Hz ?_
 refine zss (hK0 _ _ ?_)
 refine wsk fun K1 hK1 => ?_
 refine regS Hz (.assign rfl .nil) fun Az Hz => ?_
 refine wp_block ?_
 refine wp_loop_ghost (fun g a w => ∃ (k : Nat), k ≤ h.length ∧ g = h.length - k ∧ Has 43 [(0, .slice p1 h.length c1), (1, .slice p2 h.length c2), (5, .int .i64 k)] a ∧ MemOk X w0 [(1, .dat (.slice p1 h.length c1) (.l 2 (h.map itD))), (2, .dat (.slice p2 h.length c2) (.l 2 (h.map itD)))] w) (h.length) ?_ ?_
 · exact ⟨0, Nat.zero_le _, rfl, Hz.only [0, 1, 5], m0.only [1, 2]⟩
 clear Hz m0
 rintro g Az w9 ⟨k, hkl, hg, Hz, m9⟩
 refine wsk fun K2 hK2 => ?_
 refine regS Hz (.move rfl <| .move rfl <| .len rfl U69 <| .lss rfl rfl .nil) fun Az Hz => ?_
 refine bc Hz 14 ?_ ?_
 ·
  intro hb14 Hz; try simp only [QQ, Qax] at hb14
  have hk : k < h.length := by have := hb14; first | omega | (simp at this; omega)
  obtain ⟨⟨xs, xd⟩, hes⟩ : ∃ e, h[k]? = some e := ⟨_, List.getElem?_eq_getElem hk⟩
  refine wct Hz ?_
  refine zss (hK2 _ _ ?_)
  refine wsk fun K3 hK3 => ?_
  refine wp_block ?_
  refine wsk fun K4 hK4 => ?_
  obtain ⟨b15, o15, vs15, hp15, hR15, ho15, m15⟩ := m9.openR (i := 1) rfl (k) (r := [.v (.int .i64 xs), .ns .u8 xd]) (itD_get hes) 100 rfl
  revert Hz
  cases hp15; clear m9 ho15
  rcases hR15 with _ | ⟨hd15_0, _ | ⟨hd15_1, _ | _⟩⟩
  obtain rfl := hd15_0.v_out
  clear hd15_0
  obtain ⟨p16, c16, hv16, hc16⟩ := hd15_1.ns_shape; subst hv16
  intro Hz
  have m16 := m15.dat 101 rfl (hd15_1.cast (fun _ h => (free_add rfl h))); clear m15 hd15_1
  obtain ⟨b17, o17, vs17, hp17, hR17, ho17, m17⟩ := m16.openR (i := 2) rfl (k) (r := [.v (.int .i64 xs), .ns .u8 xd]) (itD_get hes) 102 rfl
  revert Hz
  cases hp17; clear m16 ho17
  rcases hR17 with _ | ⟨hd17_0, _ | ⟨hd17_1, _ | _⟩⟩
  obtain rfl := hd17_0.v_out
  clear hd17_0
  obtain ⟨p18, c18, hv18, hc18⟩ := hd17_1.ns_shape; subst hv18
  intro Hz
  have m18 := m17.dat 103 rfl (hd17_1.cast (fun _ h => (free_add rfl h))); clear m17 hd17_1
  obtain ⟨b19, o19, vs19, hp19, hR19, ho19, m19⟩ := m18.openR (i := 1) rfl (k) (r := [.v (.int .i64 xs), .ns .u8 xd]) (itD_get hes) 104 rfl
  revert Hz
  cases hp19; clear m18 ho19
  rcases hR19 with _ | ⟨hd19_0, _ | ⟨hd19_1, _ | _⟩⟩
  obtain rfl := hd19_0.v_out
  clear hd19_0
  obtain ⟨p20, c20, hv20, hc20⟩ := hd19_1.ns_shape; subst hv20
  intro Hz
  have m20 := m19.dat 105 rfl (hd19_1.cast (fun _ h => (free_add rfl h))); clear m19 hd19_1
  obtain ⟨b21, o21, vs21, hp21, hR21, ho21, m21⟩ := m20.openR (i := 2) rfl (k) (r := [.v (.int .i64 xs), .ns .u8 xd]) (itD_get hes) 106 rfl
  revert Hz
  cases hp21; clear m20 ho21
  rcases hR21 with _ | ⟨hd21_0, _ | ⟨hd21_1, _ | _⟩⟩
  obtain rfl := hd21_0.v_out
  clear hd21_0
  obtain ⟨p22, c22, hv22, hc22⟩ := hd21_1.ns_shape; subst hv22
  intro Hz
  have m22 := m21.dat 107 rfl (hd21_1.cast (fun _ h => (free_add rfl h))); clear m21 hd21_1
  have m23 := m22.oz [1, 2, 100, 101, 102, 103, 104, 105, 106, 107]
  refine region_p 26 (B := [(1, _), (2, _), (100, _), (101, _), (102, _), (103, _), (104, _), (105, _), (106, _), (107, _)]) (m23.to ⟨il, il, il, il, il, il, il, il, il, il, trivial⟩) m23 (by kernel_rfl) (fun w24 hP24 m24 => ?_); clear m23
  refine goR hP24 [0, 1, 2, 3, 4, 5, 6, 7, 8, 9, 10, 11] [4, 9] 12 0 4095 Hz (m24.to ⟨il, il, il, il, il, il, il, il, il, il, trivial⟩) (.move rfl <| .move rfl <| .p (fun _ _ h_ => y_idx h_ rfl rfl U69 fct0 (k) rfl hk) <| .fieldAddrQ 0 rfl U71 rfl (s := 0) (by kernel_rfl) rfl <| .loadC0 hh (i := 100) rfl rfl U2 rfl <| .move rfl <| .move rfl <| .p (fun _ _ h_ => y_idx h_ rfl rfl U69 fct0 (k) rfl hk) <| .fieldAddrQ 0 rfl U71 rfl (s := 0) (by kernel_rfl) rfl <| .loadC0 hh (i := 102) rfl rfl U2 rfl <| .neq rfl rfl <| .move rfl .nil) fun Az Hz => ?_
  refine bc Hz 28 ?_ ?_
  · intro hb _; exact absurd hb (by simp)
  clear Hz; intro _ Hz
  refine goR hP24 [12, 13, 14, 15, 16, 17, 18, 19, 20, 21, 22, 23, 24, 25] [16, 17, 22, 23] 14 4095 67108863 Hz (m24.to ⟨il, il, il, il, il, il, il, il, il, il, trivial⟩) (.move rfl <| .move rfl <| .p (fun _ _ h_ => y_idx h_ rfl rfl U69 fct0 (k) rfl hk) <| .fieldAddrQ 1 rfl U71 rfl (s := 0) (by kernel_rfl) rfl <| .loadC1 hh (i := 104) (q := 1) rfl rfl rfl U22 rfl <| .str rfl (fun _ h_ => (h_.nums (i := 105) rfl)) U22 U5 U9 <| .move rfl <| .move rfl <| .p (fun _ _ h_ => y_idx h_ rfl rfl U69 fct0 (k) rfl hk) <| .fieldAddrQ 1 rfl U71 rfl (s := 0) (by kernel_rfl) rfl <| .loadC1 hh (i := 106) (q := 1) rfl rfl rfl U22 rfl <| .str rfl (fun _ h_ => (h_.nums (i := 107) rfl)) U22 U5 U9 <| .neqS rfl rfl <| .pickF rfl rfl .nil) fun Az Hz => ?_
  refine wpAnyE_done (by kernel_rfl) ?_ _
  refine hK4 _ _ ?_
  refine bc Hz 42 ?_ ?_
  · intro hb _; exact absurd hb (by simp)
  clear Hz; intro _ Hz
  refine wcf Hz ?_
  refine zss (hK3 _ _ ?_)
  replace Hz := Hz.oz [0, 1, 5]
  refine wp_region_lit ?_
  refine goCh Hz (.move rfl <| .inc (k + 1) <| .assign rfl .nil) fun Az Hz => ?_
  refine wpList_nil ?_
  show ∃ n', n' < _ ∧ _
  exact ⟨h.length - (k + 1), by omega, k + 1, by omega, rfl, Hz.only [0, 1, 5], m24.only [1, 2]⟩
 intro hb14 Hz; try simp only [QQ, Qax] at hb14
 revert Hz
 obtain rfl : k = h.length := by have := hb14; first | omega | (simp at this; omega)
 intro Hz
 refine wcf Hz ?_
 refine wp_exit ?_
 refine hK1 _ _ ?_
 refine regS Hz (.assign rfl .nil) fun Az Hz => ?_
 refine rt1 Hz ?_
 exact ⟨rfl, m9.only [1, 2]⟩
theorem zsame_x (X : Cx) (vo ch cn sz mk fl : Int) (H : List (List Ver)) (p1 p2 : Option Addr) (c1 c2 : Nat) (w0 : World) (hl : H.length ≤ 1000000) (hok : ∀ h ∈ H, h.length ≤ 1000000) (m0 : MemOk X w0 [(1, .dat (.slice p1 H.length c1) (.l 1 (H.map hD))), (2, .dat (.slice p2 H.length c2) (.l 1 (H.map hD)))] w0) :
   Calls Tryz.prog 48 #[.agg #[.int .i64 vo, .int .i64 ch, .int .i64 cn, .int .i64 sz, .int .i64 mk, .int .i64 fl, .slice p1 H.length c1], .agg #[.int .i64 vo, .int .i64 ch, .int .i64 cn, .int .i64 sz, .int .i64 mk, .int .i64 fl, .slice p2 H.length c2]] w0 fun e w' => e = .returned (.bool true) ∧ MemOk X w0 [(1, .dat (.slice p1 H.length c1) (.l 1 (H.map hD))), (2, .dat (.slice p2 H.length c2) (.l 1 (H.map hD)))] w' := by
 refine ent2 Tryz.func48 rfl Tryz.ntmps48 fun Az Hz => ?_
 refine zsr fun K0 hK0 => ?_
 refine plz (e_box Hz m0 20 (cs := [_, _, _, _, _, _, _]) rfl rfl rfl fun g1 Az w2 Hz m2 _ _ => ?_)
 refine plz (e_box Hz m2 21 (cs := [_, _, _, _, _, _, _]) rfl rfl rfl fun g3 Az w4 Hz m4 _ _ => ?_)
 refine gz hK0 Hz (.assign rfl .nil) fun Az Hz => ?_
 refine wsk fun K1 hK1 => ?_
 refine zsr fun K2 hK2 => ?_
 refine goCh Hz (.fa 0 rfl U28 <| .lb m4 20 U3 rfl rfl rfl <| .fa 0 rfl U28 <| .lb m4 21 U3 rfl rfl rfl <| .neq rfl rfl <| .move rfl .nil) fun Az Hz => ?_
 refine bc Hz 11 ?_ ?_
 · intro hb _; exact absurd hb (by simp)
 clear Hz; intro _ Hz
 refine goCh Hz (.faZ 1 rfl U28 <| .loadB1Z m4 (i := 20) rfl rfl rfl U3 rfl <| .faZ 1 rfl U28 <| .loadB1Z m4 (i := 21) rfl rfl rfl U3 rfl <| .neqZ rfl rfl <| .pickF rfl rfl <| .move rfl .nil) fun Az Hz => ?_
 refine bc Hz 18 ?_ ?_
 · intro hb _; exact absurd hb (by simp)
 clear Hz; intro _ Hz
 refine goCh Hz (.faZ 2 rfl U28 <| .loadB1Z m4 (i := 20) rfl rfl rfl U3 rfl <| .faZ 2 rfl U28 <| .loadB1Z m4 (i := 21) rfl rfl rfl U3 rfl <| .neqZ rfl rfl <| .pickF rfl rfl <| .move rfl .nil) fun Az Hz => ?_
 refine bc Hz 25 ?_ ?_
 · intro hb _; exact absurd hb (by simp)
 clear Hz; intro _ Hz
 refine goCh Hz (.faZ 3 rfl U28 <| .loadB1Z m4 (i := 20) rfl rfl rfl U3 rfl <| .faZ 3 rfl U28 <| .loadB1Z m4 (i := 21) rfl rfl rfl U3 rfl <| .neqZ rfl rfl <| .pickF rfl rfl <| .move rfl .nil) fun Az Hz => ?_
 refine bc Hz 32 ?_ ?_
 · intro hb _; exact absurd hb (by simp)
 clear Hz; intro _ Hz
 refine goCh Hz (.faZ 4 rfl U28 <| .loadB1Z m4 (i := 20) rfl rfl rfl U2 rfl <| .faZ 4 rfl U28 <| .loadB1Z m4 (i := 21) rfl rfl rfl U2 rfl <| .neqZ rfl rfl <| .pickF rfl rfl <| .move rfl .nil) fun Az Hz => ?_
 refine bc Hz 39 ?_ ?_
 · intro hb _; exact absurd hb (by simp)
 clear Hz; intro _ Hz
 refine goCh Hz (.faZ 5 rfl U28 <| .loadB1Z m4 (i := 20) rfl rfl rfl U2 rfl <| .faZ 5 rfl U28 <| .loadB1Z m4 (i := 21) rfl rfl rfl U2 rfl <| .neqZ rfl rfl <| .pickF rfl rfl <| .move rfl .nil) fun Az Hz => ?_
 refine bc Hz 46 ?_ ?_
 · intro hb _; exact absurd hb (by simp)
 clear Hz; intro _ Hz
 refine gz hK2 Hz (.faZ 6 rfl U28 <| .loadB1Z m4 (i := 20) rfl rfl rfl U26 rfl <| .lenZ rfl U26 <| .faZ 6 rfl U28 <| .loadB1Z m4 (i := 21) rfl rfl rfl U26 rfl <| .lenZ rfl U26 <| .neqZ rfl rfl <| .pickF rfl rfl <| .nil) fun Az Hz => ?_
 refine bc Hz 54 ?_ ?_
 · intro hb _; exact absurd hb (by simp)
 clear Hz; intro _ Hz
 refine wcf Hz ?_
 refine zss (hK1 _ _ ?_)
 refine wsk fun K3 hK3 => ?_
 replace Hz := Hz.oz [2, 3, 4]
 refine regS Hz (.assign rfl .nil) fun Az Hz => ?_
 refine wp_block ?_
 refine wp_loop_ghost (fun g a w => ∃ (k g1 g2 : Nat), k ≤ H.length ∧ g = H.length - k ∧ Has 74 [(2, .pointer (some ⟨g1, 0, none⟩)), (3, .pointer (some ⟨g2, 0, none⟩)), (5, .int .i64 k)] a ∧ MemOk X w0 [(1, .dat (.slice p1 H.length c1) (.l 1 (H.map hD))), (2, .dat (.slice p2 H.length c2) (.l 1 (H.map hD))), (10, .box g1 28 [.int .i64 vo, .int .i64 ch, .int .i64 cn, .int .i64 sz, .int .i64 mk, .int .i64 fl, .slice p1 H.length c1]), (11, .box g2 28 [.int .i64 vo, .int .i64 ch, .int .i64 cn, .int .i64 sz, .int .i64 mk, .int .i64 fl, .slice p2 H.length c2])] w) (H.length) ?_ ?_
 · exact ⟨0, _, _, Nat.zero_le _, rfl, Hz.only [2, 3, 5], m4.ren [(1, 1), (2, 2), (10, 20), (11, 21)] (by decide)⟩
 clear Hz m4
 rintro g Az w70 ⟨k, g1, g2, hkl, hg, Hz, m70⟩
 refine wsk fun K4 hK4 => ?_
 refine regS Hz (.move rfl <| .fa 6 rfl U28 <| .lb m70 10 U26 rfl rfl rfl <| .len rfl U26 <| .lss rfl rfl .nil) fun Az Hz => ?_
 refine bc Hz 59 ?_ ?_
 ·
  intro hb76 Hz; try simp only [QQ, Qax] at hb76
  have hk : k < H.length := by have := hb76; first | omega | (simp at this; omega)
  obtain ⟨h9, hes⟩ : ∃ e, H[k]? = some e := ⟨_, List.getElem?_eq_getElem hk⟩
  have hh9 := hok _ (List.mem_of_getElem? hes)
  refine wct Hz ?_
  refine zss (hK4 _ _ ?_)
  refine wsk fun K5 hK5 => ?_
  refine wp_block ?_
  refine wsk fun K6 hK6 => ?_
  obtain ⟨b77, o77, vs77, hp77, hR77, ho77, m77⟩ := m70.openR (i := 1) rfl (k) (r := [.l 2 (h9.map itD)]) (hD_get hes) 100 rfl
  revert Hz
  cases hp77; clear m70 ho77
  rcases hR77 with _ | ⟨hd77_0, _ | _⟩
  obtain ⟨p78, c78, hv78, hc78⟩ := hd77_0.l_shape; subst hv78
  intro Hz
  have m78 := m77.dat 101 rfl (hd77_0.cast (fun _ h => (free_add rfl h))); clear m77 hd77_0
  obtain ⟨b79, o79, vs79, hp79, hR79, ho79, m79⟩ := m78.openR (i := 2) rfl (k) (r := [.l 2 (h9.map itD)]) (hD_get hes) 102 rfl
  revert Hz
  cases hp79; clear m78 ho79
  rcases hR79 with _ | ⟨hd79_0, _ | _⟩
  obtain ⟨p80, c80, hv80, hc80⟩ := hd79_0.l_shape; subst hv80
  intro Hz
  have m80 := m79.dat 103 rfl (hd79_0.cast (fun _ h => (free_add rfl h))); clear m79 hd79_0
  have m81 := m80.oz [1, 2, 10, 11, 100, 101, 102, 103]
  refine region_p 12 (B := [(1, _), (2, _), (10, _), (11, _), (100, _), (101, _), (102, _), (103, _)]) (m81.to ⟨il, il, il, il, il, il, il, il, trivial⟩) m81 (by kernel_rfl) (fun w82 hP82 m82 => ?_); clear m81
  refine goR hP82 [0, 1, 2, 3, 4, 5, 6, 7, 8, 9] [1, 4, 6, 9] 10 0 1023 Hz (m82.to ⟨il, il, il, il, il, il, il, il, trivial⟩) (.fa 6 rfl U28 <| .lb hh 10 U26 rfl rfl rfl <| .move rfl <| .p (fun _ _ h_ => y_idx h_ rfl rfl U26 fct13 (k) rfl hk) <| .loadC0 hh (i := 100) rfl rfl U69 rfl <| .fa 6 rfl U28 <| .lb hh 11 U26 rfl rfl rfl <| .move rfl <| .p (fun _ _ h_ => y_idx h_ rfl rfl U26 fct13 (k) rfl hk) <| .loadC0 hh (i := 102) rfl rfl U69 rfl .nil) fun Az Hz => ?_
  refine so 10 ?_
  refine ecl Hz Tryz.func77 rfl (zsamehist_x _ h9 _ _ _ _ _ _ _ hh9 (m82.into [(1, 101), (2, 103)] (by decide) rfl)) ?_
  rintro e w93 ⟨rfl, hm93⟩
  have mx93 := m82.back hm93 [(101, 1), (103, 2)] (by decide); clear hm93 m82
  have m93 := mx93.oz [101, 103, 1, 2, 10, 11, 100, 102]
  refine ⟨_, rfl, ?_⟩; intro Az Hz
  refine ⟨m93.to ⟨il, il, il, il, il, il, il, il, trivial⟩, ?_⟩
  refine goA hP82 [11] 1 2047 4095 Hz (m93.to ⟨il, il, il, il, il, il, il, il, trivial⟩) (.not rfl .nil) fun Az Hz => ?_
  refine wpAnyE_done (by kernel_rfl) ?_ _
  refine hK6 _ _ ?_
  refine wcf Hz ?_
  refine zss (hK5 _ _ ?_)
  replace Hz := Hz.oz [2, 3, 5]
  refine wp_region_lit ?_
  refine goCh Hz (.move rfl <| .inc (k + 1) <| .assign rfl .nil) fun Az Hz => ?_
  refine wpList_nil ?_
  show ∃ n', n' < _ ∧ _
  exact ⟨H.length - (k + 1), by omega, k + 1, _, _, by omega, rfl, Hz.only [2, 3, 5], m93.ren [(1, 1), (2, 2), (10, 10), (11, 11)] (by decide)⟩
 intro hb76 Hz; try simp only [QQ, Qax] at hb76
 revert Hz
 obtain rfl : k = H.length := by have := hb76; first | omega | (simp at this; omega)
 intro Hz
 refine wcf Hz ?_
 refine wp_exit ?_
 refine hK3 _ _ ?_
 refine regS Hz (.assign rfl .nil) fun Az Hz => ?_
 refine rt1 Hz ?_
 exact ⟨rfl, m70.only [1, 2]⟩
end
section
theorem fl28grp : flatS Tryz.prog 28 [.int .i64 0, .int .i64 0, .int .i64 0, .int .i64 0, .int .i64 0, .int .i64 0, .slice none 0 0] = true := by kernel_rfl
theorem fl42grt : flatS Tryz.prog 42 [.int .i64 0, .int .i64 0, .int .i64 0, .int .i64 0, .slice none 0 0] = true := by kernel_rfl
theorem fl111grt : flatS Tryz.prog 111 [.int .i64 0, .slice none 0 0] = true := by kernel_rfl
theorem selI_succ (S : List (List Int)) (P : Nat → Bool) (b : Nat) : selI S P (b + 1) = selI S P b ++ (if P b = true then [((b : Int), S.getD b [])] else []) := by
 unfold selI
 rw [List.range_succ, List.filter_append, List.map_append]
 congr 1
 by_cases h : P b = true
 · rw [if_pos h, List.filter_cons_of_pos h]; rfl
 rw [if_neg h, List.filter_cons_of_neg h]; rfl
def TakG (y : VolV) (L : List (Nat × Nat)) (fb : Bool) (f t : Int) (T : (Int × Int × Int × Int × Int × List (Int × List Int))) : Prop := (y.hi = true ∧ T = (28, 0, 0, 0, 0, [])) ∨ (y.hi = false ∧ t < f ∧ T = (23, 0, 0, 0, 0, [])) ∨ (y.hi = false ∧ f ≤ t ∧ f < y.fl ∧ T = (30, 0, 0, 0, 0, [])) ∨ (y.hi = false ∧ f ≤ t ∧ y.fl ≤ f ∧ (y.ws.length : Int) < t ∧ T = (31, 0, 0, 0, 0, [])) ∨ (y.hi = false ∧ f ≤ t ∧ y.fl ≤ f ∧ t ≤ (y.ws.length : Int) ∧ ¬ AllOk y L f t ∧ T = (32, 0, 0, 0, 0, [])) ∨ (y.hi = false ∧ f ≤ t ∧ y.fl ≤ f ∧ t ≤ (y.ws.length : Int) ∧ AllOk y L f t ∧ T = (0, y.bl, y.sz, (if fb = true then -1 else f), t, selI (stL y.bl y.sz y.ws t.toNat) (fun b => fb || chgB y f t b) y.bl.toNat))
theorem tak_since {y : VolV} {L : List (Nat × Nat)} {f t : Int} {T : (Int × Int × Int × Int × Int × List (Int × List Int))} (h : TakG y L false f t T) : SinceG y L f t T := h
theorem tak_full {y : VolV} {L : List (Nat × Nat)} {t : Int} {T : (Int × Int × Int × Int × Int × List (Int × List Int))} (h : TakG y L true t t T) : FullG y L t T := by
 rcases h with h | ⟨a, b, c⟩ | ⟨a, b, c, d⟩ | ⟨a, b, c, d, e⟩ | ⟨a, b, c, d, e, f⟩ | ⟨a, b, c, d, e, f⟩
 · exact .inl h
 · exact absurd b (by omega)
 · exact .inr (.inl ⟨a, c, d⟩)
 · exact .inr (.inr (.inl ⟨a, c, d, e⟩))
 · exact .inr (.inr (.inr (.inl ⟨a, c, d, e, f⟩)))
 refine .inr (.inr (.inr (.inr ⟨a, c, d, e, ?_⟩)))
 rw [f, if_pos rfl, ← selI_all]
 rfl
theorem zread_n (X : Cx) (y : VolV) (k fn cnt m : Nat) (hC : CkOk y k fn cnt) (hF : VolF y) (hmn : m ≤ y.ws.length) (i t nn c : Nat) (p : Option Addr) (tv : Int) (w0 : World) (S : List (List Int)) (hS : stL y.bl y.sz y.ws t = S) (htv : tv = (t : Int)) (hi : i < cnt) (hft : min y.fl (m : Int) ≤ tv) (ht : tv ≤ m) (m0 : MemOk X w0 [(1, .dat (.slice p nn c) (.l 1 ((chN y fn cnt m).map hD)))] w0) :
   Calls Tryz.prog 72 #[.agg #[.int .i64 y.vo, .int .i64 (k : Int), .int .i64 (cnt : Int), .int .i64 y.sz, .int .i64 (m : Int), .int .i64 (min y.fl (m : Int)), .slice p nn c], .int .i64 (i : Int), .int .i64 tv] w0 fun e w' => ∃ (p9 : Option Addr) (c9 : Nat), e = .returned (.tuple #[.slice p9 (S.getD (fn + i) []).length c9, .int .i64 0]) ∧ MemOk X w0 [(1, .dat (.slice p nn c) (.l 1 ((chN y fn cnt m).map hD))), (9, .dat (.slice p9 (S.getD (fn + i) []).length c9) (.ns .u8 (S.getD (fn + i) [])))] w' := by
 subst htv hS
 have hcl := chN_len y fn cnt m
 obtain rfl : cnt = nn := by have h9 := nnOf (m0.rd (i := 1) rfl); rw [hcl] at h9; exact h9.symm
 have hl := hF.wl; have htop := hC.top
 have hR := chu_read hF.wr (fi := (fn : Int)) (fl := min y.fl (m : Int)) (fn := fn) (cnt := cnt) (m := m) (t := t) (i := i) rfl hft (by omega) hi (by omega)
 have hHB : HB 900000 (chN y fn cnt m) := chu_hb hF.wr hF.sz.2 (by omega)
 have hc2 := hC.c256
 rw [← hR]
 have hok : ∀ h ∈ chN y fn cnt m, h.length ≤ 1000000 ∧ Rise h := fun x hx => ⟨(hHB.at hx).2.1, (hHB.at hx).1⟩
 rcases hA : atF ((chN y fn cnt m).getD i []) t with _ | d
 · have h := zread_none X y.vo (k : Int) (cnt : Int) y.sz (m : Int) (min y.fl (m : Int)) (chN y fn cnt m) i (t : Int) p c w0 (by omega) hok (by omega) ⟨by have := hF.sz; omega, hF.sz.2⟩ hft ht hA (by rw [hcl]; exact m0)
   rw [hcl] at h
   exact h
 have h := zread_some X y.vo (k : Int) (cnt : Int) y.sz (m : Int) (min y.fl (m : Int)) (chN y fn cnt m) i (t : Int) p c w0 (by omega) hok (by omega) ⟨by have := hF.sz; omega, hF.sz.2⟩ hft ht hA (by rw [hcl]; exact m0)
 rw [hcl] at h
 exact h
set_option maxRecDepth 100000
set_option maxHeartbeats 4000000
theorem erchg_x (X : Cx) (h : List Ver) (a9 b9 : Int) (p : Option Addr) (nn c : Nat) (w0 : World) (hl : h.length ≤ 1000000) (hr : Rise h) (m0 : MemOk X w0 [(1, .dat (.slice p nn c) (.l 2 (h.map itD)))] w0) :
   Calls Tryz.prog 71 #[.slice p nn c, .int .i64 a9, .int .i64 b9] w0 fun e w' => e = .returned (.bool (chgF h a9 b9)) ∧ MemOk X w0 [(1, .dat (.slice p nn c) (.l 2 (h.map itD)))] w' := by
 refine ent3 Tryz.func71 rfl Tryz.ntmps71 fun Az Hz => ?_
 revert Hz
 obtain rfl : nn = h.length := nnOf (m0.rd (i := 1) rfl)
 intro Hz
 refine regS Hz (.assign rfl .nil) fun Az Hz => ?_
 refine wsk fun K0 hK0 => ?_
 refine regS Hz (.assign rfl .nil) fun Az Hz => ?_
 refine wp_block ?_
 refine wp_loop_ghost (fun g a w => ∃ (i : Nat), i ≤ h.length ∧ g = h.length - i ∧ (∀ v ∈ h.take i, ¬ (a9 < v.1 ∧ v.1 ≤ b9)) ∧ Has 30 [(0, .slice p h.length c), (1, .int .i64 a9), (2, .int .i64 b9), (7, .int .i64 (i : Int))] a ∧ MemOk X w0 [(1, .dat (.slice p h.length c) (.l 2 (h.map itD)))] w) (h.length) ?_ ?_
 · exact ⟨0, Nat.zero_le _, rfl, (fun v hv => by rw [List.take_zero] at hv; cases hv), Hz.only [0, 1, 2, 7], m0.only [1]⟩
 clear Hz m0
 rintro g Az w3 ⟨i, hil, hg, hno, Hz, m3⟩
 refine wsk fun K1 hK1 => ?_
 refine regS Hz (.move rfl <| .move rfl <| .len rfl U69 <| .lss rfl rfl .nil) fun Az Hz => ?_
 refine bc Hz 11 ?_ ?_
 ·
  intro hb8 Hz; try simp only [QQ, Qax] at hb8
  have hi : i < h.length := by have := hb8; first | omega | (simp at this; omega) | (simp at this; exact this)
  obtain ⟨⟨xs, xd⟩, hes⟩ : ∃ e, h[i]? = some e := ⟨_, List.getElem?_eq_getElem hi⟩
  refine wct Hz ?_
  refine zss (hK1 _ _ ?_)
  refine wsk fun K2 hK2 => ?_
  refine wp_block ?_
  refine zsr fun K3 hK3 => ?_
  refine goCh Hz (.move rfl <| .move rfl .nil) fun Az Hz => ?_
  obtain ⟨b14, o14, vs14, hp14, hR14, ho14, m14⟩ := m3.openR (i := 1) rfl (i) (r := [.v (.int .i64 xs), .ns .u8 xd]) (itD_get hes) 100 rfl
  revert Hz
  cases hp14; clear m3 ho14
  rcases hR14 with _ | ⟨hd14_0, _ | ⟨hd14_1, _ | _⟩⟩
  obtain rfl := hd14_0.v_out
  clear hd14_0
  obtain ⟨p15, c15, hv15, hc15⟩ := hd14_1.ns_shape; subst hv15
  intro Hz
  have m15 := m14.dat 101 rfl (hd14_1.cast (fun _ h => (free_add rfl h))); clear m14 hd14_1
  refine goCh Hz (.c rfl (fun _ h_ => y_idx h_ rfl rfl U69 fct0 (i) rfl hi) <| .fieldAddrQ 0 rfl U71 rfl (s := 0) (by kernel_rfl) rfl <| .loadC0 m15 (i := 100) rfl rfl U2 rfl <| .move rfl <| .gtr rfl rfl <| .move rfl .nil) fun Az Hz => ?_
  refine bc Hz 21 ?_ ?_
  ·
   intro hb22 Hz; try simp only [QQ, Qax] at hb22
   have hgt : a9 < xs := by have := hb22; first | omega | (simp at this; omega) | (simp at this; exact this)
   refine goCh Hz (.moveZ rfl <| .moveZ rfl .nil) fun Az Hz => ?_
   obtain ⟨b25, o25, vs25, hp25, hR25, ho25, m25⟩ := m15.openR (i := 1) rfl (i) (r := [.v (.int .i64 xs), .ns .u8 xd]) (itD_get hes) 102 rfl
   revert Hz
   cases hp25; clear m15 ho25
   rcases hR25 with _ | ⟨hd25_0, _ | ⟨hd25_1, _ | _⟩⟩
   obtain rfl := hd25_0.v_out
   clear hd25_0
   obtain ⟨p26, c26, hv26, hc26⟩ := hd25_1.ns_shape; subst hv26
   intro Hz
   have m26 := m25.dat 103 rfl (hd25_1.cast (fun _ h => (free_add rfl h))); clear m25 hd25_1
   refine gz hK3 Hz (.g rfl rfl rfl rfl (fun _ h_ => y_idx h_ rfl rfl U69 fct0 (i) rfl hi) <| .fieldAddrQZ 0 rfl U71 rfl (s := 0) (by kernel_rfl) rfl <| .loadC0Z m26 (i := 102) rfl rfl U2 rfl <| .moveZ rfl <| .leqZ rfl rfl <| .pickT rfl rfl <| .nil) fun Az Hz => ?_
   refine bc Hz 29 ?_ ?_
   ·
    intro hb33 Hz; try simp only [QQ, Qax] at hb33
    have hle : xs ≤ b9 := by have := hb33; first | omega | (simp at this; omega) | (simp at this; exact this)
    refine wct Hz ?_
    replace Hz := Hz.oz [0, 1, 2, 7, 29]
    refine regS Hz (.assign rfl .nil) fun Az Hz => ?_
    refine rt1 Hz ?_
    exact ⟨by rw [(chgF_iff hr).2 ⟨_, List.mem_of_getElem? hes, hgt, hle⟩], m26.ren [(1, 1)] (by decide)⟩
   intro hb33 Hz; try simp only [QQ, Qax] at hb33
   have hle : ¬ xs ≤ b9 := by have := hb33; first | omega | (simp at this; omega) | (simp at this; exact this)
   refine wcf Hz ?_
   refine zss (hK2 _ _ ?_)
   replace Hz := Hz.oz [0, 1, 2, 7, 29]
   refine wp_region_lit ?_
   refine goCh Hz (.move rfl <| .inc (i + 1) <| .assign rfl .nil) fun Az Hz => ?_
   refine wpList_nil ?_
   show ∃ n', n' < _ ∧ _
   have hno2 : ∀ v ∈ h.take (i + 1), ¬ (a9 < v.1 ∧ v.1 ≤ b9) := by
     rw [take_snoc hes]
     intro v hv
     rcases List.mem_append.1 hv with h7 | h7
     · exact hno v h7
     revert Hz
     obtain rfl := List.mem_singleton.1 h7
     intro Hz
     dsimp only
     omega
   exact ⟨h.length - (i + 1), by omega, i + 1, by omega, rfl, hno2, Hz.only [0, 1, 2, 7], m26.only [1]⟩
  intro hb22 Hz; try simp only [QQ, Qax] at hb22
  have hgt : ¬ a9 < xs := by have := hb22; first | omega | (simp at this; omega) | (simp at this; exact this)
  refine gz hK3 Hz (.sk <| .sk <| .sk <| .sk <| .sk <| .sk <| .sk <| .pickF rfl rfl <| .nil) fun Az Hz => ?_
  refine wcf Hz ?_
  refine zss (hK2 _ _ ?_)
  replace Hz := Hz.oz [0, 1, 2, 7, 29]
  refine wp_region_lit ?_
  refine goCh Hz (.move rfl <| .inc (i + 1) <| .assign rfl .nil) fun Az Hz => ?_
  refine wpList_nil ?_
  show ∃ n', n' < _ ∧ _
  have hno2 : ∀ v ∈ h.take (i + 1), ¬ (a9 < v.1 ∧ v.1 ≤ b9) := by
    rw [take_snoc hes]
    intro v hv
    rcases List.mem_append.1 hv with h7 | h7
    · exact hno v h7
    revert Hz
    obtain rfl := List.mem_singleton.1 h7
    intro Hz
    dsimp only
    omega
  exact ⟨h.length - (i + 1), by omega, i + 1, by omega, rfl, hno2, Hz.only [0, 1, 2, 7], m15.only [1]⟩
 intro hb8 Hz; try simp only [QQ, Qax] at hb8
 obtain rfl : i = h.length := by have := hb8; first | omega | (simp at this; omega) | (simp at this; exact this)
 refine wcf Hz ?_
 refine wp_exit ?_
 refine hK0 _ _ ?_
 refine regS Hz (.assign rfl .nil) fun Az Hz => ?_
 refine rt1 Hz ?_
 rw [List.take_length] at hno
 have hcf : chgF h a9 b9 = false := Bool.eq_false_iff.2 (fun h9 => by obtain ⟨v, hv, h7⟩ := (chgF_iff hr).1 h9; exact hno v hv h7)
 exact ⟨by rw [hcf], m3.ren [(1, 1)] (by decide)⟩
theorem erpick_f (X : Cx) (y : VolV) (n : Nat) (hS : VolS n y) (hn : n ≤ 1000) (pp pn pw : Option Addr) (cp nn9 cn9 cw : Nat) (L : List (Nat × Nat)) (pl : Option Addr) (cl : Nat) (k : Nat) (a9 b9 : Int) (w0 : World) (hL : L.length ≤ 1000000) (hLo : ∀ x ∈ L, x.1 < y.place.length ∧ x.2 ≤ y.ws.length) (hk : k < y.place.length) (m0 : MemOk X w0 [(3, .dat (.slice pw (y.ws.map wrD).length cw) (.l 2 (y.ws.map wrD))), (4, .dat (.slice pl L.length cl) (.l 7 (L.map (ckD y))))] w0) :
   Calls Tryz.prog 20 #[.agg #[.int .i64 y.vo, .int .i64 y.bl, .int .i64 y.sz, .int .i64 y.pe, .slice pp y.place.length cp, .int .i64 y.to, .int .i64 y.ne, .bool y.hi, .int .i64 y.fl, .slice pn nn9 cn9, .slice pw (y.ws.map wrD).length cw], .slice pl L.length cl, .int .i64 (k : Int), .int .i64 a9, .int .i64 b9] w0 fun e w' => (∃ (m : Nat) (p9 : Option Addr) (n9 c9 : Nat), pkF y L k a9 b9 = some (k, m) ∧ e = .returned (.tuple #[.agg #[.int .i64 y.vo, .int .i64 (k : Int), .int .i64 (cnY y k : Int), .int .i64 y.sz, .int .i64 (m : Int), .int .i64 (min y.fl (m : Int)), .slice p9 n9 c9], .bool true]) ∧ MemOk X w0 [(3, .dat (.slice pw (y.ws.map wrD).length cw) (.l 2 (y.ws.map wrD))), (4, .dat (.slice pl L.length cl) (.l 7 (L.map (ckD y)))), (9, .dat (.slice p9 n9 c9) (.l 1 ((chN y (fnY y k) (cnY y k) m).map hD)))] w') ∨ (pkF y L k a9 b9 = none ∧ e = .returned (.tuple #[.agg #[.int .i64 0, .int .i64 0, .int .i64 0, .int .i64 0, .int .i64 0, .int .i64 0, .slice none 0 0], .bool false]) ∧ MemOk X w0 [(3, .dat (.slice pw (y.ws.map wrD).length cw) (.l 2 (y.ws.map wrD))), (4, .dat (.slice pl L.length cl) (.l 7 (L.map (ckD y))))] w') := by
 refine ent5 Tryz.func20 rfl Tryz.ntmps20 fun Az Hz => ?_
 have hF := hS.f hn
 have hC := ckY hS hk
 have hpt := place_top hS
 have hvp := vol_len hS
 have hvb := hF.bl
 have hc1 := hC.pos
 have hc2 := hC.c256
 have hc3 := hC.fnb
 refine zsr fun K0 hK0 => ?_
 refine plz (e_box Hz m0 40 (cs := [_, _, _, _, _, _, _, _, _, _, _]) rfl rfl rfl fun g1 Az w2 Hz m2 _ _ => ?_)
 refine plz (e_alloc Hz m2 41 fct17 rfl fun g3 Az w4 Hz m4 _ _ => ?_)
 refine gz hK0 Hz (.assign rfl .nil) fun Az Hz => ?_
 refine zsr fun K1 hK1 => ?_
 refine goCh Hz (.loadBR m4 (i := 40) rfl rfl U33 rfl fct1 (by simp) (by dsimp only [List.drop, List.take] <;> rfl) <| .move rfl .nil) fun Az Hz => ?_
 refine plz (ecb Hz Tryz.func47 rfl m4 (rcount_yes _ _ _ _ _ _ _ _ _ _ _ _ y.place _ _ _ _ (k : Int) (fnY y k : Int) (cnY y k : Int) _ ⟨by omega, by omega⟩ hvp.1 hC.fe.symm ⟨by omega, by omega⟩ ⟨by omega, by omega⟩ hC.ce.symm) fun Az w10 Hz m11 => ?_)
 refine gz hK1 Hz (.assign rfl .nil) fun Az Hz => ?_
 refine wsk fun K2 hK2 => ?_
 refine regS Hz (.assign rfl .nil) fun Az Hz => ?_
 refine wp_block ?_
 refine wp_loop_ghost (fun g a w => ∃ (i B5 B10 : Nat), i ≤ L.length ∧ g = L.length - i ∧ (∀ z ∈ L.take i, ¬ PkOk y k a9 b9 z) ∧ Has 70 [(1, .slice pl L.length cl), (2, .int .i64 (k : Int)), (3, .int .i64 a9), (4, .int .i64 b9), (5, .pointer (some ⟨B5, 0, none⟩)), (10, .pointer (some ⟨B10, 0, none⟩)), (12, .int .i64 (cnY y k : Int)), (13, .int .i64 (i : Int))] a ∧ MemOk X w0 [(3, .dat (.slice pw (y.ws.map wrD).length cw) (.l 2 (y.ws.map wrD))), (4, .dat (.slice pl L.length cl) (.l 7 (L.map (ckD y)))), (20, .box B10 28 [.int .i64 0, .int .i64 0, .int .i64 0, .int .i64 0, .int .i64 0, .int .i64 0, .slice none 0 0]), (21, .box B5 33 [.int .i64 y.vo, .int .i64 y.bl, .int .i64 y.sz, .int .i64 y.pe, .slice pp y.place.length cp, .int .i64 y.to, .int .i64 y.ne, .bool y.hi, .int .i64 y.fl, .slice pn nn9 cn9, .slice pw (y.ws.map wrD).length cw])] w) (L.length) ?_ ?_
 · exact ⟨0, _, _, Nat.zero_le _, rfl, (fun z hz => by rw [List.take_zero] at hz; cases hz), Hz.only [1, 2, 3, 4, 5, 10, 12, 13], m11.ren [(3, 3), (4, 4), (20, 41), (21, 40)] (by decide)⟩
 clear Hz m11
 rintro g Az w15 ⟨i, B5, B10, hil, hg, hno, Hz, m15⟩
 refine wsk fun K3 hK3 => ?_
 refine regS Hz (.move rfl <| .move rfl <| .len rfl U23 <| .lss rfl rfl .nil) fun Az Hz => ?_
 refine bc Hz 21 ?_ ?_
 ·
  intro hb20 Hz; try simp only [QQ, Qax] at hb20
  have hi : i < L.length := by have := hb20; first | omega | (simp at this; omega) | (simp at this; exact this)
  obtain ⟨⟨xk, xm⟩, hes⟩ : ∃ e, L[i]? = some e := ⟨_, List.getElem?_eq_getElem hi⟩
  have hxL := hLo _ (List.mem_of_getElem? hes)
  dsimp only at hxL
  refine wct Hz ?_
  refine zss (hK3 _ _ ?_)
  refine wsk fun K4 hK4 => ?_
  refine wp_block ?_
  refine zsr fun K5 hK5 => ?_
  refine goCh Hz (.move rfl <| .move rfl .nil) fun Az Hz => ?_
  obtain ⟨b26, o26, vs26, hp26, hR26, ho26, m26⟩ := m15.openR (i := 4) rfl (i) (r := [.v (.int .i64 y.vo), .v (.int .i64 (xk : Int)), .v (.int .i64 (cnY y xk : Int)), .v (.int .i64 y.sz), .v (.int .i64 (xm : Int)), .v (.int .i64 (min y.fl (xm : Int))), .l 1 ((chN y (fnY y xk) (cnY y xk) xm).map hD)]) (ckD_get hes) 100 rfl
  revert Hz
  cases hp26; clear m15 ho26
  rcases hR26 with _ | ⟨hd26_0, _ | ⟨hd26_1, _ | ⟨hd26_2, _ | ⟨hd26_3, _ | ⟨hd26_4, _ | ⟨hd26_5, _ | ⟨hd26_6, _ | _⟩⟩⟩⟩⟩⟩⟩
  obtain rfl := hd26_0.v_out
  clear hd26_0
  obtain rfl := hd26_1.v_out
  clear hd26_1
  obtain rfl := hd26_2.v_out
  clear hd26_2
  obtain rfl := hd26_3.v_out
  clear hd26_3
  obtain rfl := hd26_4.v_out
  clear hd26_4
  obtain rfl := hd26_5.v_out
  clear hd26_5
  obtain ⟨p27, c27, hv27, hc27⟩ := hd26_6.l_shape; subst hv27
  intro Hz
  have m27 := m26.dat 101 rfl (hd26_6.cast (fun _ h => (free_add rfl h))); clear m26 hd26_6
  refine goCh Hz (.c rfl (fun _ h_ => y_idx h_ rfl rfl U23 fct12 (i) rfl hi) <| .loadCR m27 (i := 100) rfl rfl U28 rfl fct12 .nil) fun Az Hz => ?_
  refine plz (e_alloc Hz m27 102 fct17 rfl fun g30 Az w31 Hz m31 _ _ => ?_)
  refine plz (stw Hz m31 102 fct12 fun w32 m32 _ => ?_)
  refine znl (hK5 _ _ ?_)
  replace Hz := Hz.oz [1, 2, 3, 4, 5, 10, 12, 13, 14]
  refine zsr fun K6 hK6 => ?_
  refine goCh Hz (.move rfl <| .gtr rfl rfl <| .move rfl .nil) fun Az Hz => ?_
  refine bc Hz 30 ?_ ?_
  rotate_left
  · intro hb _; exact absurd hb (by simp; omega)
  clear Hz; intro _ Hz
  refine goCh Hz (.faZ 0 rfl U28 <| .loadB1Z m32 (i := 102) rfl rfl rfl U3 rfl <| .faZ 0 rfl U33 <| .loadB1Z m32 (i := 21) rfl rfl rfl U3 rfl <| .eqlZ rfl rfl <| .pickT rfl rfl <| .move rfl .nil) fun Az Hz => ?_
  refine bc Hz 37 ?_ ?_
  rotate_left
  · intro hb _; exact absurd hb (by simp)
  clear Hz; intro _ Hz
  refine goCh Hz (.faZ 1 rfl U28 <| .loadB1Z m32 (i := 102) rfl rfl rfl U3 rfl <| .moveZ rfl <| .eqlZ rfl rfl <| .pickT rfl rfl <| .move rfl .nil) fun Az Hz => ?_
  refine bc Hz 43 ?_ ?_
  ·
   intro hb55 Hz; try simp only [QQ, Qax] at hb55
   have hk1 : k = xk := by have := hb55; first | omega | (simp at this; omega) | (simp at this; exact this)
   revert Hz
   subst hk1
   intro Hz
   refine goCh Hz (.faZ 2 rfl U28 <| .loadB1Z m32 (i := 102) rfl rfl rfl U3 rfl <| .moveZ rfl <| .eqlZ rfl rfl <| .pickT rfl rfl <| .move rfl .nil) fun Az Hz => ?_
   refine bc Hz 49 ?_ ?_
   rotate_left
   · intro hb _; exact absurd hb (by simp)
   clear Hz; intro _ Hz
   refine goCh Hz (.faZ 3 rfl U28 <| .loadB1Z m32 (i := 102) rfl rfl rfl U3 rfl <| .faZ 2 rfl U33 <| .loadB1Z m32 (i := 21) rfl rfl rfl U3 rfl <| .eqlZ rfl rfl <| .pickT rfl rfl <| .move rfl .nil) fun Az Hz => ?_
   refine bc Hz 56 ?_ ?_
   rotate_left
   · intro hb _; exact absurd hb (by simp)
   clear Hz; intro _ Hz
   refine goCh Hz (.faZ 5 rfl U28 <| .loadB1Z m32 (i := 102) rfl rfl rfl U2 rfl <| .moveZ rfl <| .leqZ rfl rfl <| .pickT rfl rfl <| .move rfl .nil) fun Az Hz => ?_
   refine bc Hz 62 ?_ ?_
   ·
    intro hb77 Hz; try simp only [QQ, Qax] at hb77
    have hfl : min y.fl (xm : Int) ≤ a9 := by have := hb77; first | omega | (simp at this; omega) | (simp at this; exact this)
    refine gz hK6 Hz (.faZ 4 rfl U28 <| .loadB1Z m32 (i := 102) rfl rfl rfl U2 rfl <| .moveZ rfl <| .geqZ rfl rfl <| .pickT rfl rfl <| .nil) fun Az Hz => ?_
    refine bc Hz 67 ?_ ?_
    ·
     intro hb83 Hz; try simp only [QQ, Qax] at hb83
     have hmk : b9 ≤ (xm : Int) := by have := hb83; first | omega | (simp at this; omega) | (simp at this; exact this)
     refine wct Hz ?_
     replace Hz := Hz.oz [1, 2, 3, 4, 5, 10, 12, 13, 14, 28, 67]
     refine zsr fun K7 hK7 => ?_
     refine goCh Hz (.loadBR m32 (i := 102) rfl rfl U28 rfl fct12 (by simp) (by dsimp only [List.drop, List.take] <;> rfl) .nil) fun Az Hz => ?_
     refine plz (stw Hz m32 20 fct12 fun w87 m87 _ => ?_)
     refine gz hK7 Hz (.assign rfl .nil) fun Az Hz => ?_
     refine rtd (retCT (fn := Tryz.f20) Hz m87 (i := 20) rfl rfl rfl rfl U28 rfl fct12 ?_)
     exact .inl ⟨xm, _, _, _, pkF_at hno hes ⟨rfl, hfl, hmk⟩, rfl, m87.ren [(3, 3), (4, 4), (9, 101)] (by decide)⟩
    intro hb83 Hz; try simp only [QQ, Qax] at hb83
    have hmk : ¬ b9 ≤ (xm : Int) := by have := hb83; first | omega | (simp at this; omega) | (simp at this; exact this)
    have hx9 : ¬ PkOk y k a9 b9 (k, xm) := fun h9 => by obtain ⟨h7, h8, h6⟩ := h9; dsimp only at h7 h8 h6; exact hmk h6
    refine wcf Hz ?_
    refine zss (hK4 _ _ ?_)
    replace Hz := Hz.oz [1, 2, 3, 4, 5, 10, 12, 13, 28, 67]
    refine wp_region_lit ?_
    refine goCh Hz (.move rfl <| .inc (i + 1) <| .assign rfl .nil) fun Az Hz => ?_
    refine wpList_nil ?_
    show ∃ n', n' < _ ∧ _
    have hno2 := pk_snoc hno hes hx9
    exact ⟨L.length - (i + 1), by omega, i + 1, _, _, by omega, rfl, hno2, Hz.only [1, 2, 3, 4, 5, 10, 12, 13], m32.ren [(3, 3), (4, 4), (20, 20), (21, 21)] (by decide)⟩
   intro hb77 Hz; try simp only [QQ, Qax] at hb77
   have hfl : ¬ min y.fl (xm : Int) ≤ a9 := by have := hb77; first | omega | (simp at this; omega) | (simp at this; exact this)
   have hx9 : ¬ PkOk y k a9 b9 (k, xm) := fun h9 => by obtain ⟨h7, h8, h6⟩ := h9; dsimp only at h7 h8 h6; exact hfl h8
   refine gz hK6 Hz (.sk <| .sk <| .sk <| .sk <| .pickF rfl rfl <| .nil) fun Az Hz => ?_
   refine wcf Hz ?_
   refine zss (hK4 _ _ ?_)
   replace Hz := Hz.oz [1, 2, 3, 4, 5, 10, 12, 13, 28, 67]
   refine wp_region_lit ?_
   refine goCh Hz (.move rfl <| .inc (i + 1) <| .assign rfl .nil) fun Az Hz => ?_
   refine wpList_nil ?_
   show ∃ n', n' < _ ∧ _
   have hno2 := pk_snoc hno hes hx9
   exact ⟨L.length - (i + 1), by omega, i + 1, _, _, by omega, rfl, hno2, Hz.only [1, 2, 3, 4, 5, 10, 12, 13], m32.ren [(3, 3), (4, 4), (20, 20), (21, 21)] (by decide)⟩
  intro hb55 Hz; try simp only [QQ, Qax] at hb55
  have hk1 : ¬ xk = k := by have := hb55; first | omega | (simp at this; omega) | (simp at this; exact this)
  have hx9 : ¬ PkOk y k a9 b9 (xk, xm) := fun h9 => by obtain ⟨h7, h8, h6⟩ := h9; dsimp only at h7 h8 h6; exact hk1 h7
  refine gz hK6 Hz (.sk <| .sk <| .sk <| .sk <| .pickF rfl rfl <| .move rfl <| .sk <| .sk <| .sk <| .sk <| .sk <| .pickF rfl rfl <| .move rfl <| .sk <| .sk <| .sk <| .sk <| .pickF rfl rfl <| .move rfl <| .sk <| .sk <| .sk <| .sk <| .pickF rfl rfl <| .nil) fun Az Hz => ?_
  refine wcf Hz ?_
  refine zss (hK4 _ _ ?_)
  replace Hz := Hz.oz [1, 2, 3, 4, 5, 10, 12, 13, 28, 67]
  refine wp_region_lit ?_
  refine goCh Hz (.move rfl <| .inc (i + 1) <| .assign rfl .nil) fun Az Hz => ?_
  refine wpList_nil ?_
  show ∃ n', n' < _ ∧ _
  have hno2 := pk_snoc hno hes hx9
  exact ⟨L.length - (i + 1), by omega, i + 1, _, _, by omega, rfl, hno2, Hz.only [1, 2, 3, 4, 5, 10, 12, 13], m32.ren [(3, 3), (4, 4), (20, 20), (21, 21)] (by decide)⟩
 intro hb20 Hz; try simp only [QQ, Qax] at hb20
 obtain rfl : i = L.length := by have := hb20; first | omega | (simp at this; omega) | (simp at this; exact this)
 refine wcf Hz ?_
 refine wp_exit ?_
 refine hK2 _ _ ?_
 refine zsr fun K8 hK8 => ?_
 refine goCh Hz (.build rfl fct17 fl28grp rfl (by dsimp only [setL, List.set] <;> rfl) .nil) fun Az Hz => ?_
 refine plz (stw Hz m15 20 fct12 fun w132 m132 _ => ?_)
 refine gz hK8 Hz (.assign rfl .nil) fun Az Hz => ?_
 refine rtd (retCT (fn := Tryz.f20) Hz m132 (i := 20) rfl rfl rfl rfl U28 rfl fct12 ?_)
 exact .inr ⟨pkF_no (by rw [List.take_length] at hno; exact hno), rfl, m132.only [3, 4]⟩
theorem erpick_one (X : Cx) (y : VolV) (n : Nat) (hS : VolS n y) (hn : n ≤ 1000) (pp pn pw : Option Addr) (cp nn9 cn9 cw : Nat) (L : List (Nat × Nat)) (pl : Option Addr) (cl : Nat) (k m : Nat) (a9 b9 : Int) (w0 : World) (hL : L.length ≤ 1000000) (hLo : ∀ x ∈ L, x.1 < y.place.length ∧ x.2 ≤ y.ws.length) (hk : k < y.place.length) (hf : pkF y L k a9 b9 = some (k, m)) (m0 : MemOk X w0 [(3, .dat (.slice pw (y.ws.map wrD).length cw) (.l 2 (y.ws.map wrD))), (4, .dat (.slice pl L.length cl) (.l 7 (L.map (ckD y))))] w0) :
   Calls Tryz.prog 20 #[.agg #[.int .i64 y.vo, .int .i64 y.bl, .int .i64 y.sz, .int .i64 y.pe, .slice pp y.place.length cp, .int .i64 y.to, .int .i64 y.ne, .bool y.hi, .int .i64 y.fl, .slice pn nn9 cn9, .slice pw (y.ws.map wrD).length cw], .slice pl L.length cl, .int .i64 (k : Int), .int .i64 a9, .int .i64 b9] w0 fun e w' => ∃ (p9 : Option Addr) (n9 c9 : Nat), e = .returned (.tuple #[.agg #[.int .i64 y.vo, .int .i64 (k : Int), .int .i64 (cnY y k : Int), .int .i64 y.sz, .int .i64 (m : Int), .int .i64 (min y.fl (m : Int)), .slice p9 n9 c9], .bool true]) ∧ MemOk X w0 [(3, .dat (.slice pw (y.ws.map wrD).length cw) (.l 2 (y.ws.map wrD))), (4, .dat (.slice pl L.length cl) (.l 7 (L.map (ckD y)))), (9, .dat (.slice p9 n9 c9) (.l 1 ((chN y (fnY y k) (cnY y k) m).map hD)))] w' := by
 refine (erpick_f X y n hS hn pp pn pw cp nn9 cn9 cw L pl cl k a9 b9 w0 hL hLo hk m0).mono fun e w' h => ?_
 rcases h with ⟨m2, p9, n9, c9, h1, h2, h3⟩ | ⟨h1, -⟩
 · rw [hf] at h1
   obtain rfl : m = m2 := by injection h1 with h4; injection h4
   exact ⟨p9, n9, c9, h2, h3⟩
 rw [hf] at h1; cases h1
theorem erpick_none (X : Cx) (y : VolV) (n : Nat) (hS : VolS n y) (hn : n ≤ 1000) (pp pn pw : Option Addr) (cp nn9 cn9 cw : Nat) (L : List (Nat × Nat)) (pl : Option Addr) (cl : Nat) (k : Nat) (a9 b9 : Int) (w0 : World) (hL : L.length ≤ 1000000) (hLo : ∀ x ∈ L, x.1 < y.place.length ∧ x.2 ≤ y.ws.length) (hk : k < y.place.length) (hf : pkF y L k a9 b9 = none) (m0 : MemOk X w0 [(3, .dat (.slice pw (y.ws.map wrD).length cw) (.l 2 (y.ws.map wrD))), (4, .dat (.slice pl L.length cl) (.l 7 (L.map (ckD y))))] w0) :
   Calls Tryz.prog 20 #[.agg #[.int .i64 y.vo, .int .i64 y.bl, .int .i64 y.sz, .int .i64 y.pe, .slice pp y.place.length cp, .int .i64 y.to, .int .i64 y.ne, .bool y.hi, .int .i64 y.fl, .slice pn nn9 cn9, .slice pw (y.ws.map wrD).length cw], .slice pl L.length cl, .int .i64 (k : Int), .int .i64 a9, .int .i64 b9] w0 fun e w' => e = .returned (.tuple #[.agg #[.int .i64 0, .int .i64 0, .int .i64 0, .int .i64 0, .int .i64 0, .int .i64 0, .slice none 0 0], .bool false]) ∧ MemOk X w0 [(3, .dat (.slice pw (y.ws.map wrD).length cw) (.l 2 (y.ws.map wrD))), (4, .dat (.slice pl L.length cl) (.l 7 (L.map (ckD y))))] w' := by
 refine (erpick_f X y n hS hn pp pn pw cp nn9 cn9 cw L pl cl k a9 b9 w0 hL hLo hk m0).mono fun e w' h => ?_
 rcases h with ⟨m2, p9, n9, c9, h1, h2, h3⟩ | ⟨-, h2, h3⟩
 · rw [hf] at h1; cases h1
 exact ⟨h2, h3⟩
theorem erpick_yes (X : Cx) (y : VolV) (n : Nat) (hS : VolS n y) (hn : n ≤ 1000) (pp pn pw : Option Addr) (cp nn9 cn9 cw : Nat) (L : List (Nat × Nat)) (pl : Option Addr) (cl : Nat) (k : Nat) (a9 b9 : Int) (w0 : World) (hL : L.length ≤ 1000000) (hLo : ∀ x ∈ L, x.1 < y.place.length ∧ x.2 ≤ y.ws.length) (hk : k < y.place.length) (hin : ∃ m, (k, m) ∈ L ∧ min y.fl (m : Int) ≤ a9 ∧ b9 ≤ (m : Int)) (m0 : MemOk X w0 [(3, .dat (.slice pw (y.ws.map wrD).length cw) (.l 2 (y.ws.map wrD))), (4, .dat (.slice pl L.length cl) (.l 7 (L.map (ckD y))))] w0) :
   Calls Tryz.prog 20 #[.agg #[.int .i64 y.vo, .int .i64 y.bl, .int .i64 y.sz, .int .i64 y.pe, .slice pp y.place.length cp, .int .i64 y.to, .int .i64 y.ne, .bool y.hi, .int .i64 y.fl, .slice pn nn9 cn9, .slice pw (y.ws.map wrD).length cw], .slice pl L.length cl, .int .i64 (k : Int), .int .i64 a9, .int .i64 b9] w0 fun e w' => ∃ (m : Nat) (p9 : Option Addr) (n9 c9 : Nat), PkOk y k a9 b9 (k, m) ∧ (k, m) ∈ L ∧ e = .returned (.tuple #[.agg #[.int .i64 y.vo, .int .i64 (k : Int), .int .i64 (cnY y k : Int), .int .i64 y.sz, .int .i64 (m : Int), .int .i64 (min y.fl (m : Int)), .slice p9 n9 c9], .bool true]) ∧ MemOk X w0 [(3, .dat (.slice pw (y.ws.map wrD).length cw) (.l 2 (y.ws.map wrD))), (4, .dat (.slice pl L.length cl) (.l 7 (L.map (ckD y)))), (9, .dat (.slice p9 n9 c9) (.l 1 ((chN y (fnY y k) (cnY y k) m).map hD)))] w' := by
 refine (erpick_f X y n hS hn pp pn pw cp nn9 cn9 cw L pl cl k a9 b9 w0 hL hLo hk m0).mono fun e w' h => ?_
 rcases h with ⟨m, p9, n9, c9, h1, h2, h3⟩ | ⟨h1, -⟩
 · exact ⟨m, p9, n9, c9, (pkF_some h1).1, (pkF_some h1).2, h2, h3⟩
 obtain ⟨m, h4, h5, h6⟩ := hin
 exact absurd ⟨rfl, h5, h6⟩ (pkF_none h1 _ h4)
theorem etaken_x (X : Cx) (y : VolV) (n : Nat) (hS : VolS n y) (hn : n ≤ 1000) (pp pn pw : Option Addr) (cp nn9 cn9 cw : Nat) (L : List (Nat × Nat)) (pl : Option Addr) (cl : Nat) (f9 t9 : Int) (fb : Bool) (w0 : World) (hL : L.length ≤ 1000000) (hLo : ∀ x ∈ L, x.1 < y.place.length ∧ x.2 ≤ y.ws.length) (m0 : MemOk X w0 [(3, .dat (.slice pw (y.ws.map wrD).length cw) (.l 2 (y.ws.map wrD))), (4, .dat (.slice pl L.length cl) (.l 7 (L.map (ckD y))))] w0) :
   Calls Tryz.prog 41 #[.agg #[.int .i64 y.vo, .int .i64 y.bl, .int .i64 y.sz, .int .i64 y.pe, .slice pp y.place.length cp, .int .i64 y.to, .int .i64 y.ne, .bool y.hi, .int .i64 y.fl, .slice pn nn9 cn9, .slice pw (y.ws.map wrD).length cw], .slice pl L.length cl, .int .i64 f9, .int .i64 t9, .bool fb] w0 fun e w' => ∃ (T : (Int × Int × Int × Int × Int × List (Int × List Int))) (p9 : Option Addr) (c9 : Nat), TakG y L fb f9 t9 T ∧ e = .returned (.tuple #[.agg #[.int .i64 T.2.1, .int .i64 T.2.2.1, .int .i64 T.2.2.2.1, .int .i64 T.2.2.2.2.1, .slice p9 (T.2.2.2.2.2.map itD).length c9], .int .i64 T.1]) ∧ MemOk X w0 [(3, .dat (.slice pw (y.ws.map wrD).length cw) (.l 2 (y.ws.map wrD))), (4, .dat (.slice pl L.length cl) (.l 7 (L.map (ckD y)))), (9, .dat (.slice p9 (T.2.2.2.2.2.map itD).length c9) (.l 2 (T.2.2.2.2.2.map itD)))] w' := by
 refine ent5 Tryz.func41 rfl Tryz.ntmps41 fun Az Hz => ?_
 have hF := hS.f hn
 have hpt := place_top hS
 have hvp := vol_len hS
 have hf0 := hF.fl0
 have hwl := hF.wl
 refine zsr fun K0 hK0 => ?_
 refine plz (e_box Hz m0 60 (cs := [_, _, _, _, _, _, _, _, _, _, _]) rfl rfl rfl fun g1 Az w2 Hz m2 _ _ => ?_)
 refine plz (e_alloc Hz m2 61 fct33 rfl fun g3 Az w4 Hz m4 _ _ => ?_)
 refine gz hK0 Hz (.assign rfl .nil) fun Az Hz => ?_
 refine wsk fun K1 hK1 => ?_
 refine wp_block ?_
 refine regS Hz (.fa 7 rfl U33 <| .lb m4 60 U4 rfl rfl rfl <| .assign rfl .nil) fun Az Hz => ?_
 refine bc Hz 19 ?_ ?_
 ·
  intro hb9 Hz; try simp only [QQ, Qax] at hb9
  have hhi : y.hi = true := hb9
  refine wct Hz ?_
  refine zsr fun K2 hK2 => ?_
  refine goCh Hz (.build rfl fct33 fl42grt rfl (by dsimp only [setL, List.set] <;> rfl) .nil) fun Az Hz => ?_
  refine plz (stw Hz m4 61 fct32 fun w12 m12 _ => ?_)
  refine gz hK2 Hz (.assign rfl .nil) fun Az Hz => ?_
  refine rtd (retCT (fn := Tryz.f41) Hz m12 (i := 61) rfl rfl rfl rfl U42 rfl fct32 ?_)
  have mA := m12.dat 91 rfl (Rd.l0 none 0 2)
  exact ⟨(28, 0, 0, 0, 0, []), _, _, .inl ⟨hhi, rfl⟩, rfl, mA.ren [(3, 3), (4, 4), (9, 91)] (by decide)⟩
 intro hb9 Hz; try simp only [QQ, Qax] at hb9
 have hhi : y.hi = false := hb9
 refine wcf Hz ?_
 refine regS Hz (.move rfl <| .move rfl <| .gtr rfl rfl <| .assign rfl .nil) fun Az Hz => ?_
 refine bc Hz 23 ?_ ?_
 ·
  intro hb18 Hz; try simp only [QQ, Qax] at hb18
  have hft : t9 < f9 := by have := hb18; first | omega | (simp at this; omega) | (simp at this; exact this)
  refine wct Hz ?_
  replace Hz := Hz.oz [1, 2, 3, 4, 5, 10, 11, 19, 23]
  refine zsr fun K3 hK3 => ?_
  refine goCh Hz (.build rfl fct33 fl42grt rfl (by dsimp only [setL, List.set] <;> rfl) .nil) fun Az Hz => ?_
  refine plz (stw Hz m4 61 fct32 fun w22 m22 _ => ?_)
  refine gz hK3 Hz (.assign rfl .nil) fun Az Hz => ?_
  refine rtd (retCT (fn := Tryz.f41) Hz m22 (i := 61) rfl rfl rfl rfl U42 rfl fct32 ?_)
  have mA := m22.dat 91 rfl (Rd.l0 none 0 2)
  exact ⟨(23, 0, 0, 0, 0, []), _, _, .inr (.inl ⟨hhi, hft, rfl⟩), rfl, mA.ren [(3, 3), (4, 4), (9, 91)] (by decide)⟩
 intro hb18 Hz; try simp only [QQ, Qax] at hb18
 have hft : f9 ≤ t9 := by have := hb18; first | omega | (simp at this; omega) | (simp at this; exact this)
 refine wcf Hz ?_
 replace Hz := Hz.oz [1, 2, 3, 4, 5, 10, 11, 19, 23]
 refine regS Hz (.move rfl <| .fa 8 rfl U33 <| .lb m4 60 U2 rfl rfl rfl <| .lss rfl rfl <| .assign rfl .nil) fun Az Hz => ?_
 refine bc Hz 28 ?_ ?_
 ·
  intro hb30 Hz; try simp only [QQ, Qax] at hb30
  have hfl9 : f9 < y.fl := by have := hb30; first | omega | (simp at this; omega) | (simp at this; exact this)
  refine wct Hz ?_
  refine zsr fun K4 hK4 => ?_
  refine goCh Hz (.build rfl fct33 fl42grt rfl (by dsimp only [setL, List.set] <;> rfl) .nil) fun Az Hz => ?_
  refine plz (stw Hz m4 61 fct32 fun w33 m33 _ => ?_)
  refine gz hK4 Hz (.assign rfl .nil) fun Az Hz => ?_
  refine rtd (retCT (fn := Tryz.f41) Hz m33 (i := 61) rfl rfl rfl rfl U42 rfl fct32 ?_)
  have mA := m33.dat 91 rfl (Rd.l0 none 0 2)
  exact ⟨(30, 0, 0, 0, 0, []), _, _, .inr (.inr (.inl ⟨hhi, hft, hfl9, rfl⟩)), rfl, mA.ren [(3, 3), (4, 4), (9, 91)] (by decide)⟩
 intro hb30 Hz; try simp only [QQ, Qax] at hb30
 have hfl9 : y.fl ≤ f9 := by have := hb30; first | omega | (simp at this; omega) | (simp at this; exact this)
 refine wcf Hz ?_
 refine zsr fun K5 hK5 => ?_
 refine goCh Hz (.move rfl <| .loadBR m4 (i := 60) rfl rfl U33 rfl fct1 (by simp) (by dsimp only [List.drop, List.take] <;> rfl) .nil) fun Az Hz => ?_
 refine plz (ecb Hz Tryz.func13 rfl m4 (rlen_y y _ _ _ _ _ _ _ _ _) fun Az w39 Hz m40 => ?_)
 refine gz hK5 Hz (.gtr rfl rfl <| .assign rfl <| .nil) fun Az Hz => ?_
 refine bc Hz 34 ?_ ?_
 ·
  intro hb44 Hz; try simp only [QQ, Qax] at hb44
  have hlt : (y.ws.length : Int) < t9 := by have := hb44; first | omega | (simp at this; omega) | (simp at this; exact this)
  refine wct Hz ?_
  replace Hz := Hz.oz [1, 2, 3, 4, 5, 10, 11, 19, 23, 28, 34]
  refine zsr fun K6 hK6 => ?_
  refine goCh Hz (.build rfl fct33 fl42grt rfl (by dsimp only [setL, List.set] <;> rfl) .nil) fun Az Hz => ?_
  refine plz (stw Hz m40 61 fct32 fun w48 m48 _ => ?_)
  refine gz hK6 Hz (.assign rfl .nil) fun Az Hz => ?_
  refine rtd (retCT (fn := Tryz.f41) Hz m48 (i := 61) rfl rfl rfl rfl U42 rfl fct32 ?_)
  have mA := m48.dat 91 rfl (Rd.l0 none 0 2)
  exact ⟨(31, 0, 0, 0, 0, []), _, _, .inr (.inr (.inr (.inl ⟨hhi, hft, hfl9, hlt, rfl⟩))), rfl, mA.ren [(3, 3), (4, 4), (9, 91)] (by decide)⟩
 intro hb44 Hz; try simp only [QQ, Qax] at hb44
 have hlt : t9 ≤ (y.ws.length : Int) := by have := hb44; first | omega | (simp at this; omega) | (simp at this; exact this)
 obtain ⟨tn, htn⟩ : ∃ tn : Nat, t9 = (tn : Int) := ⟨t9.toNat, by omega⟩
 obtain ⟨S, hS9⟩ : ∃ S, stL y.bl y.sz y.ws tn = S := ⟨_, rfl⟩
 refine wcf Hz ?_
 refine zss (hK1 _ _ ?_)
 replace Hz := Hz.oz [1, 2, 3, 4, 5, 10, 11, 19, 23, 28, 34]
 refine zsr fun K7 hK7 => ?_
 refine goCh Hz (.fa 1 rfl U33 <| .lb m40 60 U3 rfl rfl rfl <| .fa 2 rfl U33 <| .lb m40 60 U3 rfl rfl rfl <| .move rfl <| .move rfl <| .build rfl fct33 fl42grt rfl (by dsimp only [setL, List.set] <;> rfl) .nil) fun Az Hz => ?_
 refine plz (e_alloc Hz m40 62 fct33 rfl fun g65 Az w66 Hz m66 _ _ => ?_)
 refine plz (stw Hz m66 62 fct32 fun w67 m67 _ => ?_)
 refine znl (hK7 _ _ ?_)
 refine wsk fun K8 hK8 => ?_
 have hC8 : ∀ (a : Act) (w : World), (∃ (FR : Int) (B5 B10 B12 : Nat), FR = (if fb = true then -1 else f9) ∧ Has 107 [(1, .slice pl L.length cl), (2, .int .i64 f9), (3, .int .i64 t9), (4, .bool fb), (5, .pointer (some ⟨B5, 0, none⟩)), (10, .pointer (some ⟨B10, 0, none⟩)), (12, .pointer (some ⟨B12, 0, none⟩))] a ∧ MemOk X w0 [(3, .dat (.slice pw (y.ws.map wrD).length cw) (.l 2 (y.ws.map wrD))), (4, .dat (.slice pl L.length cl) (.l 7 (L.map (ckD y)))), (20, .box B5 33 [.int .i64 y.vo, .int .i64 y.bl, .int .i64 y.sz, .int .i64 y.pe, .slice pp y.place.length cp, .int .i64 y.to, .int .i64 y.ne, .bool y.hi, .int .i64 y.fl, .slice pn nn9 cn9, .slice pw (y.ws.map wrD).length cw]), (21, .box B10 42 [.int .i64 0, .int .i64 0, .int .i64 0, .int .i64 0, .slice none 0 0]), (22, .box B12 42 [.int .i64 y.bl, .int .i64 y.sz, .int .i64 FR, .int .i64 t9, .slice none 0 0])] w) → K8 a w := by
   clear Hz m67
   rintro Az w68 ⟨FR, B5, B10, B12, hFR, Hz, m68⟩
   refine hK8 _ _ ?_
   refine wsk fun K9 hK9 => ?_
   refine regS Hz (.assign rfl .nil) fun Az Hz => ?_
   refine wp_block ?_
   refine wp_loop_ghost (fun g a w => ∃ (i : Nat) (B5 B10 B12 : Nat) (p9 : Option Addr) (c9 : Nat), i ≤ y.place.length ∧ g = y.place.length - i ∧ (∀ k, k < i → ∃ m, (k, m) ∈ L ∧ min y.fl (m : Int) ≤ f9 ∧ t9 ≤ (m : Int)) ∧ Has 107 [(1, .slice pl L.length cl), (2, .int .i64 f9), (3, .int .i64 t9), (4, .bool fb), (5, .pointer (some ⟨B5, 0, none⟩)), (10, .pointer (some ⟨B10, 0, none⟩)), (12, .pointer (some ⟨B12, 0, none⟩)), (13, .int .i64 (i : Int))] a ∧ MemOk X w0 [(3, .dat (.slice pw (y.ws.map wrD).length cw) (.l 2 (y.ws.map wrD))), (4, .dat (.slice pl L.length cl) (.l 7 (L.map (ckD y)))), (20, .box B5 33 [.int .i64 y.vo, .int .i64 y.bl, .int .i64 y.sz, .int .i64 y.pe, .slice pp y.place.length cp, .int .i64 y.to, .int .i64 y.ne, .bool y.hi, .int .i64 y.fl, .slice pn nn9 cn9, .slice pw (y.ws.map wrD).length cw]), (21, .box B10 42 [.int .i64 0, .int .i64 0, .int .i64 0, .int .i64 0, .slice none 0 0]), (22, .box B12 42 [.int .i64 y.bl, .int .i64 y.sz, .int .i64 FR, .int .i64 t9, .slice p9 ((selI S (fun b => fb || chgB y f9 t9 b) (enY y i)).map itD).length c9]), (23, .row (.slice p9 ((selI S (fun b => fb || chgB y f9 t9 b) (enY y i)).map itD).length c9) 111 2 ((selI S (fun b => fb || chgB y f9 t9 b) (enY y i)).map itD))] w) (y.place.length) ?_ ?_
   · have hE0 : selI S (fun b => fb || chgB y f9 t9 b) (enY y 0) = [] := by rw [en_zero hS]; rfl
     have mz := m68.nilR 23 111 2
     exact ⟨0, _, _, _, _, _, Nat.zero_le _, rfl, (fun k hk => by omega), Hz.only [1, 2, 3, 4, 5, 10, 12, 13], by rw [hE0]; exact mz.ren [(3, 3), (4, 4), (20, 20), (21, 21), (22, 22), (23, 23)] (by decide)⟩
   clear Hz m68
   rintro g Az w70 ⟨i, B5, B10, B12, p9, c9, hil, hg, hpa, Hz, m70⟩
   refine wsk fun K10 hK10 => ?_
   refine regS Hz (.move rfl <| .fa 4 rfl U33 <| .lb m70 20 U29 rfl rfl rfl <| .len rfl U29 <| .lss rfl rfl .nil) fun Az Hz => ?_
   refine bc Hz 53 ?_ ?_
   ·
    intro hb76 Hz; try simp only [QQ, Qax] at hb76
    have hi : i < y.place.length := by have := hb76; first | omega | (simp at this; omega) | (simp at this; exact this)
    refine wct Hz ?_
    refine zss (hK10 _ _ ?_)
    refine wsk fun K11 hK11 => ?_
    refine wp_block ?_
    refine wsk fun K12 hK12 => ?_
    by_cases hpk9 : ∃ m, (i, m) ∈ L ∧ min y.fl (m : Int) ≤ f9 ∧ t9 ≤ (m : Int)
    ·
     refine wp_region_lit ?_
     refine goCh Hz (.loadBR m70 (i := 20) rfl rfl U33 rfl fct1 (by simp) (by dsimp only [List.drop, List.take] <;> rfl) <| .move rfl <| .move rfl <| .move rfl <| .move rfl .nil) fun Az Hz => ?_
     refine plz (ecl Hz Tryz.func20 rfl (erpick_yes _ y n hS hn _ _ _ _ _ _ _ L _ _ i f9 t9 _ hL hLo hi hpk9 (m70.into [(3, 3), (4, 4)] (by decide) rfl)) ?_)
     rintro e w82 ⟨xm, p82, n82, c82, hpk, hxL, rfl, hm82⟩
     have mx82 := m70.back hm82 [(3, 3), (4, 4), (200, 9)] (by decide); clear hm82 m70
     have m82 := mx82.oz [3, 4, 200, 20, 21, 22, 23]
     refine ⟨_, rfl, ?_⟩; intro Az Hz
     obtain rfl : n82 = cnY y i := by have h9 := nnOf (m82.rd (i := 200) rfl); rw [chN_len] at h9; exact h9
     have hxm := (hLo _ hxL).2
     dsimp only at hxm
     obtain ⟨-, hxf, hxt⟩ := hpk
     dsimp only at hxf hxt
     have hfn := (ckY hS hi).fnb
     have hcn := (ckY hS hi).c256
     refine goCh Hz (.move rfl <| .extract rfl rfl <| .extract rfl rfl .nil) fun Az Hz => ?_
     refine plz (e_alloc Hz m82 201 fct17 rfl fun g87 Az w88 Hz m88 _ _ => ?_)
     refine plz (stw Hz m88 201 fct12 fun w89 m89 _ => ?_)
     refine gz hK12 Hz (.assign rfl .nil) fun Az Hz => ?_
     refine wsk fun K13 hK13 => ?_
     replace Hz := Hz.oz [1, 2, 3, 4, 5, 10, 12, 13, 14, 15]
     refine regS Hz (.move rfl <| .not rfl .nil) fun Az Hz => ?_
     refine wcf Hz ?_
     refine zss (hK13 _ _ ?_)
     refine regS Hz (.assign rfl .nil) fun Az Hz => ?_
     refine wp_block ?_
     have hE0 : ((selI S (fun b => fb || chgB y f9 t9 b) (enY y i)).map itD) = ((selI S (fun b => fb || chgB y f9 t9 b) (fnY y i + 0)).map itD) := by rw [en_fn hS hi]; rfl
     rw [hE0] at m89
     refine wp_loop_ghost (fun g a w => ∃ (j B14 : Nat) (B5 B10 B12 : Nat) (p9 : Option Addr) (c9 : Nat) (pc : Option Addr) (cc : Nat), j ≤ cnY y i ∧ g = cnY y i - j ∧ Has 107 [(1, .slice pl L.length cl), (2, .int .i64 f9), (3, .int .i64 t9), (4, .bool fb), (5, .pointer (some ⟨B5, 0, none⟩)), (10, .pointer (some ⟨B10, 0, none⟩)), (12, .pointer (some ⟨B12, 0, none⟩)), (13, .int .i64 (i : Int)), (14, .pointer (some ⟨B14, 0, none⟩)), (16, .int .i64 (j : Int))] a ∧ MemOk X w0 [(3, .dat (.slice pw (y.ws.map wrD).length cw) (.l 2 (y.ws.map wrD))), (4, .dat (.slice pl L.length cl) (.l 7 (L.map (ckD y)))), (20, .box B5 33 [.int .i64 y.vo, .int .i64 y.bl, .int .i64 y.sz, .int .i64 y.pe, .slice pp y.place.length cp, .int .i64 y.to, .int .i64 y.ne, .bool y.hi, .int .i64 y.fl, .slice pn nn9 cn9, .slice pw (y.ws.map wrD).length cw]), (21, .box B10 42 [.int .i64 0, .int .i64 0, .int .i64 0, .int .i64 0, .slice none 0 0]), (22, .box B12 42 [.int .i64 y.bl, .int .i64 y.sz, .int .i64 FR, .int .i64 t9, .slice p9 ((selI S (fun b => fb || chgB y f9 t9 b) (fnY y i + j)).map itD).length c9]), (23, .row (.slice p9 ((selI S (fun b => fb || chgB y f9 t9 b) (fnY y i + j)).map itD).length c9) 111 2 ((selI S (fun b => fb || chgB y f9 t9 b) (fnY y i + j)).map itD)), (24, .box B14 28 [.int .i64 y.vo, .int .i64 (i : Int), .int .i64 (cnY y i : Int), .int .i64 y.sz, .int .i64 (xm : Int), .int .i64 (min y.fl (xm : Int)), .slice pc (cnY y i) cc]), (25, .dat (.slice pc (cnY y i) cc) (.l 1 ((chN y (fnY y i) (cnY y i) xm).map hD)))] w) (cnY y i) ?_ ?_
     · exact ⟨0, _, _, _, _, _, _, _, _, Nat.zero_le _, rfl, Hz.only [1, 2, 3, 4, 5, 10, 12, 13, 14, 16], m89.ren [(3, 3), (4, 4), (20, 20), (21, 21), (22, 22), (23, 23), (24, 201), (25, 200)] (by decide)⟩
     clear Hz m89
     rintro g Az w95 ⟨j, B14, B5, B10, B12, p9, c9, pc, cc, hjl, hg2, Hz, m95⟩
     refine wsk fun K14 hK14 => ?_
     refine regS Hz (.move rfl <| .fa 6 rfl U28 <| .lb m95 24 U26 rfl rfl rfl <| .len rfl U26 <| .lss rfl rfl .nil) fun Az Hz => ?_
     refine bc Hz 72 ?_ ?_
     ·
      intro hb101 Hz; try simp only [QQ, Qax] at hb101
      have hj : j < cnY y i := by have := hb101; first | omega | (simp at this; omega) | (simp at this; exact this)
      obtain ⟨hh9, hesh⟩ : ∃ x, (chN y (fnY y i) (cnY y i) xm)[j]? = some x := ⟨_, List.getElem?_eq_getElem (by rw [chN_len]; exact hj)⟩
      have hhb := (chu_hb (fi := (fnY y i : Int)) (fl := min y.fl (xm : Int)) (cnt := cnY y i) (m := xm) hF.wr hF.sz.2 (by omega)).at (List.mem_of_getElem? hesh)
      have hhr := hhb.1
      have hhl := hhb.2.1
      have hch9 : chgF hh9 f9 t9 = chgB y f9 t9 (fnY y i + j) := by rw [← chg_at hF hxm hxf hxt hfl9 hj, List.getD, hesh]; rfl
      refine wct Hz ?_
      refine zss (hK14 _ _ ?_)
      refine wsk fun K15 hK15 => ?_
      refine wp_block ?_
      refine zsr fun K16 hK16 => ?_
      refine goCh Hz (.move rfl <| .move rfl .nil) fun Az Hz => ?_
      refine bc Hz 76 ?_ ?_
      ·
       intro hb106 Hz; try simp only [QQ, Qax] at hb106
       have hfb : fb = true := hb106
       have hPj : (fun b => fb || chgB y f9 t9 b) (fnY y i + j) = true := by show (fb || _) = true; rw [hfb]; rfl
       refine gz hK16 Hz (.sk <| .sk <| .sk <| .sk <| .sk <| .sk <| .sk <| .sk <| .pickT rfl rfl <| .nil) fun Az Hz => ?_
       refine wct Hz ?_
       replace Hz := Hz.oz [1, 2, 3, 4, 5, 10, 12, 13, 14, 16, 85]
       refine zsr fun K17 hK17 => ?_
       refine goCh Hz (.loadBR m95 (i := 24) rfl rfl U28 rfl fct12 (by simp) (by dsimp only [List.drop, List.take] <;> rfl) <| .move rfl <| .move rfl .nil) fun Az Hz => ?_
       refine plz (ecl Hz Tryz.func72 rfl (zread_n _ y i _ _ xm (ckY hS hi) hF hxm j tn _ _ _ t9 _ S hS9 htn hj (by omega) hxt (m95.into [(1, 25)] (by decide) rfl)) ?_)
       rintro e w123 ⟨p123, c123, rfl, hm123⟩
       have mx123 := m95.back hm123 [(25, 1), (300, 9)] (by decide); clear hm123 m95
       have m123 := mx123.oz [25, 300, 3, 4, 20, 21, 22, 23, 24]
       refine ⟨_, rfl, ?_⟩; intro Az Hz
       refine gz hK17 Hz (.move rfl <| .extract rfl rfl <| .extract rfl rfl <| .assign rfl <| .assign rfl <| .nil) fun Az Hz => ?_
       replace Hz := Hz.oz [1, 2, 3, 4, 5, 10, 12, 13, 14, 16, 85, 17]
       refine wp_region_lit ?_
       refine goCh Hz (.fa 4 rfl U42 <| .lb m123 22 U40 rfl rfl rfl <| .move rfl <| .fa 3 rfl U33 <| .lb m123 20 U3 rfl rfl rfl <| .mul rfl rfl (r := ((fnY y i : Nat) : Int)) (by rw [← (ckY hS hi).fe]; exact IntWalk.i64_in _ (by omega)) <| .move rfl <| .add rfl rfl (r := ((fnY y i + j : Nat) : Int)) (by rw [IntWalk.i64_in _ (by omega)]; omega) <| .move rfl <| .build rfl fct25 fl111grt rfl (by dsimp only [setL, List.set] <;> rfl) .nil) fun Az Hz => ?_
       refine plz (e_litR Hz m123 301 (mm := 2) rfl (.cons rfl rfl (.cons (.v _) (.cons (m123.rd (i := 300) rfl) .nil)) .nil) U40 fct24 rfl rfl rfl rfl rfl fun g141 Az w142 Hz m142 => ?_)
       have m144 := m142.freezeR 301 rfl
       refine plz (e_appR Hz m144 23 rfl rfl rfl (m144.rd (i := 301) rfl) U40 fct24 rfl rfl (by decide) (by have h8 := selI_len S (fun b => fb || chgB y f9 t9 b) (fnY y i + j); simp; omega) rfl fun p143 c143 Az w145 Hz m145 => ?_)
       refine goCh Hz (.fieldAddr (off := 4) rfl U42 rfl (s := 0) (by kernel_rfl) rfl .nil) fun Az Hz => ?_
       refine plz (st1 Hz m145 22 fct31 fun w147 m147 _ => ?_)
       refine znl (hK15 _ _ ?_)
       replace Hz := Hz.oz [1, 2, 3, 4, 5, 10, 12, 13, 14, 16, 85]
       refine wp_region_lit ?_
       refine goCh Hz (.move rfl <| .inc (j + 1) <| .assign rfl .nil) fun Az Hz => ?_
       refine wpList_nil ?_
       show ∃ n', n' < _ ∧ _
       have hE2 : ((selI S (fun b => fb || chgB y f9 t9 b) (fnY y i + j)).map itD) ++ [[D.v (.int .i64 ((fnY y i + j : Nat) : Int)), .ns .u8 (S.getD (fnY y i + j) [])]] = ((selI S (fun b => fb || chgB y f9 t9 b) (fnY y i + (j + 1))).map itD) := by rw [← Nat.add_assoc, selI_succ, if_pos hPj, List.map_append]; rfl
       rw [hE2] at m147
       exact ⟨cnY y i - (j + 1), by omega, j + 1, _, _, _, _, _, _, _, _, by omega, rfl, Hz.only [1, 2, 3, 4, 5, 10, 12, 13, 14, 16], m147.ren [(3, 3), (4, 4), (20, 20), (21, 21), (22, 22), (23, 23), (24, 24), (25, 25)] (by decide)⟩
      intro hb106 Hz; try simp only [QQ, Qax] at hb106
      have hfb : fb = false := hb106
      refine goCh Hz (.faZ 6 rfl U28 <| .loadB1Z m95 (i := 24) rfl rfl rfl U26 rfl <| .moveZ rfl .nil) fun Az Hz => ?_
      obtain ⟨b155, o155, vs155, hp155, hR155, ho155, m155⟩ := m95.openR (i := 25) rfl (j) (r := [.l 2 (hh9.map itD)]) (hD_get hesh) 300 rfl
      revert Hz
      cases hp155; clear m95 ho155
      rcases hR155 with _ | ⟨hd155_0, _ | _⟩
      obtain ⟨p156, c156, hv156, hc156⟩ := hd155_0.l_shape; subst hv156
      intro Hz
      have m156 := m155.dat 301 rfl (hd155_0.cast (fun _ h => (free_add rfl h))); clear m155 hd155_0
      refine goCh Hz (.g rfl rfl rfl rfl (fun _ h_ => y_idx h_ rfl rfl U26 fct13 (j) rfl hj) <| .loadC0Z m156 (i := 300) rfl rfl U69 rfl <| .moveZ rfl <| .moveZ rfl .nil) fun Az Hz => ?_
      refine stz Hz (ecl Hz Tryz.func71 rfl (erchg_x _ hh9 f9 t9 _ _ _ _ (by omega) hhr (m156.into [(1, 301)] (by decide) rfl)) ?_)
      rintro e w161 ⟨rfl, hm161⟩
      have mx161 := m156.back hm161 [(301, 1)] (by decide); clear hm161 m156
      have m161 := mx161.oz [301, 3, 4, 20, 21, 22, 23, 24, 25, 300]
      refine ⟨_, rfl, ?_⟩; intro Az Hz
      refine gz hK16 Hz (.pickF rfl rfl .nil) fun Az Hz => ?_
      refine bc Hz 85 ?_ ?_
      ·
       intro hb164 Hz; try simp only [QQ, Qax] at hb164
       have hPj : (fun b => fb || chgB y f9 t9 b) (fnY y i + j) = true := by show (fb || _) = true; rw [hfb, Bool.false_or, ← hch9]; exact hb164
       refine wct Hz ?_
       replace Hz := Hz.oz [1, 2, 3, 4, 5, 10, 12, 13, 14, 16, 85]
       refine zsr fun K18 hK18 => ?_
       refine goCh Hz (.loadBR m161 (i := 24) rfl rfl U28 rfl fct12 (by simp) (by dsimp only [List.drop, List.take] <;> rfl) <| .move rfl <| .move rfl .nil) fun Az Hz => ?_
       refine plz (ecl Hz Tryz.func72 rfl (zread_n _ y i _ _ xm (ckY hS hi) hF hxm j tn _ _ _ t9 _ S hS9 htn hj (by omega) hxt (m161.into [(1, 25)] (by decide) rfl)) ?_)
       rintro e w172 ⟨p172, c172, rfl, hm172⟩
       have mx172 := m161.back hm172 [(25, 1), (302, 9)] (by decide); clear hm172 m161
       have m172 := mx172.oz [25, 302, 3, 4, 20, 21, 22, 23, 24, 300, 301]
       refine ⟨_, rfl, ?_⟩; intro Az Hz
       refine gz hK18 Hz (.move rfl <| .extract rfl rfl <| .extract rfl rfl <| .assign rfl <| .assign rfl <| .nil) fun Az Hz => ?_
       replace Hz := Hz.oz [1, 2, 3, 4, 5, 10, 12, 13, 14, 16, 85, 17]
       refine wp_region_lit ?_
       refine goCh Hz (.fa 4 rfl U42 <| .lb m172 22 U40 rfl rfl rfl <| .move rfl <| .fa 3 rfl U33 <| .lb m172 20 U3 rfl rfl rfl <| .mul rfl rfl (r := ((fnY y i : Nat) : Int)) (by rw [← (ckY hS hi).fe]; exact IntWalk.i64_in _ (by omega)) <| .move rfl <| .add rfl rfl (r := ((fnY y i + j : Nat) : Int)) (by rw [IntWalk.i64_in _ (by omega)]; omega) <| .move rfl <| .build rfl fct25 fl111grt rfl (by dsimp only [setL, List.set] <;> rfl) .nil) fun Az Hz => ?_
       refine plz (e_litR Hz m172 303 (mm := 2) rfl (.cons rfl rfl (.cons (.v _) (.cons (m172.rd (i := 302) rfl) .nil)) .nil) U40 fct24 rfl rfl rfl rfl rfl fun g190 Az w191 Hz m191 => ?_)
       have m193 := m191.freezeR 303 rfl
       refine plz (e_appR Hz m193 23 rfl rfl rfl (m193.rd (i := 303) rfl) U40 fct24 rfl rfl (by decide) (by have h8 := selI_len S (fun b => fb || chgB y f9 t9 b) (fnY y i + j); simp; omega) rfl fun p192 c192 Az w194 Hz m194 => ?_)
       refine goCh Hz (.fieldAddr (off := 4) rfl U42 rfl (s := 0) (by kernel_rfl) rfl .nil) fun Az Hz => ?_
       refine plz (st1 Hz m194 22 fct31 fun w196 m196 _ => ?_)
       refine znl (hK15 _ _ ?_)
       replace Hz := Hz.oz [1, 2, 3, 4, 5, 10, 12, 13, 14, 16, 85]
       refine wp_region_lit ?_
       refine goCh Hz (.move rfl <| .inc (j + 1) <| .assign rfl .nil) fun Az Hz => ?_
       refine wpList_nil ?_
       show ∃ n', n' < _ ∧ _
       have hE2 : ((selI S (fun b => fb || chgB y f9 t9 b) (fnY y i + j)).map itD) ++ [[D.v (.int .i64 ((fnY y i + j : Nat) : Int)), .ns .u8 (S.getD (fnY y i + j) [])]] = ((selI S (fun b => fb || chgB y f9 t9 b) (fnY y i + (j + 1))).map itD) := by rw [← Nat.add_assoc, selI_succ, if_pos hPj, List.map_append]; rfl
       rw [hE2] at m196
       exact ⟨cnY y i - (j + 1), by omega, j + 1, _, _, _, _, _, _, _, _, by omega, rfl, Hz.only [1, 2, 3, 4, 5, 10, 12, 13, 14, 16], m196.ren [(3, 3), (4, 4), (20, 20), (21, 21), (22, 22), (23, 23), (24, 24), (25, 25)] (by decide)⟩
      intro hb164 Hz; try simp only [QQ, Qax] at hb164
      have hPj : (fun b => fb || chgB y f9 t9 b) (fnY y i + j) = false := by show (fb || _) = false; rw [hfb, Bool.false_or, ← hch9]; exact hb164
      refine wcf Hz ?_
      refine zss (hK15 _ _ ?_)
      replace Hz := Hz.oz [1, 2, 3, 4, 5, 10, 12, 13, 14, 16, 85]
      refine wp_region_lit ?_
      refine goCh Hz (.move rfl <| .inc (j + 1) <| .assign rfl .nil) fun Az Hz => ?_
      refine wpList_nil ?_
      show ∃ n', n' < _ ∧ _
      have hE2 : ((selI S (fun b => fb || chgB y f9 t9 b) (fnY y i + j)).map itD) = ((selI S (fun b => fb || chgB y f9 t9 b) (fnY y i + (j + 1))).map itD) := by rw [← Nat.add_assoc, selI_succ, if_neg (fun h9 => Bool.noConfusion (hPj.symm.trans h9)), List.append_nil]
      rw [hE2] at m161
      exact ⟨cnY y i - (j + 1), by omega, j + 1, _, _, _, _, _, _, _, _, by omega, rfl, Hz.only [1, 2, 3, 4, 5, 10, 12, 13, 14, 16], m161.ren [(3, 3), (4, 4), (20, 20), (21, 21), (22, 22), (23, 23), (24, 24), (25, 25)] (by decide)⟩
     intro hb101 Hz; try simp only [QQ, Qax] at hb101
     obtain rfl : j = cnY y i := by have := hb101; first | omega | (simp at this; omega) | (simp at this; exact this)
     refine wcf Hz ?_
     refine wp_exit ?_
     refine hK11 _ _ ?_
     refine wp_region_lit ?_
     refine goCh Hz (.move rfl <| .add rfl rfl (IntWalk.i64_in _ (by omega)) <| .assign rfl .nil) fun Az Hz => ?_
     refine wpList_nil ?_
     show ∃ n', n' < _ ∧ _
     rw [en_next hS hi] at m95
     exact ⟨y.place.length - (i + 1), by omega, i + 1, _, _, _, _, _, by omega, rfl, (fun k hk => (Nat.lt_or_ge k i).elim (hpa k) (fun h9 => by rw [show k = i by omega]; exact hpk9)), Hz.only [1, 2, 3, 4, 5, 10, 12, 13], m95.ren [(3, 3), (4, 4), (20, 20), (21, 21), (22, 22), (23, 23)] (by decide)⟩
    refine wp_region_lit ?_
    refine goCh Hz (.loadBR m70 (i := 20) rfl rfl U33 rfl fct1 (by simp) (by dsimp only [List.drop, List.take] <;> rfl) <| .move rfl <| .move rfl <| .move rfl <| .move rfl .nil) fun Az Hz => ?_
    refine plz (ecl Hz Tryz.func20 rfl (erpick_none _ y n hS hn _ _ _ _ _ _ _ L _ _ i f9 t9 _ hL hLo hi (nopk hpk9) (m70.into [(3, 3), (4, 4)] (by decide) rfl)) ?_)
    rintro e w213 ⟨rfl, hm213⟩
    have mx213 := m70.back hm213 [(3, 3), (4, 4)] (by decide); clear hm213 m70
    have m213 := mx213.oz [3, 4, 20, 21, 22, 23]
    refine ⟨_, rfl, ?_⟩; intro Az Hz
    refine goCh Hz (.move rfl <| .extract rfl rfl <| .extract rfl rfl .nil) fun Az Hz => ?_
    refine plz (e_alloc Hz m213 200 fct17 rfl fun g218 Az w219 Hz m219 _ _ => ?_)
    refine plz (stw Hz m219 200 fct12 fun w220 m220 _ => ?_)
    refine gz hK12 Hz (.assign rfl .nil) fun Az Hz => ?_
    refine wsk fun K19 hK19 => ?_
    replace Hz := Hz.oz [1, 2, 3, 4, 5, 10, 12, 13, 14, 15]
    refine regS Hz (.move rfl <| .not rfl .nil) fun Az Hz => ?_
    refine wct Hz ?_
    refine zsr fun K20 hK20 => ?_
    refine goCh Hz (.build rfl fct33 fl42grt rfl (by dsimp only [setL, List.set] <;> rfl) .nil) fun Az Hz => ?_
    refine plz (stw Hz m220 21 fct32 fun w227 m227 _ => ?_)
    refine gz hK20 Hz (.assign rfl .nil) fun Az Hz => ?_
    refine rtd (retCT (fn := Tryz.f41) Hz m227 (i := 21) rfl rfl rfl rfl U42 rfl fct32 ?_)
    have mA := m227.dat 91 rfl (Rd.l0 none 0 2)
    exact ⟨(32, 0, 0, 0, 0, []), _, _, .inr (.inr (.inr (.inr (.inl ⟨hhi, hft, hfl9, hlt, (fun h9 => hpk9 (h9 i hi)), rfl⟩)))), rfl, mA.ren [(3, 3), (4, 4), (9, 91)] (by decide)⟩
   intro hb76 Hz; try simp only [QQ, Qax] at hb76
   obtain rfl : i = y.place.length := by have := hb76; first | omega | (simp at this; omega) | (simp at this; exact this)
   refine wcf Hz ?_
   refine wp_exit ?_
   refine hK9 _ _ ?_
   refine zsr fun K21 hK21 => ?_
   refine goCh Hz (.loadBR m70 (i := 22) rfl rfl U42 rfl fct32 (by simp) (by dsimp only [List.drop, List.take] <;> rfl) .nil) fun Az Hz => ?_
   refine plz (stw Hz m70 21 fct32 fun w231 m231 _ => ?_)
   refine gz hK21 Hz (.assign rfl .nil) fun Az Hz => ?_
   refine rtd (retCT (fn := Tryz.f41) Hz m231 (i := 21) rfl rfl rfl rfl U42 rfl fct32 ?_)
   have m233 := m231.freezeR 23 rfl
   rw [en_all hS] at m233
   rw [en_all hS]
   exact ⟨(0, y.bl, y.sz, FR, t9, selI S (fun b => fb || chgB y f9 t9 b) y.bl.toNat), _, _, .inr (.inr (.inr (.inr (.inr ⟨hhi, hft, hfl9, hlt, hpa, by rw [hFR, ← hS9, htn]; rfl⟩)))), rfl, m233.ren [(3, 3), (4, 4), (9, 23)] (by decide)⟩
 replace Hz := Hz.oz [1, 2, 3, 4, 5, 10, 11, 19, 23, 28, 34, 42, 12]
 refine regS Hz (.move rfl .nil) fun Az Hz => ?_
 refine bc Hz 47 ?_ ?_
 ·
  intro hb236 Hz; try simp only [QQ, Qax] at hb236
  have hfb : fb = true := hb236
  refine wct Hz ?_
  refine wp_region_lit ?_
  refine goCh Hz (.fieldAddr (off := 2) rfl U42 rfl (s := 0) (by kernel_rfl) rfl .nil) fun Az Hz => ?_
  refine plz (st1 Hz m67 62 fct10 fun w238 m238 _ => ?_)
  refine wpList_nil ?_
  show K8 _ _
  exact hC8 _ _ ⟨_, _, _, _, by rw [if_pos hfb], Hz.only [1, 2, 3, 4, 5, 10, 12], m238.ren [(3, 3), (4, 4), (20, 60), (21, 61), (22, 62)] (by decide)⟩
 intro hb236 Hz; try simp only [QQ, Qax] at hb236
 have hfb : fb = false := hb236
 refine wcf Hz ?_
 refine wp_skip ?_
 show K8 _ _
 exact hC8 _ _ ⟨_, _, _, _, by rw [if_neg (by rw [hfb]; simp)], Hz.only [1, 2, 3, 4, 5, 10, 12], m67.ren [(3, 3), (4, 4), (20, 60), (21, 61), (22, 62)] (by decide)⟩
theorem erfull_x (X : Cx) (y : VolV) (n : Nat) (hS : VolS n y) (hn : n ≤ 1000) (pp pn pw : Option Addr) (cp nn9 cn9 cw : Nat) (L : List (Nat × Nat)) (pl : Option Addr) (cl : Nat) (t9 : Int) (w0 : World) (hL : L.length ≤ 1000000) (hLo : ∀ x ∈ L, x.1 < y.place.length ∧ x.2 ≤ y.ws.length) (m0 : MemOk X w0 [(3, .dat (.slice pw (y.ws.map wrD).length cw) (.l 2 (y.ws.map wrD))), (4, .dat (.slice pl L.length cl) (.l 7 (L.map (ckD y))))] w0) :
   Calls Tryz.prog 15 #[.agg #[.int .i64 y.vo, .int .i64 y.bl, .int .i64 y.sz, .int .i64 y.pe, .slice pp y.place.length cp, .int .i64 y.to, .int .i64 y.ne, .bool y.hi, .int .i64 y.fl, .slice pn nn9 cn9, .slice pw (y.ws.map wrD).length cw], .slice pl L.length cl, .int .i64 t9] w0 fun e w' => ∃ (T : (Int × Int × Int × Int × Int × List (Int × List Int))) (p9 : Option Addr) (c9 : Nat), FullG y L t9 T ∧ e = .returned (.tuple #[.agg #[.int .i64 T.2.1, .int .i64 T.2.2.1, .int .i64 T.2.2.2.1, .int .i64 T.2.2.2.2.1, .slice p9 (T.2.2.2.2.2.map itD).length c9], .int .i64 T.1]) ∧ MemOk X w0 [(3, .dat (.slice pw (y.ws.map wrD).length cw) (.l 2 (y.ws.map wrD))), (4, .dat (.slice pl L.length cl) (.l 7 (L.map (ckD y)))), (9, .dat (.slice p9 (T.2.2.2.2.2.map itD).length c9) (.l 2 (T.2.2.2.2.2.map itD)))] w' := by
 refine ent3 Tryz.func15 rfl Tryz.ntmps15 fun Az Hz => ?_
 refine zsr fun K0 hK0 => ?_
 refine plz (e_box Hz m0 40 (cs := [_, _, _, _, _, _, _, _, _, _, _]) rfl rfl rfl fun g1 Az w2 Hz m2 _ _ => ?_)
 refine plz (e_alloc Hz m2 41 fct33 rfl fun g3 Az w4 Hz m4 _ _ => ?_)
 refine gz hK0 Hz (.assign rfl .nil) fun Az Hz => ?_
 refine zsr fun K1 hK1 => ?_
 refine goCh Hz (.loadBR m4 (i := 40) rfl rfl U33 rfl fct1 (by simp) (by dsimp only [List.drop, List.take] <;> rfl) <| .move rfl <| .move rfl <| .move rfl .nil) fun Az Hz => ?_
 refine plz (ecl Hz Tryz.func41 rfl (etaken_x _ y n hS hn _ _ _ _ _ _ _ L _ _ t9 t9 true _ hL hLo (m4.into [(3, 3), (4, 4)] (by decide) rfl)) ?_)
 rintro e w14 ⟨T, p14, c14, hT, rfl, hm14⟩
 have mx14 := m4.back hm14 [(3, 3), (4, 4), (42, 9)] (by decide); clear hm14 m4
 have m14 := mx14.oz [3, 4, 42, 40, 41]
 refine ⟨_, rfl, ?_⟩; intro Az Hz
 refine goCh Hz (.extract rfl rfl <| .extract rfl rfl .nil) fun Az Hz => ?_
 refine plz (stw Hz m14 41 fct32 fun w18 m18 _ => ?_)
 refine gz hK1 Hz (.assign rfl .nil) fun Az Hz => ?_
 refine rtd (retCT (fn := Tryz.f15) Hz m18 (i := 41) rfl rfl rfl rfl U42 rfl fct32 ?_)
 exact ⟨T, _, _, tak_full hT, rfl, m18.ren [(3, 3), (4, 4), (9, 42)] (by decide)⟩
theorem ersince_x (X : Cx) (y : VolV) (n : Nat) (hS : VolS n y) (hn : n ≤ 1000) (pp pn pw : Option Addr) (cp nn9 cn9 cw : Nat) (L : List (Nat × Nat)) (pl : Option Addr) (cl : Nat) (fr t9 : Int) (w0 : World) (hL : L.length ≤ 1000000) (hLo : ∀ x ∈ L, x.1 < y.place.length ∧ x.2 ≤ y.ws.length) (m0 : MemOk X w0 [(3, .dat (.slice pw (y.ws.map wrD).length cw) (.l 2 (y.ws.map wrD))), (4, .dat (.slice pl L.length cl) (.l 7 (L.map (ckD y))))] w0) :
   Calls Tryz.prog 18 #[.agg #[.int .i64 y.vo, .int .i64 y.bl, .int .i64 y.sz, .int .i64 y.pe, .slice pp y.place.length cp, .int .i64 y.to, .int .i64 y.ne, .bool y.hi, .int .i64 y.fl, .slice pn nn9 cn9, .slice pw (y.ws.map wrD).length cw], .slice pl L.length cl, .int .i64 fr, .int .i64 t9] w0 fun e w' => ∃ (T : (Int × Int × Int × Int × Int × List (Int × List Int))) (p9 : Option Addr) (c9 : Nat), SinceG y L fr t9 T ∧ e = .returned (.tuple #[.agg #[.int .i64 T.2.1, .int .i64 T.2.2.1, .int .i64 T.2.2.2.1, .int .i64 T.2.2.2.2.1, .slice p9 (T.2.2.2.2.2.map itD).length c9], .int .i64 T.1]) ∧ MemOk X w0 [(3, .dat (.slice pw (y.ws.map wrD).length cw) (.l 2 (y.ws.map wrD))), (4, .dat (.slice pl L.length cl) (.l 7 (L.map (ckD y)))), (9, .dat (.slice p9 (T.2.2.2.2.2.map itD).length c9) (.l 2 (T.2.2.2.2.2.map itD)))] w' := by
 refine ent4 Tryz.func18 rfl Tryz.ntmps18 fun Az Hz => ?_
 refine zsr fun K0 hK0 => ?_
 refine plz (e_box Hz m0 40 (cs := [_, _, _, _, _, _, _, _, _, _, _]) rfl rfl rfl fun g1 Az w2 Hz m2 _ _ => ?_)
 refine plz (e_alloc Hz m2 41 fct33 rfl fun g3 Az w4 Hz m4 _ _ => ?_)
 refine gz hK0 Hz (.assign rfl .nil) fun Az Hz => ?_
 refine zsr fun K1 hK1 => ?_
 refine goCh Hz (.loadBR m4 (i := 40) rfl rfl U33 rfl fct1 (by simp) (by dsimp only [List.drop, List.take] <;> rfl) <| .move rfl <| .move rfl <| .move rfl .nil) fun Az Hz => ?_
 refine plz (ecl Hz Tryz.func41 rfl (etaken_x _ y n hS hn _ _ _ _ _ _ _ L _ _ fr t9 false _ hL hLo (m4.into [(3, 3), (4, 4)] (by decide) rfl)) ?_)
 rintro e w14 ⟨T, p14, c14, hT, rfl, hm14⟩
 have mx14 := m4.back hm14 [(3, 3), (4, 4), (42, 9)] (by decide); clear hm14 m4
 have m14 := mx14.oz [3, 4, 42, 40, 41]
 refine ⟨_, rfl, ?_⟩; intro Az Hz
 refine goCh Hz (.extract rfl rfl <| .extract rfl rfl .nil) fun Az Hz => ?_
 refine plz (stw Hz m14 41 fct32 fun w18 m18 _ => ?_)
 refine gz hK1 Hz (.assign rfl .nil) fun Az Hz => ?_
 refine rtd (retCT (fn := Tryz.f18) Hz m18 (i := 41) rfl rfl rfl rfl U42 rfl fct32 ?_)
 exact ⟨T, _, _, tak_since hT, rfl, m18.ren [(3, 3), (4, 4), (9, 42)] (by decide)⟩
end
section
def encF : Nat → Nat → List Int
 | 0, n => [(n : Int)]
 | f + 1, n => if n < 128 then [(n : Int)] else ((n % 128 + 128 : Nat) : Int) :: encF f (n / 128)
def enc (n : Int) : List Int := encF 9 n.toNat
def encs (l : List Int) : List Int := l.flatMap enc
theorem or128 (y : Nat) : bits .or .u8 ((y : Int) % 256) 128 = ((y % 128 + 128 : Nat) : Int) := by
 have h : ∀ z : Fin 256, bits .or .u8 ((z.val : Nat) : Int) 128 = ((z.val % 128 + 128 : Nat) : Int) := by decide +kernel
 have := h ⟨y % 256, by omega⟩
 simp only at this
 rw [show ((y : Int) % 256) = ((y % 256 : Nat) : Int) by omega, this]
 omega
theorem encF_len : ∀ (f n : Nat), (encF f n).length ≤ f + 1 ∧ 1 ≤ (encF f n).length
 | 0, n => by simp [encF]
 | f + 1, n => by
   unfold encF
   have := encF_len f (n / 128)
   split <;> simp <;> omega
theorem enc_len (n : Int) : (enc n).length ≤ 10 ∧ 1 ≤ (enc n).length := encF_len 9 _
theorem encs_len : ∀ l : List Int, (encs l).length ≤ 10 * l.length
 | [] => by simp [encs]
 | a :: l => by
   have h1 := (enc_len a).1
   have h2 := encs_len l
   simp only [encs, List.flatMap_cons, List.length_append, List.length_cons] at h2 ⊢
   omega
theorem encs_snoc (l : List Int) (k : Nat) (h : k < l.length) : encs (l.take (k + 1)) = encs (l.take k) ++ enc (l.getD k 0) := by
 rw [List.take_succ_eq_append_getElem h]
 simp only [encs, List.flatMap_append, List.flatMap_cons, List.flatMap_nil, List.append_nil, List.getD, List.getElem?_eq_getElem h, Option.getD_some]
end
section
def IsLists (w : World) (v : Value) (ls : List (List Int)) : Prop :=
 ∃ a c, v = .slice a ls.length c ∧ (ls.length = 0 ∨ ∃ b off, a = some ⟨b, off, none⟩ ∧ b < w.heap.size ∧ ∀ j, j < ls.length → ∃ u, w.cell? ⟨b, off + j, none⟩ = some u ∧ IsNums .u8 w u (ls.getD j []))
def sumLen (ls : List (List Int)) : Nat := ls.flatten.length
end
section
def NumsLt (N : Nat) (k : IntKind) (w : World) (v : Value) (zs : List Int) : Prop :=
 ∃ a c, v = .slice a zs.length c ∧ zs.length ≤ c ∧ c ≤ 9223372036854775807 ∧ (zs.length = 0 ∨ ∃ b off, a = some ⟨b, off, none⟩ ∧ b < N ∧ ∀ j, j < zs.length → w.cell? ⟨b, off + j, none⟩ = some (.int k (zs.getD j 0)))
theorem NumsLt.below {N : Nat} {k : IntKind} {w w' : World} {v : Value} {zs : List Int} (h : NumsLt N k w v zs) (hb : Below N w w') : NumsLt N k w' v zs := by
 obtain ⟨a, c, rfl, hc1, hc2, h | ⟨b, off, rfl, h1, h2⟩⟩ := h
 · exact ⟨a, c, rfl, hc1, hc2, .inl h⟩
 refine ⟨_, c, rfl, hc1, hc2, .inr ⟨b, off, rfl, h1, fun j hj => ?_⟩⟩
 rw [hb.cell (by show b < N; omega)]
 exact h2 j hj
theorem NumsLt.nums {N : Nat} {k : IntKind} {w : World} {v : Value} {zs : List Int} (h : NumsLt N k w v zs) (hN : N ≤ w.heap.size) : IsNums k w v zs := by
 obtain ⟨a, c, rfl, hc1, hc2, h | ⟨b, off, rfl, h1, h2⟩⟩ := h
 · exact ⟨a, c, rfl, .inl h⟩
 exact ⟨_, c, rfl, .inr ⟨b, off, rfl, by omega, h2⟩⟩
inductive Dec where
 | ok (n : Nat) (k : Nat)
 | err (e : Int)
def dec : Nat → Nat → List Int → Dec
 | _, _, [] => .err 21
 | acc, i, b :: r => if (i = 9 ∧ 1 < b) ∨ (0 < i ∧ b = 0) then .err 20 else
     if b < 128 then .ok (acc + (b % 128).toNat * 2 ^ (7 * i)) (i + 1) else dec (acc + (b % 128).toNat * 2 ^ (7 * i)) (i + 1) r
theorem or_shift (acc k : Nat) (x : Int) (hacc : acc < 2 ^ (7 * k)) (hk : k ≤ 9) (x0 : 0 ≤ x) (hx : x ≤ 255) (h9 : k = 9 → x ≤ 1) :
   bits .or .u64 (acc : Int) (IntKind.u64.wrap (x % 128 * 2 ^ (7 * k))) = ((acc + (x % 128).toNat * 2 ^ (7 * k) : Nat) : Int) := by
 obtain ⟨y, hy⟩ : ∃ y : Nat, x % 128 = y := ⟨(x % 128).toNat, by omega⟩
 have hy1 : y < 128 := by omega
 have hy9 : k = 9 → y ≤ 1 := fun h => by have := h9 h; omega
 rw [hy]
 have hb : y * 2 ^ (7 * k) < 2 ^ 64 := by
   by_cases e : k = 9
   · subst e
     have := hy9 rfl
     have : y * 2 ^ (7 * 9) ≤ 1 * 2 ^ (7 * 9) := Nat.mul_le_mul_right _ this
     exact Nat.lt_of_le_of_lt this (by decide)
   have h1 : 2 ^ (7 * k) ≤ 2 ^ 56 := Nat.pow_le_pow_right (by decide) (by omega)
   have h2 : y * 2 ^ (7 * k) ≤ 127 * 2 ^ 56 := Nat.mul_le_mul (by omega) h1
   exact Nat.lt_of_le_of_lt h2 (by decide)
 have ha : acc < 2 ^ 64 := Nat.lt_of_lt_of_le hacc (Nat.pow_le_pow_right (by decide) (by omega))
 have hcast : ((y : Int) * 2 ^ (7 * k)) = ((y * 2 ^ (7 * k) : Nat) : Int) := by simp
 have hw : ∀ n : Int, 0 ≤ n → n < 2 ^ 64 → IntKind.u64.wrap n = n := fun n h0 h1 => by rw [IntKind.wrap_u64]; omega
 rw [hcast, hw _ (by omega) (by have : ((y * 2 ^ (7 * k) : Nat) : Int) < ((2 ^ 64 : Nat) : Int) := Int.ofNat_lt.2 hb; simpa using this)]
 have h := (bits_nat .u64 64 (by decide) hw acc (y * 2 ^ (7 * k)) ha hb).2
 rw [h]
 have h2 : 2 ^ (7 * k) * y + acc = 2 ^ (7 * k) * y ||| acc := Nat.two_pow_add_eq_or_of_lt hacc y
 rw [Nat.or_comm, Nat.mul_comm y, ← h2, Int.toNat_natCast, Nat.mul_comm, Nat.add_comm]
theorem acc_bound (acc k : Nat) (x : Int) (hacc : acc < 2 ^ (7 * k)) : acc + (x % 128).toNat * 2 ^ (7 * k) < 2 ^ (7 * (k + 1)) := by
 have h1 : (x % 128).toNat ≤ 127 := by omega
 have h2 : (x % 128).toNat * 2 ^ (7 * k) ≤ 127 * 2 ^ (7 * k) := Nat.mul_le_mul_right _ h1
 rw [show 7 * (k + 1) = 7 * k + 7 by omega, Nat.pow_add]
 omega
def IsReader (w : World) (B : Nat) (v : Value) (bs : List Int) (e : Int) : Prop :=
 w.cell? ⟨B, 0, none⟩ = some v ∧ w.cell? ⟨B, 1, none⟩ = some (.int .i64 e) ∧ w.frozen? ⟨B, 0, none⟩ = false ∧ w.frozen? ⟨B, 1, none⟩ = false ∧ NumsLt B .u8 w v bs ∧ ∀ x ∈ bs, 0 ≤ x ∧ x ≤ 255
theorem reader_shift {w : World} {B b off c k c' : Nat} {bs : List Int} {e : Int} {v : Value} {a' : Option Addr} (h0 : w.cell? ⟨B, 0, none⟩ = some v) (h1 : w.cell? ⟨B, 1, none⟩ = some (.int .i64 e)) (h2 : w.frozen? ⟨B, 0, none⟩ = false) (h3 : w.frozen? ⟨B, 1, none⟩ = false)
   (hblk : b < B) (hcell : ∀ j, j < bs.length → w.cell? ⟨b, off + j, none⟩ = some (.int .u8 (bs.getD j 0))) (hbs : ∀ x ∈ bs, 0 ≤ x ∧ x ≤ 255) (hk : k ≤ bs.length) (hc1 : bs.length - k ≤ c') (hc2 : c' ≤ 9223372036854775807) (ha : bs.length - k = 0 ∨ a' = some ⟨b, off + k, none⟩) :
   IsReader (w.setCell ⟨B, 0, none⟩ (.slice a' (bs.length - k) c')) B (.slice a' (bs.length - k) c') (bs.drop k) e := by
 refine ⟨World.cell?_setCell_same _ _ _ h0, ?_, by rw [World.frozen?_setCell]; exact h2, by rw [World.frozen?_setCell]; exact h3, ?_, fun x hx => hbs x (List.mem_of_mem_drop hx)⟩
 · rw [World.cell?_setCell_other _ _ _ _ (by simp)]; exact h1
 have hl : (bs.drop k).length = bs.length - k := by simp
 refine NumsLt.below (w := w) ⟨a', c', by rw [hl], by omega, hc2, ?_⟩ ((Below.refl B w).setCell (p := ⟨B, 0, none⟩) (Nat.le_refl _) _)
 rcases ha with ha | ha
 · left; omega
 right
 refine ⟨b, off + k, ha, hblk, fun j hj => ?_⟩
 have := hcell (k + j) (by omega)
 rw [show off + k + j = off + (k + j) by omega, this]
 simp [List.getD]
def decPost (w : World) (B : Nat) (bs : List Int) (e : Int) : Dec → Ending → World → Prop
 | .ok n k, en, w' => en = .returned (.tuple #[.int .u64 n, .int .i64 0]) ∧ ∃ v', w' = w.setCell ⟨B, 0, none⟩ v' ∧ IsReader w' B v' (bs.drop k) e
 | .err er, en, w' => en = .returned (.tuple #[.int .u64 0, .int .i64 er]) ∧ w' = w
end
section
def Only (B : Nat) (w w' : World) : Prop := w.grownBy w' (some B)
theorem Only.refl (B : Nat) (w : World) : Only B w w := ⟨rfl, rfl, rfl, Nat.le_refl _, fun _ _ _ => rfl⟩
theorem Only.trans {B : Nat} {a b c : World} (h : Only B a b) (k : Only B b c) : Only B a c :=
 ⟨k.os.trans h.os, k.tape.trans h.tape, k.output.trans h.output, Nat.le_trans h.size k.size, fun i hi hne => (k.block i (Nat.lt_of_lt_of_le hi h.size) hne).trans (h.block i hi hne)⟩
theorem Only.set (B : Nat) (w : World) (o : Nat) (v : Value) : Only B w (w.setCell ⟨B, o, none⟩ v) :=
 ⟨rfl, rfl, rfl, by simp [World.setCell], fun k _ hne => Below.heap_setCell _ _ _ _ (fun e => hne (by rw [e]))⟩
theorem Only.ofBelow {B : Nat} {w w' : World} (h : Below w.heap.size w w') : Only B w w' := ⟨h.os, h.tape, h.output, h.size, fun k hk _ => h.block k hk⟩
theorem Only.below {B N : Nat} {w w' : World} (h : Only B w w') (hB : N ≤ B) (hN : N ≤ w.heap.size) : Below N w w' :=
 ⟨h.os, h.tape, h.output, h.size, fun k hk => h.block k (by omega) (fun e => by cases e; omega)⟩
theorem Only.drew (B : Nat) (w : World) : Only B w w.drew := ⟨rfl, rfl, rfl, Nat.le_refl _, fun _ _ _ => rfl⟩
theorem IsReader.lt {w : World} {B : Nat} {v : Value} {bs : List Int} {e : Int} (h : IsReader w B v bs e) : B < w.heap.size := World.block_lt_of_cell? w ⟨B, 0, none⟩ h.1
theorem IsReader.kept {w w' : World} {B B2 : Nat} {v : Value} {bs : List Int} {e : Int} (h : IsReader w B v bs e) (ho : Only B2 w w') (hB : B < B2) : IsReader w' B v bs e := by
 have hlt := h.lt
 obtain ⟨h0, h1, h2, h3, h4, h5⟩ := h
 have hb : w'.heap[B]? = w.heap[B]? := ho.block B hlt (fun e => by cases e; omega)
 exact ⟨by rw [World.cell?_of_block (w := w) hb]; exact h0, by rw [World.cell?_of_block (w := w) hb]; exact h1, by rw [World.frozen?_of_block (w := w) hb]; exact h2, by rw [World.frozen?_of_block (w := w) hb]; exact h3, h4.below (ho.below (by omega) (by omega)), h5⟩
theorem IsReader.later {w w' : World} {B : Nat} {v : Value} {bs : List Int} {e : Int} (h : IsReader w B v bs e) (hb : Below w.heap.size w w') : IsReader w' B v bs e := by
 have hlt := h.lt
 obtain ⟨h0, h1, h2, h3, h4, h5⟩ := h
 exact ⟨by rw [hb.cell (by exact hlt)]; exact h0, by rw [hb.cell (by exact hlt)]; exact h1, by rw [hb.frozen (by exact hlt)]; exact h2, by rw [hb.frozen (by exact hlt)]; exact h3, h4.below (hb.mono (by omega)), h5⟩
def numR (bs : List Int) (e most : Int) : Int × List Int × Int :=
 if e = 0 then match dec 0 0 bs with
   | .err er => (0, [], er)
   | .ok n k => if most < n then (0, [], 22) else (n, bs.drop k, 0)
 else (0, bs, e)
end
section
def lumpR (bs : List Int) (e most : Int) : List Int × List Int × Int :=
 if (numR bs e (max most 0)).2.2 = 0 then
   if ((numR bs e (max most 0)).2.1.length : Int) < (numR bs e (max most 0)).1 then ([], [], 21)
   else ((numR bs e (max most 0)).2.1.take (numR bs e (max most 0)).1.toNat, (numR bs e (max most 0)).2.1.drop (numR bs e (max most 0)).1.toNat, 0)
 else ([], (numR bs e (max most 0)).2.1, (numR bs e (max most 0)).2.2)
theorem IsLists.lit (w : World) (us : List Value) (ls : List (List Int)) (N : Nat) (T : TypeId) (n c : Nat) (hN : N = w.heap.size) (hn : n = us.length) (hl : us.length = ls.length) (h : ∀ j, j < us.length → IsNums .u8 w (us.getD j default) (ls.getD j [])) :
   IsLists (w.alloc (.cells us.toArray T)) (.slice (some ⟨N, 0, none⟩) n c) ls := by
 subst hN; subst hn
 refine ⟨_, c, by rw [hl], .inr ⟨_, 0, rfl, by simp, fun j hj => ?_⟩⟩
 refine ⟨us.getD j default, ?_, (h j (by omega)).alloc _⟩
 unfold World.cell? World.alloc
 simp [List.getD, show j < us.length by omega]
theorem IsLists.one (w : World) (u : Value) (bs : List Int) (N : Nat) (T : TypeId) (hN : N = w.heap.size) (h : IsNums .u8 w u bs) : IsLists (w.alloc (.cells #[u] T)) (.slice (some ⟨N, 0, none⟩) 1 1) [bs] :=
 IsLists.lit w [u] [bs] N T 1 1 hN rfl rfl (fun j hj => by
   rcases j with _ | j
   · exact h
   simp at hj)
theorem NumsLt.ofOwn {k : IntKind} {w : World} {B : Nat} {e : TypeId} {v : Value} {n : Nat} {zs : List Int} (h : w.ownsRow B e 1 v n (zs.map (Value.int k))) : NumsLt w.heap.size k w v zs := by
 have hn : n = zs.length := by have := h.1; simpa using this.symm
 subst hn
 rcases h.2 with ⟨rfl, h0⟩ | ⟨g, cap, cur, rfl, hg, hb, h1, h2, h3, h4⟩
 · obtain rfl := List.length_eq_zero_iff.1 h0
   exact ⟨none, 0, rfl, Nat.le_refl _, by omega, .inl rfl⟩
 refine ⟨_, cap, rfl, h1, h2, .inr ⟨g, 0, rfl, (Array.getElem?_eq_some_iff.1 hb).1, fun j hj => ?_⟩⟩
 have := h.cellAt j (by omega)
 rw [Nat.zero_add, this]
 simp [hj, List.getD]
theorem NumsLt.take {N : Nat} {k : IntKind} {w : World} {a : Option Addr} {len c : Nat} {zs : List Int} (h : NumsLt N k w (.slice a len c) zs) (n : Nat) (hn : n ≤ zs.length) : NumsLt N k w (.slice a n c) (zs.take n) := by
 obtain ⟨a', c', e, h1, h2, h3⟩ := h
 injection e with e1 e2 e3
 subst e1; subst e3
 refine ⟨a, c, by simp [hn], by simp; omega, h2, ?_⟩
 rcases h3 with h3 | ⟨b, off, rfl, hb, hc⟩
 · left; simp; omega
 right
 refine ⟨b, off, rfl, hb, fun j hj => ?_⟩
 simp at hj
 rw [hc j (by omega)]
 simp only [List.getD, List.getElem?_take]
 rw [if_pos (by omega)]
theorem IsReader.set {w : World} {B : Nat} {a : Option Addr} {len c n : Nat} {bs : List Int} {e : Int} (h : IsReader w B (.slice a len c) bs e) (hn : n ≤ bs.length) (a' : Option Addr) (c' : Nat) (hc1 : bs.length - n ≤ c') (hc2 : c' ≤ 9223372036854775807)
   (ha : ∀ b off, a = some ⟨b, off, none⟩ → bs.length - n = 0 ∨ a' = some ⟨b, off + n, none⟩) : IsReader (w.setCell ⟨B, 0, none⟩ (.slice a' (bs.length - n) c')) B (.slice a' (bs.length - n) c') (bs.drop n) e := by
 obtain ⟨h0, h1, h2, h3, ⟨p, c0, ep, hc3, hc4, hcells⟩, h5⟩ := h
 injection ep with e1 e2 e3
 subst e1; subst e3
 rcases hcells with hz | ⟨b, off, rfl, hblk, hcell⟩
 · have hn0 : bs = [] := List.length_eq_zero_iff.1 hz
   subst hn0
   refine ⟨World.cell?_setCell_same _ _ _ h0, ?_, by rw [World.frozen?_setCell]; exact h2, by rw [World.frozen?_setCell]; exact h3, ⟨a', c', by simp, by simp, hc2, .inl (by simp)⟩, by simp⟩
   rw [World.cell?_setCell_other _ _ _ _ (by simp)]; exact h1
 exact reader_shift (c := c) h0 h1 h2 h3 hblk hcell h5 hn hc1 hc2 (ha b off rfl)
def LumpPost (w : World) (B : Nat) (r : List Int × List Int × Int) (en : Ending) (w' : World) : Prop :=
 ∃ u, en = .returned u ∧ w'.ownsRow w.heap.size 5 1 u r.1.length (r.1.map (Value.int .u8)) ∧ ∃ v', IsReader w' B v' r.2.1 r.2.2 ∧ Only B w w'
end
section
def Low (N : Nat) (w0 : World) : World → Prop := fun W => Below N w0 W
section
variable {P : Program} {ops : Array Oper} {Q : Exit → Act → World → Prop} {md : Region.Mode} {w0 : World} {N : Nat}
end
end
section
theorem enc_dec (rest : List Int) : ∀ (f n i acc : Nat), i + f = 9 → n * 2 ^ (7 * i) < 2 ^ 64 → (0 < i → n ≠ 0) → dec acc i (encF f n ++ rest) = .ok (acc + n * 2 ^ (7 * i)) (i + (encF f n).length)
 | 0, n, i, acc, hi, hb, hz => by
   obtain rfl : i = 9 := by omega
   have hn : n ≤ 1 := by omega
   have h0 := hz (by omega)
   obtain rfl : n = 1 := by omega
   simp [encF, dec]
 | f + 1, n, i, acc, hi, hb, hz => by
   unfold encF
   by_cases h : n < 128
   · rw [if_pos h]
     have hc : ¬ ((i = 9 ∧ (1 : Int) < (n : Int)) ∨ (0 < i ∧ (n : Int) = 0)) := by omega
     simp only [List.cons_append, List.nil_append, dec]
     rw [if_neg hc, if_pos (by omega)]
     rw [show ((n : Int) % 128).toNat = n by omega]
     simp
   rw [if_neg h]
   have hc : ¬ ((i = 9 ∧ (1 : Int) < ((n % 128 + 128 : Nat) : Int)) ∨ (0 < i ∧ ((n % 128 + 128 : Nat) : Int) = 0)) := by omega
   simp only [List.cons_append, dec]
   rw [if_neg hc, if_neg (by omega)]
   have hpow : (2 : Nat) ^ (7 * (i + 1)) = 128 * 2 ^ (7 * i) := by rw [show 7 * (i + 1) = 7 + 7 * i by omega, Nat.pow_add]
   have hdm : 128 * (n / 128) + n % 128 = n := Nat.div_add_mod n 128
   have hmul : n / 128 * 2 ^ (7 * (i + 1)) = 128 * (n / 128) * 2 ^ (7 * i) := by rw [hpow]; ac_rfl
   have hle : 128 * (n / 128) * 2 ^ (7 * i) ≤ n * 2 ^ (7 * i) := Nat.mul_le_mul_right _ (by omega)
   rw [enc_dec rest f (n / 128) (i + 1) _ (by omega) (by omega) (by omega)]
   rw [show (((n % 128 + 128 : Nat) : Int) % 128).toNat = n % 128 by omega, hmul]
   have hsum : n * 2 ^ (7 * i) = 128 * (n / 128) * 2 ^ (7 * i) + n % 128 * 2 ^ (7 * i) := by rw [← Nat.add_mul, hdm]
   rw [hsum]
   simp
   constructor <;> omega
theorem dec_enc (x : Int) (h0 : 0 ≤ x) (h1 : x ≤ 18446744073709551615) (rest : List Int) : dec 0 0 (enc x ++ rest) = .ok x.toNat (enc x).length := by
 have := enc_dec rest 9 x.toNat 0 0 (by omega) (by simp; omega) (by omega)
 simpa [enc] using this
theorem enc_bytes (x : Int) (h1 : x ≤ 18446744073709551615) : ∀ b ∈ enc x, 0 ≤ b ∧ b ≤ 255 := by
 have : ∀ (f n : Nat), n < 128 ^ (f + 1) → ∀ b ∈ encF f n, 0 ≤ b ∧ b ≤ 255 := by
   intro f
   induction f with
   | zero => intro n hn b hb; simp [encF] at hb hn; omega
   | succ f ih =>
     intro n hn b hb
     unfold encF at hb
     split at hb
     · simp at hb; omega
     rcases List.mem_cons.1 hb with rfl | hb
     · omega
     refine ih (n / 128) ?_ b hb
     rw [Nat.pow_succ] at hn
     exact Nat.div_lt_of_lt_mul (by rw [Nat.mul_comm]; exact hn)
 refine this 9 x.toNat ?_
 have : (128 : Nat) ^ 10 = 1180591620717411303424 := by decide
 omega
theorem numR_ok (x : Int) (h0 : 0 ≤ x) (h1 : x ≤ 18446744073709551615) (rest : List Int) (most : Int) (hm : x ≤ most) : numR (enc x ++ rest) 0 most = (x, rest, 0) := by
 unfold numR
 rw [if_pos rfl, dec_enc x h0 h1 rest]
 simp only []
 rw [if_neg (by omega)]
 simp; omega
theorem numR_bad (bs : List Int) (e most : Int) (h : e ≠ 0) : numR bs e most = (0, bs, e) := by rw [numR, if_neg h]
theorem IsNums.drew {k : IntKind} {w : World} {v : Value} {zs : List Int} (h : IsNums k w v zs) : IsNums k w.drew v zs := h.below (Below.refl w.heap.size w).drew (Nat.le_refl _)
theorem IsLists.nil (w : World) (a : Option Addr) (c : Nat) : IsLists w (.slice a 0 c) [] := ⟨a, c, rfl, .inl rfl⟩
theorem IsNums.after {k : IntKind} {w w' : World} {v : Value} {zs : List Int} {o : Obj} (h : IsNums k w v zs) (hb : Below (w.alloc o).heap.size (w.alloc o) w') : IsNums k w' v zs := (h.alloc o).below hb (Nat.le_refl _)
end
section
section
variable {P : Program} {a : Act} {w : World} {K : Act → World → Prop} {Q : Exit → Act → World → Prop}
end
theorem NumsOff.ofOwn {bad : Nat → Prop} {w : World} {base : Nat} {e : TypeId} {v : Value} {n : Nat} {zs : List Int} (h : w.ownsRow base e 1 v n (zs.map (Value.int .u8))) (hb : ∀ k, base ≤ k → k < w.heap.size → ¬ bad k) : NumsOff bad w v zs := by
 have hn : n = zs.length := by have := h.1; simpa using this.symm
 subst hn
 rcases h.2 with ⟨rfl, h0⟩ | ⟨g, cap, cur, rfl, hg, hbk, h1, h2, h3, h4⟩
 · obtain rfl := List.length_eq_zero_iff.1 h0; exact NumsOff.nil _ _ none 0
 have hlt := (Array.getElem?_eq_some_iff.1 hbk).1
 refine ⟨_, cap, rfl, .inr ⟨g, 0, rfl, hlt, hb g hg hlt, fun j hj => ?_⟩⟩
 have := h.cellAt j (by omega)
 rw [Nat.zero_add, this]
 simp [hj, List.getD]
end
section
section
variable {P : Program} {ops : Array Oper} {rest : List Oper} {a : Act} {w : World} {Q : Exit → Act → World → Prop}
end
theorem Only.keep {B : Nat} {a b : World} (h : Only B a b) : Keep (fun k => k = B) a b := ⟨h.os, h.tape, h.output, h.size, fun i hi hn => h.block i hi (fun e => hn (show i = B from (by injection e)))⟩
end
section
theorem and127 (b : Int) (h0 : 0 ≤ b) (h1 : b ≤ 255) : bits .and .u8 b 127 = b % 128 := by
 have h : ∀ z : Fin 256, bits .and .u8 ((z.val : Nat) : Int) 127 = ((z.val : Nat) : Int) % 128 := by decide +kernel
 have := h ⟨b.toNat, by omega⟩
 simp only at this
 rw [show ((b.toNat : Nat) : Int) = b by omega] at this
 exact this
theorem numR_err {bs : List Int} {er : Int} (most : Int) (h : dec 0 0 bs = .err er) : numR bs 0 most = (0, [], er) := by rw [numR, if_pos rfl, h]
theorem numR_val {bs : List Int} {n k : Nat} (most : Int) (h : dec 0 0 bs = .ok n k) : numR bs 0 most = if most < (n : Int) then (0, [], 22) else ((n : Int), bs.drop k, 0) := by rw [numR, if_pos rfl, h]
end
section
theorem leb_or (u : Nat) : IntKind.u8.wrap ((BitVec.ofInt IntKind.u8.bits (IntKind.u8.wrap (u : Int)) ||| BitVec.ofInt IntKind.u8.bits 128).toNat) = ((u % 128 + 128 : Nat) : Int) := by
 have h := or128 u
 have e : IntKind.u8.wrap (u : Int) = (u : Int) % 256 := by simp [IntKind.wrap, IntKind.signed, IntKind.bits]
 rw [e]; exact h
theorem leb_stepx {j u : Nat} (hj : j ≤ 9) (hu : (u : Int) < 2 ^ (64 - 7 * j)) (h : 128 ≤ u) : j + 1 ≤ 9 ∧ ((u / 128 : Nat) : Int) < 2 ^ (64 - 7 * (j + 1)) := by
 have hc : j = 0 ∨ j = 1 ∨ j = 2 ∨ j = 3 ∨ j = 4 ∨ j = 5 ∨ j = 6 ∨ j = 7 ∨ j = 8 ∨ j = 9 := by omega
 rcases hc with rfl | rfl | rfl | rfl | rfl | rfl | rfl | rfl | rfl | rfl <;> simp at hu ⊢ <;> omega
theorem leb_more {j u : Nat} (hj : j ≤ 8) (h : 128 ≤ u) : encF (9 - j) u = ((u % 128 + 128 : Nat) : Int) :: encF (9 - (j + 1)) (u / 128) := by
 obtain ⟨f, hf⟩ : ∃ f, 9 - j = f + 1 := ⟨8 - j, by omega⟩
 rw [hf, show 9 - (j + 1) = f by omega, encF, if_neg (by omega)]
theorem leb_end {j u : Nat} (hj : j ≤ 9) (h : u < 128) : encF (9 - j) u = [(u : Int)] := by
 cases hf : 9 - j with
 | zero => rfl
 | succ f => rw [encF, if_pos h]
theorem encs_one (x : Int) : encs [x] = enc x := by simp [encs]
theorem encs_cons (x : Int) (l : List Int) : encs (x :: l) = enc x ++ encs l := by simp [encs]
theorem one64 {x : Int} (h : 0 ≤ x ∧ x ≤ 9223372036854775807) : ∀ k, k < [x].length → 0 ≤ [x].getD k 0 ∧ [x].getD k 0 < 2 ^ 64 := fun k hk => by
 obtain rfl : k = 0 := by simpa using hk
 simp; omega
theorem one63 {x : Int} (h : 0 ≤ x ∧ x ≤ 9223372036854775807) : ∀ k, k < [x].length → 0 ≤ [x].getD k 0 ∧ [x].getD k 0 ≤ 9223372036854775807 := fun k hk => by
 obtain rfl : k = 0 := by simpa using hk
 simpa using h
def itemE (e : Int × List Int) : List Int := enc e.1 ++ (enc e.2.length ++ e.2)
def itemsE (es : List (Int × List Int)) : List Int := es.flatMap itemE
theorem itemsE_snoc {es : List (Int × List Int)} {k : Nat} {e : Int × List Int} (h : es[k]? = some e) : itemsE (es.take (k + 1)) = itemsE (es.take k) ++ itemE e := by
 rw [take_snoc h]; simp [itemsE]
theorem itemsE_len (es : List (Int × List Int)) (h : ∀ e ∈ es, e.2.length ≤ 1000) : (itemsE es).length ≤ 1020 * es.length := by
 induction es with
 | nil => simp [itemsE]
 | cons e es ih =>
   have h1 := ih (fun x hx => h x (List.mem_cons_of_mem _ hx))
   have h2 := h e List.mem_cons_self
   have h3 := (enc_len e.1).1
   have h4 := (enc_len e.2.length).1
   simp only [itemsE, List.flatMap_cons, List.length_append, List.length_cons, itemE] at h1 ⊢
   omega
set_option maxRecDepth 100000
set_option maxHeartbeats 4000000
theorem rput_x (xs : List Int) (q : Option Addr) (cq : Nat) (w0 : World) (h0 : Rd (fun _ => True) w0 (.slice q xs.length cq) (.ns .u64 xs)) (hl : xs.length ≤ 1000000) (hxb : ∀ k, k < xs.length → 0 ≤ xs.getD k 0 ∧ xs.getD k 0 < 2 ^ 64) :
   Calls Tryz.prog 87 #[.slice q xs.length cq] w0 fun e w' => ∃ (p : Option Addr) (c : Nat), e = .returned (.slice p (encs xs).length c) ∧ w'.ownsRow w0.heap.size 5 1 (.slice p (encs xs).length c) (encs xs).length ((encs xs).map (Value.int .u8)) ∧ Below w0.heap.size w0 w' := by
 refine ent1 Tryz.func87 rfl Tryz.ntmps87 fun Az Hz => ?_
 have m0 := MemOk.start (fun _ => False) w0
 refine regS Hz (.assign rfl .nil) fun Az Hz => ?_
 refine regS Hz (.assign rfl .nil) fun Az Hz => ?_
 refine wsk fun K0 hK0 => ?_
 refine regS Hz (.assign rfl .nil) fun Az Hz => ?_
 refine wp_block ?_
 refine wp_loop_ghost (fun g a w => ∃ (k : Nat) (b : List Int) (p : Option Addr) (c : Nat), k ≤ xs.length ∧ g = xs.length - k ∧ b = encs (xs.take k) ∧ Has 32 [(0, .slice q xs.length cq), (3, .slice p b.length c), (4, .int .i64 k)] a ∧ MemOk (cn w0) w0 [(9, .num (.slice p b.length c) 5 .u8 b)] w) (xs.length) ?_ ?_
 · have mz := m0.nilN 9 5 .u8
   exact ⟨0, [], _, _, Nat.zero_le _, rfl, rfl, Hz.only [0, 3, 4], mz.only [9]⟩
 clear Hz m0
 rintro g Az w4 ⟨k, b, p, c, hkl, hg, hbe, Hz, m4⟩
 refine wsk fun K1 hK1 => ?_
 refine regS Hz (.move rfl <| .move rfl <| .len rfl U212 <| .lss rfl rfl .nil) fun Az Hz => ?_
 refine bc Hz 9 ?_ ?_
 ·
  intro hb9 Hz; try simp only [QQ, Qax] at hb9
  have hk : k < xs.length := by omega
  have hxk := hxb k hk
  refine wct Hz ?_
  refine zss (hK1 _ _ ?_)
  refine wsk fun K2 hK2 => ?_
  refine wp_block ?_
  refine zsr fun K3 hK3 => ?_
  refine goCh Hz (.move rfl <| .move rfl .nil) fun Az Hz => ?_
  obtain ⟨gx15, ox15, hp15, hl15, hrg15⟩ := h0.extN (k) hk
  revert Hz
  cases hp15
  intro Hz
  refine gz hK3 Hz (.c rfl (fun _ h_ => y_idx h_ rfl rfl U212 fct20 (k) rfl hk) <| .loadAt1 (hrg15 m4 rfl) (q := 0) rfl rfl rfl U149 rfl <| .assign rfl <| .nil) fun Az Hz => ?_
  refine wsk fun K4 hK4 => ?_
  refine wp_block ?_
  refine wp_loop_ghost (fun g a w => ∃ (j u : Nat) (b : List Int) (p : Option Addr) (c : Nat), j ≤ 9 ∧ (u : Int) < 2 ^ (64 - 7 * j) ∧ g = u ∧ b.length ≤ 10 * k + j ∧ b ++ encF (9 - j) u = encs (xs.take k) ++ enc (xs.getD k 0) ∧ Has 32 [(0, .slice (some ⟨gx15, ox15, none⟩) xs.length cq), (3, .slice p b.length c), (4, .int .i64 k), (5, .int .u64 (u : Int))] a ∧ MemOk (cn w0) w0 [(9, .num (.slice p b.length c) 5 .u8 b)] w) ((xs.getD k 0).toNat) ?_ ?_
  · obtain ⟨u0, hu0⟩ : ∃ u : Nat, xs.getD k 0 = u := ⟨(xs.getD k 0).toNat, by omega⟩
    rw [hu0] at Hz
    exact ⟨0, u0, b, _, _, by omega, by have := hxk.2; rw [hu0] at this; simpa using this, by rw [hu0]; rfl, by rw [hbe]; have := encs_len (xs.take k); rw [List.length_take] at this; omega, by rw [hbe, hu0]; rfl, Hz.only [0, 3, 4, 5], m4.only [9]⟩
  clear Hz m4
  rintro g Az w19 ⟨j, u, b, p, c, hj9, hu1, hg2, hbl2, hbe2, Hz, m19⟩
  refine wsk fun K5 hK5 => ?_
  refine regS Hz (.move rfl <| .geq rfl rfl .nil) fun Az Hz => ?_
  refine bc Hz 17 ?_ ?_
  ·
   intro hb22 Hz; try simp only [QQ, Qax] at hb22
   have hub : 128 ≤ u := by omega
   have hz : IntKind.u8.wrap ((BitVec.ofInt IntKind.u8.bits (IntKind.u8.wrap (u : Int)) ||| BitVec.ofInt IntKind.u8.bits 128).toNat) = ((u % 128 + 128 : Nat) : Int) := leb_or u
   obtain ⟨hj8, hu2⟩ := leb_stepx hj9 hu1 (by omega)
   refine wct Hz ?_
   refine zss (hK5 _ _ ?_)
   refine wp_block ?_
   refine zsr fun K6 hK6 => ?_
   refine goCh Hz (.move rfl <| .move rfl <| .conv rfl U149 U5 rfl <| .or rfl rfl (r := ((u % 128 + 128 : Nat) : Int)) hz .nil) fun Az Hz => ?_
   refine plz (e_litN Hz m19 200 (k := .u8) rfl rfl U22 fct19 rfl rfl rfl rfl fun g31 Az w32 Hz m32 => ?_)
   refine plz (e_appN Hz m32 9 rfl rfl rfl (m32.numsO (i := 200) rfl) U22 fct19 (by decide) (by simp; omega) rfl fun p33 c33 Az w34 Hz m34 => ?_)
   refine gz hK6 Hz (.assign rfl .nil) fun Az Hz => ?_
   replace Hz := Hz.oz [0, 3, 4, 5]
   refine wp_region_lit ?_
   refine goCh Hz (.move rfl <| .shr rfl rfl (by decide) (r := ((u / 128 : Nat) : Int)) (by rw [show (2 : Int) ^ min (7 : Int).toNat IntKind.u64.bits = 128 from by decide, Int.fdiv_eq_ediv_of_nonneg _ (by decide)]; omega) <| .assign rfl .nil) fun Az Hz => ?_
   refine wpList_nil ?_
   show ∃ n', n' < _ ∧ _
   exact ⟨u / 128, by omega, j + 1, u / 128, _, _, _, hj8, by omega, rfl, by simp; omega, by rw [← hbe2, leb_more (by omega) hub, List.append_assoc]; try rfl, Hz.only [0, 3, 4, 5], m34.only [9]⟩
  intro hb22 Hz; try simp only [QQ, Qax] at hb22
  have hub : u < 128 := by omega
  refine wcf Hz ?_
  refine wp_exit ?_
  refine hK4 _ _ ?_
  refine wp_region_lit ?_
  refine goCh Hz (.move rfl <| .move rfl <| .conv rfl U149 U5 (r := (u : Int)) (IntWalk.u8_in _ (by omega)) .nil) fun Az Hz => ?_
  refine plz (e_litN Hz m19 200 (k := .u8) rfl rfl U22 fct19 rfl rfl rfl rfl fun g43 Az w44 Hz m44 => ?_)
  refine plz (e_appN Hz m44 9 rfl rfl rfl (m44.numsO (i := 200) rfl) U22 fct19 (by decide) (by simp; omega) rfl fun p45 c45 Az w46 Hz m46 => ?_)
  refine gz hK2 Hz (.assign rfl .nil) fun Az Hz => ?_
  replace Hz := Hz.oz [0, 3, 4, 5]
  refine wp_region_lit ?_
  refine goCh Hz (.move rfl <| .inc (k + 1) <| .assign rfl .nil) fun Az Hz => ?_
  refine wpList_nil ?_
  show ∃ n', n' < _ ∧ _
  exact ⟨xs.length - (k + 1), by omega, k + 1, _, _, _, by omega, rfl, by rw [encs_snoc _ _ hk, ← hbe2, leb_end (by omega) hub]; try rfl, Hz.only [0, 3, 4], m46.only [9]⟩
 intro hb9 Hz; try simp only [QQ, Qax] at hb9
 revert Hz
 obtain rfl : k = xs.length := by omega
 intro Hz
 refine wcf Hz ?_
 refine wp_exit ?_
 refine hK0 _ _ ?_
 refine regS Hz (.move rfl <| .assign rfl .nil) fun Az Hz => ?_
 refine rt1 Hz ?_
 rw [List.take_length] at hbe
 revert Hz
 subst hbe
 intro Hz
 exact ⟨_, _, rfl, m4.ok 9 _ rfl, m4.below⟩
theorem rnums16x (xs : List Int) (q : Option Addr) (cq : Nat) (w0 : World) (h0 : Rd (fun _ => True) w0 (.slice q xs.length cq) (.ns .i64 xs)) (hl : xs.length ≤ 1000000) (hxb : ∀ k, k < xs.length → 0 ≤ xs.getD k 0 ∧ xs.getD k 0 ≤ 9223372036854775807) :
   Calls Tryz.prog 58 #[.slice q xs.length cq] w0 fun e w' => ∃ (p : Option Addr) (c : Nat), e = .returned (.slice p (encs xs).length c) ∧ w'.ownsRow w0.heap.size 5 1 (.slice p (encs xs).length c) (encs xs).length ((encs xs).map (Value.int .u8)) ∧ Below w0.heap.size w0 w' := by
 refine ent1 Tryz.func58 rfl Tryz.ntmps58 fun Az Hz => ?_
 have m0 := MemOk.start (fun _ => False) w0
 refine regS Hz (.assign rfl .nil) fun Az Hz => ?_
 refine regS Hz (.assign rfl .nil) fun Az Hz => ?_
 refine wsk fun K0 hK0 => ?_
 refine regS Hz (.assign rfl .nil) fun Az Hz => ?_
 refine wp_block ?_
 refine wp_loop_ghost (fun g a w => ∃ (k : Nat) (b : List Int) (p : Option Addr) (c : Nat), k ≤ xs.length ∧ g = xs.length - k ∧ b = encs (xs.take k) ∧ Has 21 [(0, .slice q xs.length cq), (3, .slice p b.length c), (4, .int .i64 k)] a ∧ MemOk (cn w0) w0 [(9, .num (.slice p b.length c) 5 .u8 b)] w) (xs.length) ?_ ?_
 · have mz := m0.nilN 9 5 .u8
   exact ⟨0, [], _, _, Nat.zero_le _, rfl, rfl, Hz.only [0, 3, 4], mz.only [9]⟩
 clear Hz m0
 rintro g Az w4 ⟨k, b, p, c, hkl, hg, hbe, Hz, m4⟩
 refine wsk fun K1 hK1 => ?_
 refine regS Hz (.move rfl <| .move rfl <| .len rfl U30 <| .lss rfl rfl .nil) fun Az Hz => ?_
 refine bc Hz 8 ?_ ?_
 ·
  intro hb9 Hz; try simp only [QQ, Qax] at hb9
  have hk : k < xs.length := by omega
  have hxk := hxb k hk
  refine wct Hz ?_
  refine zss (hK1 _ _ ?_)
  refine wsk fun K2 hK2 => ?_
  refine wp_block ?_
  refine wp_region_lit ?_
  refine goCh Hz (.move rfl <| .move rfl <| .move rfl .nil) fun Az Hz => ?_
  obtain ⟨gx13, ox13, hp13, hl13, hrg13⟩ := h0.extN (k) hk
  revert Hz
  cases hp13
  intro Hz
  refine goCh Hz (.c rfl (fun _ h_ => y_idx h_ rfl rfl U30 fct10 (k) rfl hk) <| .loadAt1 (hrg13 m4 rfl) (q := 0) rfl rfl rfl U2 rfl <| .conv rfl U2 U149 (r := xs.getD k 0) (IntWalk.u64_in _ (by omega)) .nil) fun Az Hz => ?_
  refine plz (e_litN Hz m4 100 (k := .u64) rfl rfl U212 fct21 rfl rfl rfl rfl fun g17 Az w18 Hz m18 => ?_)
  have m19 := m18.freezeN 100 rfl
  refine plz (ecn Hz Tryz.func87 rfl m19 101 (rput_x [xs.getD k 0] _ _ _ ((m19.rd (i := 100) rfl).any) (by simp) (one64 (by omega))) fun p20 c20 Az w20 Hz m21 => ?_)
  refine plz (e_appN Hz m21 9 rfl rfl rfl (m21.numsO (i := 101) rfl) U22 fct19 (by decide) (by rw [hbe]; have h8 := encs_len (xs.take k); rw [List.length_take] at h8; have h9 := encs_len [xs.getD k 0]; rw [List.length_singleton] at h9; omega) rfl fun p23 c23 Az w24 Hz m24 => ?_)
  refine gz hK2 Hz (.assign rfl .nil) fun Az Hz => ?_
  replace Hz := Hz.oz [0, 3, 4]
  refine wp_region_lit ?_
  refine goCh Hz (.move rfl <| .inc (k + 1) <| .assign rfl .nil) fun Az Hz => ?_
  refine wpList_nil ?_
  show ∃ n', n' < _ ∧ _
  exact ⟨xs.length - (k + 1), by omega, k + 1, _, _, _, by omega, rfl, by rw [encs_snoc _ _ hk, ← hbe, encs_one], Hz.only [0, 3, 4], m24.only [9]⟩
 intro hb9 Hz; try simp only [QQ, Qax] at hb9
 revert Hz
 obtain rfl : k = xs.length := by omega
 intro Hz
 refine wcf Hz ?_
 refine wp_exit ?_
 refine hK0 _ _ ?_
 refine regS Hz (.move rfl <| .assign rfl .nil) fun Az Hz => ?_
 refine rt1 Hz ?_
 rw [List.take_length] at hbe
 revert Hz
 subst hbe
 intro Hz
 exact ⟨_, _, rfl, m4.ok 9 _ rfl, m4.below⟩
theorem rnums13x (xs : List Int) (q : Option Addr) (cq : Nat) (w0 : World) (h0 : Rd (fun _ => True) w0 (.slice q xs.length cq) (.ns .i64 xs)) (hl : xs.length ≤ 1000000) (hxb : ∀ k, k < xs.length → 0 ≤ xs.getD k 0 ∧ xs.getD k 0 ≤ 9223372036854775807) :
   Calls Tryz.prog 88 #[.slice q xs.length cq] w0 fun e w' => ∃ (p : Option Addr) (c : Nat), e = .returned (.slice p (encs xs).length c) ∧ w'.ownsRow w0.heap.size 5 1 (.slice p (encs xs).length c) (encs xs).length ((encs xs).map (Value.int .u8)) ∧ Below w0.heap.size w0 w' := by
 refine ent1 Tryz.func88 rfl Tryz.ntmps88 fun Az Hz => ?_
 have m0 := MemOk.start (fun _ => False) w0
 refine regS Hz (.assign rfl .nil) fun Az Hz => ?_
 refine regS Hz (.assign rfl .nil) fun Az Hz => ?_
 refine wsk fun K0 hK0 => ?_
 refine regS Hz (.assign rfl .nil) fun Az Hz => ?_
 refine wp_block ?_
 refine wp_loop_ghost (fun g a w => ∃ (k : Nat) (b : List Int) (p : Option Addr) (c : Nat), k ≤ xs.length ∧ g = xs.length - k ∧ b = encs (xs.take k) ∧ Has 21 [(0, .slice q xs.length cq), (3, .slice p b.length c), (4, .int .i64 k)] a ∧ MemOk (cn w0) w0 [(9, .num (.slice p b.length c) 5 .u8 b)] w) (xs.length) ?_ ?_
 · have mz := m0.nilN 9 5 .u8
   exact ⟨0, [], _, _, Nat.zero_le _, rfl, rfl, Hz.only [0, 3, 4], mz.only [9]⟩
 clear Hz m0
 rintro g Az w4 ⟨k, b, p, c, hkl, hg, hbe, Hz, m4⟩
 refine wsk fun K1 hK1 => ?_
 refine regS Hz (.move rfl <| .move rfl <| .len rfl U30 <| .lss rfl rfl .nil) fun Az Hz => ?_
 refine bc Hz 8 ?_ ?_
 ·
  intro hb9 Hz; try simp only [QQ, Qax] at hb9
  have hk : k < xs.length := by omega
  have hxk := hxb k hk
  refine wct Hz ?_
  refine zss (hK1 _ _ ?_)
  refine wsk fun K2 hK2 => ?_
  refine wp_block ?_
  refine wp_region_lit ?_
  refine goCh Hz (.move rfl <| .move rfl <| .move rfl .nil) fun Az Hz => ?_
  obtain ⟨gx13, ox13, hp13, hl13, hrg13⟩ := h0.extN (k) hk
  revert Hz
  cases hp13
  intro Hz
  refine goCh Hz (.c rfl (fun _ h_ => y_idx h_ rfl rfl U30 fct10 (k) rfl hk) <| .loadAt1 (hrg13 m4 rfl) (q := 0) rfl rfl rfl U2 rfl <| .conv rfl U2 U149 (r := xs.getD k 0) (IntWalk.u64_in _ (by omega)) .nil) fun Az Hz => ?_
  refine plz (e_litN Hz m4 100 (k := .u64) rfl rfl U212 fct21 rfl rfl rfl rfl fun g17 Az w18 Hz m18 => ?_)
  have m19 := m18.freezeN 100 rfl
  refine plz (ecn Hz Tryz.func87 rfl m19 101 (rput_x [xs.getD k 0] _ _ _ ((m19.rd (i := 100) rfl).any) (by simp) (one64 (by omega))) fun p20 c20 Az w20 Hz m21 => ?_)
  refine plz (e_appN Hz m21 9 rfl rfl rfl (m21.numsO (i := 101) rfl) U22 fct19 (by decide) (by rw [hbe]; have h8 := encs_len (xs.take k); rw [List.length_take] at h8; have h9 := encs_len [xs.getD k 0]; rw [List.length_singleton] at h9; omega) rfl fun p23 c23 Az w24 Hz m24 => ?_)
  refine gz hK2 Hz (.assign rfl .nil) fun Az Hz => ?_
  replace Hz := Hz.oz [0, 3, 4]
  refine wp_region_lit ?_
  refine goCh Hz (.move rfl <| .inc (k + 1) <| .assign rfl .nil) fun Az Hz => ?_
  refine wpList_nil ?_
  show ∃ n', n' < _ ∧ _
  exact ⟨xs.length - (k + 1), by omega, k + 1, _, _, _, by omega, rfl, by rw [encs_snoc _ _ hk, ← hbe, encs_one], Hz.only [0, 3, 4], m24.only [9]⟩
 intro hb9 Hz; try simp only [QQ, Qax] at hb9
 revert Hz
 obtain rfl : k = xs.length := by omega
 intro Hz
 refine wcf Hz ?_
 refine wp_exit ?_
 refine hK0 _ _ ?_
 refine regS Hz (.move rfl <| .assign rfl .nil) fun Az Hz => ?_
 refine rt1 Hz ?_
 rw [List.take_length] at hbe
 revert Hz
 subst hbe
 intro Hz
 exact ⟨_, _, rfl, m4.ok 9 _ rfl, m4.below⟩
theorem rlump_x (xs : List Int) (q : Option Addr) (cq : Nat) (w0 : World) (h0 : Rd (fun _ => True) w0 (.slice q xs.length cq) (.ns .u8 xs)) (hl : xs.length ≤ 1000000) :
   Calls Tryz.prog 89 #[.slice q xs.length cq] w0 fun e w' => ∃ (p : Option Addr) (c : Nat), e = .returned (.slice p (enc xs.length ++ xs).length c) ∧ w'.ownsRow w0.heap.size 5 1 (.slice p (enc xs.length ++ xs).length c) (enc xs.length ++ xs).length ((enc xs.length ++ xs).map (Value.int .u8)) ∧ Below w0.heap.size w0 w' := by
 refine ent1 Tryz.func89 rfl Tryz.ntmps89 fun Az Hz => ?_
 have m0 := MemOk.start (fun _ => False) w0
 refine regS Hz (.assign rfl .nil) fun Az Hz => ?_
 refine zsr fun K0 hK0 => ?_
 refine goCh Hz (.move rfl <| .len rfl U22 <| .conv rfl U3 U149 (r := (xs.length : Int)) (IntWalk.u64_in _ (by omega)) .nil) fun Az Hz => ?_
 refine plz (e_litN Hz m0 20 (k := .u64) rfl rfl U212 fct21 rfl rfl rfl rfl fun g8 Az w9 Hz m9 => ?_)
 have m10 := m9.freezeN 20 rfl
 refine plz (ecn Hz Tryz.func87 rfl m10 21 (rput_x [(xs.length : Int)] _ _ _ ((m10.rd (i := 20) rfl).any) (by simp) (one64 (by omega))) fun p11 c11 Az w11 Hz m12 => ?_)
 refine goCh Hz (.move rfl .nil) fun Az Hz => ?_
 refine plz (e_appN Hz m12 21 rfl rfl rfl (h0.now' m12 rfl).ns_out.nums U22 fct19 (by decide) (by have h9 := encs_len [(xs.length : Int)]; rw [List.length_singleton] at h9; omega) rfl fun p15 c15 Az w16 Hz m16 => ?_)
 refine gz hK0 Hz (.assign rfl .nil) fun Az Hz => ?_
 refine rt1 Hz ?_
 have hE : encs [(xs.length : Int)] ++ xs = enc xs.length ++ xs := by rw [encs_one]
 rw [hE] at m16
 exact ⟨_, _, by rw [hE], m16.ok 21 _ rfl, m16.below⟩
theorem rplace_x (xs : List Int) (q : Option Addr) (cq : Nat) (w0 : World) (h0 : Rd (fun _ => True) w0 (.slice q xs.length cq) (.ns .i64 xs)) (hl : xs.length ≤ 1000000) (hxb : ∀ k, k < xs.length → 0 ≤ xs.getD k 0 ∧ xs.getD k 0 ≤ 9223372036854775807) :
   Calls Tryz.prog 59 #[.slice q xs.length cq] w0 fun e w' => ∃ (p : Option Addr) (c : Nat), e = .returned (.slice p (encs ((xs.length : Int) :: xs)).length c) ∧ w'.ownsRow w0.heap.size 5 1 (.slice p (encs ((xs.length : Int) :: xs)).length c) (encs ((xs.length : Int) :: xs)).length ((encs ((xs.length : Int) :: xs)).map (Value.int .u8)) ∧ Below w0.heap.size w0 w' := by
 refine ent1 Tryz.func59 rfl Tryz.ntmps59 fun Az Hz => ?_
 have m0 := MemOk.start (fun _ => False) w0
 refine regS Hz (.assign rfl .nil) fun Az Hz => ?_
 refine zsr fun K0 hK0 => ?_
 refine goCh Hz (.move rfl <| .len rfl U29 .nil) fun Az Hz => ?_
 refine plz (e_litN Hz m0 20 (k := .i64) rfl rfl U30 fct22 rfl rfl rfl rfl fun g6 Az w7 Hz m7 => ?_)
 have m8 := m7.freezeN 20 rfl
 refine plz (ecn Hz Tryz.func58 rfl m8 21 (rnums16x [(xs.length : Int)] _ _ _ ((m8.rd (i := 20) rfl).any) (by simp) (one63 (by omega))) fun p9 c9 Az w9 Hz m10 => ?_)
 refine gz hK0 Hz (.assign rfl .nil) fun Az Hz => ?_
 refine wsk fun K1 hK1 => ?_
 refine regS Hz (.assign rfl .nil) fun Az Hz => ?_
 refine wp_block ?_
 refine wp_loop_ghost (fun g a w => ∃ (k : Nat) (b : List Int) (p : Option Addr) (c : Nat), k ≤ xs.length ∧ g = xs.length - k ∧ b = encs ((xs.length : Int) :: xs.take k) ∧ Has 24 [(0, .slice q xs.length cq), (3, .slice p b.length c), (4, .int .i64 k)] a ∧ MemOk (cn w0) w0 [(9, .num (.slice p b.length c) 5 .u8 b)] w) (xs.length) ?_ ?_
 · exact ⟨0, _, _, _, Nat.zero_le _, rfl, by simp, Hz.only [0, 3, 4], m10.ren [(9, 21)] (by decide)⟩
 clear Hz m10
 rintro g Az w14 ⟨k, b, p, c, hkl, hg, hbe, Hz, m14⟩
 refine wsk fun K2 hK2 => ?_
 refine regS Hz (.move rfl <| .move rfl <| .len rfl U29 <| .lss rfl rfl .nil) fun Az Hz => ?_
 refine bc Hz 12 ?_ ?_
 ·
  intro hb19 Hz; try simp only [QQ, Qax] at hb19
  have hk : k < xs.length := by omega
  have hxk := hxb k hk
  refine wct Hz ?_
  refine zss (hK2 _ _ ?_)
  refine wsk fun K3 hK3 => ?_
  refine wp_block ?_
  refine wp_region_lit ?_
  refine goCh Hz (.move rfl <| .move rfl <| .move rfl .nil) fun Az Hz => ?_
  obtain ⟨gx23, ox23, hp23, hl23, hrg23⟩ := h0.extN (k) hk
  revert Hz
  cases hp23
  intro Hz
  refine goCh Hz (.c rfl (fun _ h_ => y_idx h_ rfl rfl U29 fct23 (k) rfl hk) <| .loadAt1 (hrg23 m14 rfl) (q := 0) rfl rfl rfl U3 rfl .nil) fun Az Hz => ?_
  refine plz (e_litN Hz m14 100 (k := .i64) rfl rfl U30 fct22 rfl rfl rfl rfl fun g26 Az w27 Hz m27 => ?_)
  have m28 := m27.freezeN 100 rfl
  refine plz (ecn Hz Tryz.func58 rfl m28 101 (rnums16x [xs.getD k 0] _ _ _ ((m28.rd (i := 100) rfl).any) (by simp) (one63 (by omega))) fun p29 c29 Az w29 Hz m30 => ?_)
  refine plz (e_appN Hz m30 9 rfl rfl rfl (m30.numsO (i := 101) rfl) U22 fct19 (by decide) (by rw [hbe]; have h8 := encs_len ((xs.length : Int) :: xs.take k); simp only [List.length_cons, List.length_take] at h8; have h9 := encs_len [xs.getD k 0]; rw [List.length_singleton] at h9; omega) rfl fun p32 c32 Az w33 Hz m33 => ?_)
  refine gz hK3 Hz (.assign rfl .nil) fun Az Hz => ?_
  replace Hz := Hz.oz [0, 3, 4]
  refine wp_region_lit ?_
  refine goCh Hz (.move rfl <| .inc (k + 1) <| .assign rfl .nil) fun Az Hz => ?_
  refine wpList_nil ?_
  show ∃ n', n' < _ ∧ _
  exact ⟨xs.length - (k + 1), by omega, k + 1, _, _, _, by omega, rfl, by rw [hbe, encs_cons _ (xs.take k), encs_cons _ (xs.take (k + 1)), encs_snoc _ _ hk, encs_one, List.append_assoc], Hz.only [0, 3, 4], m33.only [9]⟩
 intro hb19 Hz; try simp only [QQ, Qax] at hb19
 revert Hz
 obtain rfl : k = xs.length := by omega
 intro Hz
 refine wcf Hz ?_
 refine wp_exit ?_
 refine hK1 _ _ ?_
 refine regS Hz (.move rfl <| .assign rfl .nil) fun Az Hz => ?_
 refine rt1 Hz ?_
 rw [List.take_length] at hbe
 revert Hz
 subst hbe
 intro Hz
 exact ⟨_, _, rfl, m14.ok 9 _ rfl, m14.below⟩
theorem rputItems_x (es : List (Int × List Int)) (q : Option Addr) (nn cq : Nat) (w0 : World) (h0 : Rd (fun _ => True) w0 (.slice q nn cq) (.l 2 (es.map itD))) (hl : es.length ≤ 10000) (hok : ∀ e ∈ es, (0 ≤ e.1 ∧ e.1 ≤ 9223372036854775807) ∧ e.2.length ≤ 1000) :
   Calls Tryz.prog 60 #[.slice q nn cq] w0 fun e w' => ∃ (p : Option Addr) (c : Nat), e = .returned (.slice p (enc es.length ++ itemsE es).length c) ∧ w'.ownsRow w0.heap.size 5 1 (.slice p (enc es.length ++ itemsE es).length c) (enc es.length ++ itemsE es).length ((enc es.length ++ itemsE es).map (Value.int .u8)) ∧ Below w0.heap.size w0 w' := by
 obtain rfl : nn = es.length := by obtain ⟨pq, c9, hv, _⟩ := h0.l_shape; injection hv with _ e2 _; rw [List.length_map] at e2; exact e2
 refine ent1 Tryz.func60 rfl Tryz.ntmps60 fun Az Hz => ?_
 have m0 := MemOk.start (fun _ => False) w0
 refine regS Hz (.assign rfl .nil) fun Az Hz => ?_
 refine zsr fun K0 hK0 => ?_
 refine goCh Hz (.move rfl <| .len rfl U40 .nil) fun Az Hz => ?_
 refine plz (e_litN Hz m0 20 (k := .i64) rfl rfl U30 fct22 rfl rfl rfl rfl fun g6 Az w7 Hz m7 => ?_)
 have m8 := m7.freezeN 20 rfl
 refine plz (ecn Hz Tryz.func88 rfl m8 21 (rnums13x [(es.length : Int)] _ _ _ ((m8.rd (i := 20) rfl).any) (by simp) (one63 (by omega))) fun p9 c9 Az w9 Hz m10 => ?_)
 refine gz hK0 Hz (.assign rfl .nil) fun Az Hz => ?_
 refine wsk fun K1 hK1 => ?_
 refine regS Hz (.assign rfl .nil) fun Az Hz => ?_
 refine wp_block ?_
 refine wp_loop_ghost (fun g a w => ∃ (k : Nat) (b : List Int) (p : Option Addr) (c : Nat), k ≤ es.length ∧ g = es.length - k ∧ b = enc es.length ++ itemsE (es.take k) ∧ Has 32 [(0, .slice q es.length cq), (3, .slice p b.length c), (4, .int .i64 k)] a ∧ MemOk (cn w0) w0 [(9, .num (.slice p b.length c) 5 .u8 b)] w) (es.length) ?_ ?_
 · exact ⟨0, _, _, _, Nat.zero_le _, rfl, by rw [encs_one]; simp [itemsE], Hz.only [0, 3, 4], m10.ren [(9, 21)] (by decide)⟩
 clear Hz m10
 rintro g Az w14 ⟨k, b, p, c, hkl, hg, hbe, Hz, m14⟩
 refine wsk fun K2 hK2 => ?_
 refine regS Hz (.move rfl <| .move rfl <| .len rfl U40 <| .lss rfl rfl .nil) fun Az Hz => ?_
 refine bc Hz 12 ?_ ?_
 ·
  intro hb19 Hz; try simp only [QQ, Qax] at hb19
  have hk : k < es.length := by omega
  obtain ⟨⟨xb, xd⟩, hes⟩ : ∃ e, es[k]? = some e := ⟨_, List.getElem?_eq_getElem hk⟩
  have hed := hok _ (List.mem_of_getElem? hes)
  dsimp only at hed
  refine wct Hz ?_
  refine zss (hK2 _ _ ?_)
  refine wsk fun K3 hK3 => ?_
  refine wp_block ?_
  obtain ⟨gx21, ox21, vx21, hp21, hl21, hR21, hrg21⟩ := h0.extA (k) (r := [.v (.int .i64 xb), .ns .u8 xd]) (itD_get hes)
  revert Hz
  cases hp21
  rcases hR21 with _ | ⟨hd21_0, _ | ⟨hd21_1, _ | _⟩⟩
  obtain rfl := hd21_0.v_out
  clear hd21_0
  obtain ⟨p22, c22, hv22, hw22⟩ := hd21_1.ns_shape; subst hv22
  intro Hz
  obtain ⟨gx24, ox24, vx24, hp24, hl24, hR24, hrg24⟩ := h0.extA (k) (r := [.v (.int .i64 xb), .ns .u8 xd]) (itD_get hes)
  revert Hz
  cases hp24
  rcases hR24 with _ | ⟨hd24_0, _ | ⟨hd24_1, _ | _⟩⟩
  obtain rfl := hd24_0.v_out
  clear hd24_0
  obtain ⟨p25, c25, hv25, hw25⟩ := hd24_1.ns_shape; subst hv25
  intro Hz
  have m26 := m14.oz [9]
  refine region_p 17 (B := []) (m26.to trivial) m26 (by kernel_rfl) (fun w27 hP27 m27 => ?_); clear m26
  refine goR hP27 [0, 1, 2, 3, 4, 5, 9, 10, 11, 12, 13] [5, 13] 11 0 15935 Hz (m27.to trivial) (.move rfl <| .move rfl <| .move rfl <| .p (fun _ _ h_ => y_idx h_ rfl rfl U40 fct16 (k) rfl hk) <| .fieldAddrQ 0 rfl U111 rfl (s := 0) (by kernel_rfl) rfl <| .loadAt1 (fun _ h_ => (hrg21 h_ rfl)) (q := 0) rfl rfl rfl U3 rfl <| .move rfl <| .move rfl <| .p (fun _ _ h_ => y_idx h_ rfl rfl U40 fct16 (k) rfl hk) <| .fieldAddrQ 1 rfl U111 rfl (s := 0) (by kernel_rfl) rfl <| .loadAt1 (fun _ h_ => (hrg24 h_ rfl)) (q := 1) rfl rfl rfl U22 rfl .nil) fun Az Hz => ?_
  refine so 6 ?_
  refine e_litN Hz m27 102 (k := .i64) rfl rfl U30 fct22 rfl rfl rfl rfl fun g39 Az w40 Hz m40 => ?_
  refine ⟨m40.to trivial, ?_⟩
  have m41 := m40.freezeN 102 rfl
  refine so 7 ?_
  refine ecn Hz Tryz.func88 rfl m41 103 (rnums13x [xb] _ _ _ ((m41.rd (i := 102) rfl).any) (by simp) (one63 (by omega))) fun p42 c42 Az w42 Hz m43 => ?_
  refine ⟨m43.to trivial, ?_⟩
  refine so 8 ?_
  refine e_appN Hz m43 9 rfl rfl rfl (m43.numsO (i := 103) rfl) U22 fct19 (by decide) (by rw [hbe]; have h8 := itemsE_len (es.take k) (fun e he => (hok e (List.mem_of_mem_take he)).2); rw [List.length_take] at h8; have h9 := encs_len [xb]; rw [List.length_singleton] at h9; have h7 := (enc_len es.length).1; have h6 := (enc_len xd.length).1; simp only [List.length_append]; omega) rfl fun p45 c45 Az w46 Hz m46 => ?_
  refine ⟨m46.to trivial, ?_⟩
  refine so 14 ?_
  refine ecn Hz Tryz.func89 rfl m46 104 (rlump_x xd _ _ _ ((hd24_1.now' m46 rfl).any) (by omega)) fun p47 c47 Az w47 Hz m48 => ?_
  refine ⟨m48.to trivial, ?_⟩
  refine so 15 ?_
  refine e_appN Hz m48 9 rfl rfl rfl (m48.numsO (i := 104) rfl) U22 fct19 (by decide) (by rw [hbe]; have h8 := itemsE_len (es.take k) (fun e he => (hok e (List.mem_of_mem_take he)).2); rw [List.length_take] at h8; have h9 := encs_len [xb]; rw [List.length_singleton] at h9; have h7 := (enc_len es.length).1; have h6 := (enc_len xd.length).1; simp only [List.length_append]; omega) rfl fun p50 c50 Az w51 Hz m51 => ?_
  refine ⟨m51.to trivial, ?_⟩
  refine goA hP27 [16] 1 65535 131071 Hz (m51.to trivial) (.assign rfl .nil) fun Az Hz => ?_
  refine wpAnyE_done (by kernel_rfl) ?_ _
  refine hK3 _ _ ?_
  replace Hz := Hz.oz [0, 3, 4]
  refine wp_region_lit ?_
  refine goCh Hz (.move rfl <| .inc (k + 1) <| .assign rfl .nil) fun Az Hz => ?_
  refine wpList_nil ?_
  show ∃ n', n' < _ ∧ _
  exact ⟨es.length - (k + 1), by omega, k + 1, _, _, _, by omega, rfl, by rw [hbe, itemsE_snoc hes, encs_one]; simp only [itemE, List.append_assoc], Hz.only [0, 3, 4], m51.only [9]⟩
 intro hb19 Hz; try simp only [QQ, Qax] at hb19
 revert Hz
 obtain rfl : k = es.length := by omega
 intro Hz
 refine wcf Hz ?_
 refine wp_exit ?_
 refine hK1 _ _ ?_
 refine regS Hz (.move rfl <| .assign rfl .nil) fun Az Hz => ?_
 refine rt1 Hz ?_
 rw [List.take_length] at hbe
 revert Hz
 subst hbe
 intro Hz
 exact ⟨_, _, rfl, m14.ok 9 _ rfl, m14.below⟩
end
end Go.Proofs.YtamjnimaeecmoaaGreat.K
