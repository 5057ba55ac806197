/- ExportNothing's, ExportErrors' walks. -/
import Derived.Test.YtamjnimaeecmoaaGreatExp5
namespace Go.Proofs.YtamjnimaeecmoaaGreat.K
open Go.ChangeShapes Go.WideShapes Go.ChangeAt Go.RowKit
set_option linter.unusedVariables false
set_option linter.unusedSimpArgs false
theorem tm_at {x d : Int} (hx : 0 ≤ x) (hd : 0 < d) : ∃ r : Int, x.tmod d = r ∧ 0 ≤ r := ⟨_, rfl, by rw [Int.tmod_eq_emod_of_nonneg hx]; exact Int.emod_nonneg x (by omega)⟩
def WantS (y : VolV) (nb : Bool) (f t W : Int) : Prop := (y.hi = true ∧ W = 28) ∨ (y.hi = false ∧ t < f ∧ W = 23) ∨ (y.hi = false ∧ f ≤ t ∧ f < y.fl ∧ W = 30) ∨ (y.hi = false ∧ f ≤ t ∧ y.fl ≤ f ∧ (y.ws.length : Int) < t ∧ W = 31) ∨ (y.hi = false ∧ f ≤ t ∧ y.fl ≤ f ∧ t ≤ (y.ws.length : Int) ∧ nb = true ∧ W = 32) ∨ (y.hi = false ∧ f ≤ t ∧ y.fl ≤ f ∧ t ≤ (y.ws.length : Int) ∧ nb = false ∧ W = 0)
def WantF (y : VolV) (nb : Bool) (t W : Int) : Prop := (y.hi = true ∧ W = 28) ∨ (y.hi = false ∧ t < y.fl ∧ W = 30) ∨ (y.hi = false ∧ y.fl ≤ t ∧ (y.ws.length : Int) < t ∧ W = 31) ∨ (y.hi = false ∧ y.fl ≤ t ∧ t ≤ (y.ws.length : Int) ∧ nb = true ∧ W = 32) ∨ (y.hi = false ∧ y.fl ≤ t ∧ t ≤ (y.ws.length : Int) ∧ nb = false ∧ W = 0)
theorem want_hid {y : VolV} {nb : Bool} {f t W : Int} (h : WantS y nb f t W) (hhi : y.hi = true) : W = 28 := by
 rcases h with ⟨-, h⟩ | ⟨h, -⟩ | ⟨h, -⟩ | ⟨h, -⟩ | ⟨h, -⟩ | ⟨h, -⟩
 · exact h
 all_goals (rw [hhi] at h; cases h)
section
variable {y : VolV} {nb : Bool} {L9 : List (Nat × Nat)} (hL : (nb = true ∧ L9 = []) ∨ (nb = false ∧ L9 = allL y y.place.length))
include hL
theorem l9_len (hp : y.place.length ≤ 1000) : L9.length ≤ 1000000 := by
 rcases hL with ⟨-, rfl⟩ | ⟨-, rfl⟩
 · simp
 rw [allL_len]; omega
theorem l9_lo : ∀ x ∈ L9, x.1 < y.place.length ∧ x.2 ≤ y.ws.length := by
 rcases hL with ⟨-, rfl⟩ | ⟨-, rfl⟩
 · exact fun x hx => by cases hx
 exact allL_lo
theorem l9_full (hp : 0 < y.place.length) {t : Int} (h0 : 0 ≤ y.fl) : L9 = [] ∨ (L9 ≠ [] ∧ (y.fl ≤ t → t ≤ (y.ws.length : Int) → ∀ k, k < y.place.length → ∃ m, (k, m) ∈ L9 ∧ min y.fl (m : Int) ≤ t ∧ t ≤ (m : Int))) := by
 rcases hL with ⟨-, rfl⟩ | ⟨-, rfl⟩
 · exact .inl rfl
 exact .inr ⟨allL_ne hp, fun h1 h2 k hk => ⟨_, allL_mem hk, by omega, by omega⟩⟩
theorem l9_since (hp : 0 < y.place.length) : L9 = [] ∨ (L9 ≠ [] ∧ (∀ x ∈ L9, x.2 = y.ws.length) ∧ (∀ k, k < y.place.length → (k, y.ws.length) ∈ L9)) := by
 rcases hL with ⟨-, rfl⟩ | ⟨-, rfl⟩
 · exact .inl rfl
 exact .inr ⟨allL_ne hp, allL_le, fun k hk => allL_mem hk⟩
theorem l9_iff (hp : 0 < y.place.length) : L9 = [] ↔ nb = true := by
 rcases hL with ⟨h, rfl⟩ | ⟨h, rfl⟩
 · exact iff_of_true rfl h
 exact iff_of_false (allL_ne hp) (by rw [h]; simp)
theorem want_since (hp : 0 < y.place.length) {f t W e9 bl sz fr t9 : Int} {its : List (Int × List Int)} (hE : SinceE y L9 f t e9 bl sz fr t9 its) (hW : WantS y nb f t W) : e9 = W := by
 have hi := l9_iff hL hp
 rcases hE with ⟨a, b⟩ | ⟨a, b, c⟩ | ⟨a, b, c, d⟩ | ⟨a, b, c, d, e⟩ | ⟨a, b, c, d, e, g⟩ | ⟨a, b, c, d, e, g, -⟩ <;>
 rcases hW with ⟨a2, b2⟩ | ⟨a2, b2, c2⟩ | ⟨a2, b2, c2, d2⟩ | ⟨a2, b2, c2, d2, e2⟩ | ⟨a2, b2, c2, d2, e2, g2⟩ | ⟨a2, b2, c2, d2, e2, g2⟩ <;>
 first | omega | (exact absurd (hi.2 e2) e) | (exact absurd (e2.symm.trans (hi.1 e)) (by simp)) | (exact absurd (a.symm.trans a2) (by simp))
theorem want_full (hp : 0 < y.place.length) {t W e9 bl sz fr t9 : Int} {its : List (Int × List Int)} (hE : FullE y L9 t e9 bl sz fr t9 its) (hW : WantF y nb t W) : e9 = W := by
 have hi := l9_iff hL hp
 rcases hE with ⟨a, b⟩ | ⟨a, b, c⟩ | ⟨a, b, c, d⟩ | ⟨a, b, c, e, g⟩ | ⟨a, b, c, e, g, -⟩ <;>
 rcases hW with ⟨a2, b2⟩ | ⟨a2, b2, c2⟩ | ⟨a2, b2, c2, d2⟩ | ⟨a2, b2, c2, e2, g2⟩ | ⟨a2, b2, c2, e2, g2⟩ <;>
 first | omega | (exact absurd (hi.2 e2) e) | (exact absurd (e2.symm.trans (hi.1 e)) (by simp)) | (exact absurd (a.symm.trans a2) (by simp))
end
set_option maxRecDepth 100000
set_option maxHeartbeats 4000000
theorem errors_walk (l : List Int) (pl : Option Addr) (cl n1 n2 : Nat) (nb : Bool) (w0 : World) (hn1 : n1 ≤ 255) (hn2 : n2 ≤ 255) (h1 : Rd (fun _ => True) w0 (.slice pl l.length cl) (.ns .u8 l)) (hlb : ∀ j, j < l.length → 0 ≤ l.getD j 0 ∧ l.getD j 0 ≤ 255) :
   Calls Tryz.prog 5 #[.slice pl l.length cl, .int .u8 (n1 : Int), .int .u8 (n2 : Int), .bool nb] w0 fun e w' => e = .returned (.bool true) ∧ Below w0.heap.size w0 w' := by
 refine ent4 Tryz.func5 rfl Tryz.ntmps5 fun Az Hz => ?_
 have m0 := MemOk.start (fun _ => False) w0
 refine regS Hz (.assign rfl .nil) fun Az Hz => ?_
 refine wsk fun K0 hK0 => ?_
 refine zsr fun K1 hK1 => ?_
 refine plz (ecb Hz Tryz.func8 rfl m0 (eknown_x _) fun Az w2 Hz m3 => ?_)
 refine gz hK1 Hz (.not rfl .nil) fun Az Hz => ?_
 refine wcf Hz ?_
 refine zss (hK0 _ _ ?_)
 refine wsk fun K2 hK2 => ?_
 refine regS Hz (.move rfl <| .len rfl U22 <| .gtr rfl rfl .nil) fun Az Hz => ?_
 refine bc Hz 25 ?_ ?_
 ·
  intro hb9 Hz; try simp only [QQ, Qax] at hb9
  refine wct Hz ?_
  refine regS Hz (.assign rfl .nil) fun Az Hz => ?_
  refine rt1 Hz ?_
  exact ⟨rfl, m3.below⟩
 intro hb9 Hz; try simp only [QQ, Qax] at hb9
 have hl60 : l.length ≤ 60 := by have := hb9; first | omega | (simp at this; omega) | (simp at this; exact this)
 refine wcf Hz ?_
 refine zss (hK2 _ _ ?_)
 refine zsr fun K3 hK3 => ?_
 refine goCh Hz (.move rfl .nil) fun Az Hz => ?_
 refine plz (ecl Hz Tryz.func10 rfl (svol_any l _ _ _ ((h1.now' m3 rfl).any) (by omega) hlb) ?_)
 rintro e w13 ⟨y, p113, p213, p313, d113, d213, d313, rfl, hS, hd13, he13, hf13, hb13⟩
 have m14 := m3.callF3 70 71 72 rfl rfl rfl hb13 hd13 he13 hf13
 clear hb13 hd13 he13 hf13
 obtain ⟨n, hn9⟩ : ∃ n, l.length = n := ⟨_, rfl⟩
 rw [hn9] at hS
 have hn : n ≤ 1000 := by omega
 have hF := hS.f hn
 have hpp := place_pos hS
 have hpt := place_top hS
 have hn80 : y.ws.length ≤ 60 := by have := hS.2.2.2.1; omega
 have hyb := hF.bl
 have hyz := hF.sz
 have hf0 := hF.fl0
 have hf1 := hF.fl1
 refine ⟨_, rfl, ?_⟩; intro Az Hz
 refine plz (e_alloc Hz m14 73 fct2 rfl fun g16 Az w17 Hz m17 _ _ => ?_)
 refine plz (stw Hz m17 73 fct1 fun w18 m18 _ => ?_)
 refine znl (hK3 _ _ ?_)
 replace Hz := Hz.oz [1, 2, 3, 8, 9]
 refine zsr fun K4 hK4 => ?_
 refine goCh Hz (.loadBR m18 (i := 73) rfl rfl U33 rfl fct1 (by simp) (by dsimp only [List.drop, List.take] <;> rfl) .nil) fun Az Hz => ?_
 refine plz (ecb Hz Tryz.func13 rfl m18 (rlen_y y _ _ _ _ _ _ _ _ _) fun Az w22 Hz m23 => ?_)
 refine gz hK4 Hz (.assign rfl .nil) fun Az Hz => ?_
 refine wsk fun K5 hK5 => ?_
 obtain ⟨f9, hf9, hf90⟩ := tm_at (x := (n1 : Int)) (d := (y.ws.length : Int) + 3) (by omega) (by omega)
 obtain ⟨t9, ht9, ht90⟩ := tm_at (x := (n2 : Int)) (d := (y.ws.length : Int) + 3) (by omega) (by omega)
 have m26 := m23.oz [70, 71, 72, 73]
 refine region_p 12 (B := [(70, _), (71, _), (72, _), (73, _)]) (m26.to ⟨il, il, il, il, trivial⟩) m26 (by kernel_rfl) (fun w27 hP27 m27 => ?_); clear m26
 refine goA hP27 [0, 1, 2, 3, 4, 5, 6, 7, 8, 9, 10, 11] 12 0 4095 Hz (m27.to ⟨il, il, il, il, trivial⟩) (.move rfl <| .conv rfl U5 U2 (r := (n1 : Int)) (IntWalk.i64_in _ (by omega)) <| .move rfl <| .add rfl rfl (r := (y.ws.length : Int) + 3) (IntWalk.i64_in _ (by omega)) <| .rem rfl rfl (by omega) (r := f9) hf9 <| .move rfl <| .conv rfl U5 U2 (r := (n2 : Int)) (IntWalk.i64_in _ (by omega)) <| .move rfl <| .add rfl rfl (r := (y.ws.length : Int) + 3) (IntWalk.i64_in _ (by omega)) <| .rem rfl rfl (by omega) (r := t9) ht9 <| .assign rfl <| .assign rfl .nil) fun Az Hz => ?_
 refine wpAnyE_done (by kernel_rfl) ?_ _
 refine hK5 _ _ ?_
 replace Hz := Hz.oz [3, 8, 9, 10, 11, 12]
 refine regS Hz (.assign rfl .nil) fun Az Hz => ?_
 refine wsk fun K6 hK6 => ?_
 have hC6 : ∀ (a : Act) (w : World), (∃ (L9 : List (Nat × Nat)) (BV : Nat) (p1 p2 p3 : Option Addr) (d1 d2 d3 : Nat) (p9 : Option Addr) (c9 : Nat), ((nb = true ∧ L9 = []) ∨ (nb = false ∧ L9 = allL y y.place.length)) ∧ Has 119 [(3, .bool nb), (9, .pointer (some ⟨BV, 0, none⟩)), (10, .int .i64 (y.ws.length : Int)), (11, .int .i64 f9), (12, .int .i64 t9), (13, .slice p9 (L9.map (ckD y)).length c9)] a ∧ MemOk (cn w0) w0 [(20, .box BV 33 [.int .i64 y.vo, .int .i64 y.bl, .int .i64 y.sz, .int .i64 y.pe, .slice p1 y.place.length d1, .int .i64 y.to, .int .i64 y.ne, .bool y.hi, .int .i64 y.fl, .slice p2 y.pins.length d2, .slice p3 (y.ws.map wrD).length d3]), (21, .dat (.slice p1 y.place.length d1) (.ns .i64 y.place)), (22, .dat (.slice p2 y.pins.length d2) (.ns .i64 y.pins)), (23, .dat (.slice p3 (y.ws.map wrD).length d3) (.l 2 (y.ws.map wrD))), (9, .dat (.slice p9 (L9.map (ckD y)).length c9) (.l 7 (L9.map (ckD y))))] w) → K6 a w := by
   clear Hz m27
   rintro Az w42 ⟨L9, BV, p1, p2, p3, d1, d2, d3, p9, c9, hL9, Hz, m42⟩
   refine hK6 _ _ ?_
   refine regS Hz (.assign rfl .nil) fun Az Hz => ?_
   refine wsk fun K7 hK7 => ?_
   have hC7 : ∀ (a : Act) (w : World), (∃ (L9 : List (Nat × Nat)) (BV : Nat) (p1 p2 p3 : Option Addr) (d1 d2 d3 : Nat) (p9 : Option Addr) (c9 : Nat) (W : Int), ((nb = true ∧ L9 = []) ∨ (nb = false ∧ L9 = allL y y.place.length)) ∧ WantS y nb f9 t9 W ∧ Has 119 [(3, .bool nb), (9, .pointer (some ⟨BV, 0, none⟩)), (10, .int .i64 (y.ws.length : Int)), (11, .int .i64 f9), (12, .int .i64 t9), (13, .slice p9 (L9.map (ckD y)).length c9), (15, .int .i64 W)] a ∧ MemOk (cn w0) w0 [(20, .box BV 33 [.int .i64 y.vo, .int .i64 y.bl, .int .i64 y.sz, .int .i64 y.pe, .slice p1 y.place.length d1, .int .i64 y.to, .int .i64 y.ne, .bool y.hi, .int .i64 y.fl, .slice p2 y.pins.length d2, .slice p3 (y.ws.map wrD).length d3]), (21, .dat (.slice p1 y.place.length d1) (.ns .i64 y.place)), (22, .dat (.slice p2 y.pins.length d2) (.ns .i64 y.pins)), (23, .dat (.slice p3 (y.ws.map wrD).length d3) (.l 2 (y.ws.map wrD))), (9, .dat (.slice p9 (L9.map (ckD y)).length c9) (.l 7 (L9.map (ckD y))))] w) → K7 a w := by
     clear Hz m42
     rintro Az w44 ⟨L9, BV, p1, p2, p3, d1, d2, d3, p9, c9, W, hL9, hW, Hz, m44⟩
     refine hK7 _ _ ?_
     refine zsr fun K8 hK8 => ?_
     refine goCh Hz (.loadBR m44 (i := 20) rfl rfl U33 rfl fct1 (by simp) (by dsimp only [List.drop, List.take] <;> rfl) <| .move rfl <| .move rfl <| .move rfl .nil) fun Az Hz => ?_
     refine plz (ecl Hz Tryz.func17 rfl (esince_n _ y n hS hn _ _ _ _ _ _ _ L9 _ _ _ f9 t9 _ (l9_len hL9 hpt) (l9_lo hL9) (l9_since hL9 hpp) (m44.into [(3, 23), (4, 9)] (by decide) rfl)) ?_)
     rintro e w53 ⟨ea, bla, sza, fra, ta, itsa, p53, c53, hEa, rfl, hm53⟩
     have mx53 := m44.back hm53 [(23, 3), (9, 4), (200, 9)] (by decide); clear hm53 m44
     have m53 := mx53.oz [23, 9, 200, 20, 21, 22]
     refine ⟨_, rfl, ?_⟩; intro Az Hz
     have hew : ea = W := want_since hL9 hpp hEa hW
     refine goCh Hz (.move rfl <| .extract rfl rfl <| .extract rfl rfl .nil) fun Az Hz => ?_
     refine plz (e_alloc Hz m53 201 fct37 rfl fun g58 Az w59 Hz m59 _ _ => ?_)
     refine plz (stw Hz m59 201 fct36 fun w60 m60 _ => ?_)
     refine gz hK8 Hz (.assign rfl .nil) fun Az Hz => ?_
     replace Hz := Hz.oz [3, 9, 10, 11, 12, 13, 15, 17]
     refine regS Hz (.move rfl <| .assign rfl .nil) fun Az Hz => ?_
     refine wsk fun K9 hK9 => ?_
     have hC9 : ∀ (a : Act) (w : World), (∃ (L9 : List (Nat × Nat)) (BV : Nat) (p1 p2 p3 : Option Addr) (d1 d2 d3 : Nat) (p9 : Option Addr) (c9 : Nat) (W ea W1 : Int), ((nb = true ∧ L9 = []) ∨ (nb = false ∧ L9 = allL y y.place.length)) ∧ ea = W ∧ (y.hi = true → W1 = 28) ∧ Has 119 [(3, .bool nb), (9, .pointer (some ⟨BV, 0, none⟩)), (10, .int .i64 (y.ws.length : Int)), (11, .int .i64 f9), (12, .int .i64 t9), (13, .slice p9 (L9.map (ckD y)).length c9), (15, .int .i64 W), (17, .int .i64 ea), (18, .int .i64 W1)] a ∧ MemOk (cn w0) w0 [(20, .box BV 33 [.int .i64 y.vo, .int .i64 y.bl, .int .i64 y.sz, .int .i64 y.pe, .slice p1 y.place.length d1, .int .i64 y.to, .int .i64 y.ne, .bool y.hi, .int .i64 y.fl, .slice p2 y.pins.length d2, .slice p3 (y.ws.map wrD).length d3]), (21, .dat (.slice p1 y.place.length d1) (.ns .i64 y.place)), (22, .dat (.slice p2 y.pins.length d2) (.ns .i64 y.pins)), (23, .dat (.slice p3 (y.ws.map wrD).length d3) (.l 2 (y.ws.map wrD))), (9, .dat (.slice p9 (L9.map (ckD y)).length c9) (.l 7 (L9.map (ckD y))))] w) → K9 a w := by
       clear Hz m60
       rintro Az w65 ⟨L9, BV, p1, p2, p3, d1, d2, d3, p9, c9, W, ea, W1, hL9, hew, hW1, Hz, m65⟩
       refine hK9 _ _ ?_
       refine wsk fun K10 hK10 => ?_
       have hC10 : ∀ (a : Act) (w : World), (∃ (L9 : List (Nat × Nat)) (BV : Nat) (p1 p2 p3 : Option Addr) (d1 d2 d3 : Nat) (p9 : Option Addr) (c9 : Nat) (W ea W2 : Int), ((nb = true ∧ L9 = []) ∨ (nb = false ∧ L9 = allL y y.place.length)) ∧ ea = W ∧ WantF y nb t9 W2 ∧ Has 119 [(3, .bool nb), (9, .pointer (some ⟨BV, 0, none⟩)), (10, .int .i64 (y.ws.length : Int)), (11, .int .i64 f9), (12, .int .i64 t9), (13, .slice p9 (L9.map (ckD y)).length c9), (15, .int .i64 W), (17, .int .i64 ea), (18, .int .i64 W2)] a ∧ MemOk (cn w0) w0 [(20, .box BV 33 [.int .i64 y.vo, .int .i64 y.bl, .int .i64 y.sz, .int .i64 y.pe, .slice p1 y.place.length d1, .int .i64 y.to, .int .i64 y.ne, .bool y.hi, .int .i64 y.fl, .slice p2 y.pins.length d2, .slice p3 (y.ws.map wrD).length d3]), (21, .dat (.slice p1 y.place.length d1) (.ns .i64 y.place)), (22, .dat (.slice p2 y.pins.length d2) (.ns .i64 y.pins)), (23, .dat (.slice p3 (y.ws.map wrD).length d3) (.l 2 (y.ws.map wrD))), (9, .dat (.slice p9 (L9.map (ckD y)).length c9) (.l 7 (L9.map (ckD y))))] w) → K10 a w := by
         clear Hz m65
         rintro Az w66 ⟨L9, BV, p1, p2, p3, d1, d2, d3, p9, c9, W, ea, W2, hL9, hew, hW2, Hz, m66⟩
         refine hK10 _ _ ?_
         refine zsr fun K11 hK11 => ?_
         refine goCh Hz (.loadBR m66 (i := 20) rfl rfl U33 rfl fct1 (by simp) (by dsimp only [List.drop, List.take] <;> rfl) <| .move rfl <| .move rfl .nil) fun Az Hz => ?_
         refine plz (ecl Hz Tryz.func14 rfl (efull_n _ y n hS hn _ _ _ _ _ _ _ L9 _ _ _ t9 _ (l9_len hL9 hpt) (l9_lo hL9) (l9_full hL9 hpp (by omega)) (m66.into [(3, 23), (4, 9)] (by decide) rfl)) ?_)
         rintro e w73 ⟨eb, blb, szb, frb, tb, itsb, p73, c73, hEb, rfl, hm73⟩
         have mx73 := m66.back hm73 [(23, 3), (9, 4), (400, 9)] (by decide); clear hm73 m66
         have m73 := mx73.oz [23, 9, 400, 20, 21, 22]
         refine ⟨_, rfl, ?_⟩; intro Az Hz
         have hew2 : eb = W2 := want_full hL9 hpp hEb hW2
         refine goCh Hz (.move rfl <| .extract rfl rfl <| .extract rfl rfl .nil) fun Az Hz => ?_
         refine plz (e_alloc Hz m73 401 fct37 rfl fun g78 Az w79 Hz m79 _ _ => ?_)
         refine plz (stw Hz m79 401 fct36 fun w80 m80 _ => ?_)
         refine gz hK11 Hz (.assign rfl .nil) fun Az Hz => ?_
         replace Hz := Hz.oz [3, 9, 10, 11, 12, 13, 15, 17, 18, 20]
         refine zsr fun K12 hK12 => ?_
         refine goCh Hz (.move rfl <| .move rfl <| .eql rfl rfl <| .move rfl .nil) fun Az Hz => ?_
         refine bc Hz 114 ?_ ?_
         rotate_left
         · intro hb _; exact absurd hb (by simp [hew])
         clear Hz; intro _ Hz
         refine gz hK12 Hz (.moveZ rfl <| .moveZ rfl <| .eqlZ rfl rfl <| .pickT rfl rfl <| .assign rfl <| .nil) fun Az Hz => ?_
         refine rt1 Hz ?_
         exact ⟨by first | rfl | (simp [hew2]; done), m80.below⟩
       refine regS Hz (.fa 7 rfl U33 <| .lb m65 20 U4 rfl rfl rfl <| .not rfl .nil) fun Az Hz => ?_
       refine bc Hz 92 ?_ ?_
       ·
        intro hb100 Hz; try simp only [QQ, Qax] at hb100
        have hhi : y.hi = false := by have := hb100; simpa using this
        refine wct Hz ?_
        refine wp_block ?_
        refine regS Hz (.move rfl <| .fa 8 rfl U33 <| .lb m65 20 U2 rfl rfl rfl <| .lss rfl rfl <| .assign rfl .nil) fun Az Hz => ?_
        refine bc Hz 93 ?_ ?_
        ·
         intro hb106 Hz; try simp only [QQ, Qax] at hb106
         have hfl : t9 < y.fl := by have := hb106; first | omega | (simp at this; omega) | (simp at this; exact this)
         refine wct Hz ?_
         replace Hz := Hz.oz [3, 9, 10, 11, 12, 13, 15, 17, 18, 92, 93]
         refine wp_region_lit ?_
         refine goCh Hz (.assign rfl .nil) fun Az Hz => ?_
         refine wpList_nil ?_
         show K10 _ _
         exact hC10 _ _ ⟨_, _, _, _, _, _, _, _, _, _, _, _, _, hL9, hew, .inr (.inl ⟨hhi, hfl, rfl⟩), Hz.only [3, 9, 10, 11, 12, 13, 15, 17, 18], m65.ren [(20, 20), (21, 21), (22, 22), (23, 23), (9, 9)] (by decide)⟩
        intro hb106 Hz; try simp only [QQ, Qax] at hb106
        have hfl : y.fl ≤ t9 := by have := hb106; first | omega | (simp at this; omega) | (simp at this; exact this)
        refine wcf Hz ?_
        replace Hz := Hz.oz [3, 9, 10, 11, 12, 13, 15, 17, 18, 92, 93]
        refine regS Hz (.move rfl <| .move rfl <| .gtr rfl rfl <| .assign rfl .nil) fun Az Hz => ?_
        refine bc Hz 98 ?_ ?_
        ·
         intro hb114 Hz; try simp only [QQ, Qax] at hb114
         have hlt : (y.ws.length : Int) < t9 := by have := hb114; first | omega | (simp at this; omega) | (simp at this; exact this)
         refine wct Hz ?_
         refine wp_region_lit ?_
         refine goCh Hz (.assign rfl .nil) fun Az Hz => ?_
         refine wpList_nil ?_
         show K10 _ _
         exact hC10 _ _ ⟨_, _, _, _, _, _, _, _, _, _, _, _, _, hL9, hew, .inr (.inr (.inl ⟨hhi, hfl, hlt, rfl⟩)), Hz.only [3, 9, 10, 11, 12, 13, 15, 17, 18], m65.ren [(20, 20), (21, 21), (22, 22), (23, 23), (9, 9)] (by decide)⟩
        intro hb114 Hz; try simp only [QQ, Qax] at hb114
        have hlt : t9 ≤ (y.ws.length : Int) := by have := hb114; first | omega | (simp at this; omega) | (simp at this; exact this)
        refine wcf Hz ?_
        refine regS Hz (.move rfl <| .assign rfl .nil) fun Az Hz => ?_
        refine bc Hz 102 ?_ ?_
        ·
         intro hb118 Hz; try simp only [QQ, Qax] at hb118
         have hnb : nb = true := by have := hb118; simpa using this
         refine wct Hz ?_
         refine wp_region_lit ?_
         refine goCh Hz (.assign rfl .nil) fun Az Hz => ?_
         refine wpList_nil ?_
         show K10 _ _
         exact hC10 _ _ ⟨_, _, _, _, _, _, _, _, _, _, _, _, _, hL9, hew, .inr (.inr (.inr (.inl ⟨hhi, hfl, hlt, hnb, rfl⟩))), Hz.only [3, 9, 10, 11, 12, 13, 15, 17, 18], m65.ren [(20, 20), (21, 21), (22, 22), (23, 23), (9, 9)] (by decide)⟩
        intro hb118 Hz; try simp only [QQ, Qax] at hb118
        have hnb : nb = false := by have := hb118; simpa using this
        refine wcf Hz ?_
        refine wp_region_lit ?_
        refine goCh Hz (.assign rfl .nil) fun Az Hz => ?_
        refine wpList_nil ?_
        show K10 _ _
        exact hC10 _ _ ⟨_, _, _, _, _, _, _, _, _, _, _, _, _, hL9, hew, .inr (.inr (.inr (.inr ⟨hhi, hfl, hlt, hnb, rfl⟩))), Hz.only [3, 9, 10, 11, 12, 13, 15, 17, 18], m65.ren [(20, 20), (21, 21), (22, 22), (23, 23), (9, 9)] (by decide)⟩
       intro hb100 Hz; try simp only [QQ, Qax] at hb100
       have hhi : y.hi = true := by have := hb100; simpa using this
       refine wcf Hz ?_
       refine wp_skip ?_
       show K10 _ _
       exact hC10 _ _ ⟨_, _, _, _, _, _, _, _, _, _, _, _, _, hL9, hew, .inl ⟨hhi, hW1 hhi⟩, Hz.only [3, 9, 10, 11, 12, 13, 15, 17, 18], m65.ren [(20, 20), (21, 21), (22, 22), (23, 23), (9, 9)] (by decide)⟩
     refine zsr fun K13 hK13 => ?_
     refine goCh Hz (.move rfl <| .eql rfl rfl <| .move rfl .nil) fun Az Hz => ?_
     refine bc Hz 86 ?_ ?_
     ·
      intro hb127 Hz; try simp only [QQ, Qax] at hb127
      have hbx : W = 23 := by have := hb127; first | omega | (simp at this; omega) | (simp at this; exact this)
      refine gz hK13 Hz (.sk <| .sk <| .pickT rfl rfl <| .nil) fun Az Hz => ?_
      refine wct Hz ?_
      replace Hz := Hz.oz [3, 9, 10, 11, 12, 13, 15, 17, 18, 89]
      refine wp_region_lit ?_
      refine goCh Hz (.assign rfl .nil) fun Az Hz => ?_
      refine wpList_nil ?_
      show K9 _ _
      exact hC9 _ _ ⟨_, _, _, _, _, _, _, _, _, _, _, _, _, hL9, hew, (fun h => absurd (want_hid hW h) (by have := hbx; first | omega | (simp at this; omega))), Hz.only [3, 9, 10, 11, 12, 13, 15, 17, 18], m60.ren [(20, 20), (21, 21), (22, 22), (23, 23), (9, 9)] (by decide)⟩
     intro hb127 Hz; try simp only [QQ, Qax] at hb127
     refine gz hK13 Hz (.moveZ rfl <| .eqlZ rfl rfl <| .pickF rfl rfl <| .nil) fun Az Hz => ?_
     refine bc Hz 89 ?_ ?_
     ·
      intro hb136 Hz; try simp only [QQ, Qax] at hb136
      have hbx : W = 30 := by have := hb136; first | omega | (simp at this; omega) | (simp at this; exact this)
      refine wct Hz ?_
      replace Hz := Hz.oz [3, 9, 10, 11, 12, 13, 15, 17, 18, 89]
      refine wp_region_lit ?_
      refine goCh Hz (.assign rfl .nil) fun Az Hz => ?_
      refine wpList_nil ?_
      show K9 _ _
      exact hC9 _ _ ⟨_, _, _, _, _, _, _, _, _, _, _, _, _, hL9, hew, (fun h => absurd (want_hid hW h) (by have := hbx; first | omega | (simp at this; omega))), Hz.only [3, 9, 10, 11, 12, 13, 15, 17, 18], m60.ren [(20, 20), (21, 21), (22, 22), (23, 23), (9, 9)] (by decide)⟩
     intro hb136 Hz; try simp only [QQ, Qax] at hb136
     refine wcf Hz ?_
     refine wp_skip ?_
     show K9 _ _
     exact hC9 _ _ ⟨_, _, _, _, _, _, _, _, _, _, _, _, _, hL9, hew, (fun h => want_hid hW h), Hz.only [3, 9, 10, 11, 12, 13, 15, 17, 18], m60.ren [(20, 20), (21, 21), (22, 22), (23, 23), (9, 9)] (by decide)⟩
   refine wp_block ?_
   refine regS Hz (.fa 7 rfl U33 <| .lb m42 20 U4 rfl rfl rfl <| .assign rfl .nil) fun Az Hz => ?_
   refine bc Hz 57 ?_ ?_
   ·
    intro hb142 Hz; try simp only [QQ, Qax] at hb142
    have hhi : y.hi = true := hb142
    refine wct Hz ?_
    refine wp_region_lit ?_
    refine goCh Hz (.assign rfl .nil) fun Az Hz => ?_
    refine wpList_nil ?_
    show K7 _ _
    exact hC7 _ _ ⟨_, _, _, _, _, _, _, _, _, _, _, hL9, .inl ⟨hhi, rfl⟩, Hz.only [3, 9, 10, 11, 12, 13, 15], m42.ren [(20, 20), (21, 21), (22, 22), (23, 23), (9, 9)] (by decide)⟩
   intro hb142 Hz; try simp only [QQ, Qax] at hb142
   have hhi : y.hi = false := hb142
   refine wcf Hz ?_
   refine regS Hz (.move rfl <| .move rfl <| .gtr rfl rfl <| .assign rfl .nil) fun Az Hz => ?_
   refine bc Hz 60 ?_ ?_
   ·
    intro hb148 Hz; try simp only [QQ, Qax] at hb148
    have hft : t9 < f9 := by have := hb148; first | omega | (simp at this; omega) | (simp at this; exact this)
    refine wct Hz ?_
    refine wp_region_lit ?_
    refine goCh Hz (.assign rfl .nil) fun Az Hz => ?_
    refine wpList_nil ?_
    show K7 _ _
    exact hC7 _ _ ⟨_, _, _, _, _, _, _, _, _, _, _, hL9, .inr (.inl ⟨hhi, hft, rfl⟩), Hz.only [3, 9, 10, 11, 12, 13, 15], m42.ren [(20, 20), (21, 21), (22, 22), (23, 23), (9, 9)] (by decide)⟩
   intro hb148 Hz; try simp only [QQ, Qax] at hb148
   have hft : f9 ≤ t9 := by have := hb148; first | omega | (simp at this; omega) | (simp at this; exact this)
   refine wcf Hz ?_
   refine regS Hz (.move rfl <| .fa 8 rfl U33 <| .lb m42 20 U2 rfl rfl rfl <| .lss rfl rfl <| .assign rfl .nil) fun Az Hz => ?_
   refine bc Hz 64 ?_ ?_
   ·
    intro hb155 Hz; try simp only [QQ, Qax] at hb155
    have hfl : f9 < y.fl := by have := hb155; first | omega | (simp at this; omega) | (simp at this; exact this)
    refine wct Hz ?_
    replace Hz := Hz.oz [3, 9, 10, 11, 12, 13, 15, 57, 60, 64]
    refine wp_region_lit ?_
    refine goCh Hz (.assign rfl .nil) fun Az Hz => ?_
    refine wpList_nil ?_
    show K7 _ _
    exact hC7 _ _ ⟨_, _, _, _, _, _, _, _, _, _, _, hL9, .inr (.inr (.inl ⟨hhi, hft, hfl, rfl⟩)), Hz.only [3, 9, 10, 11, 12, 13, 15], m42.ren [(20, 20), (21, 21), (22, 22), (23, 23), (9, 9)] (by decide)⟩
   intro hb155 Hz; try simp only [QQ, Qax] at hb155
   have hfl : y.fl ≤ f9 := by have := hb155; first | omega | (simp at this; omega) | (simp at this; exact this)
   refine wcf Hz ?_
   replace Hz := Hz.oz [3, 9, 10, 11, 12, 13, 15, 57, 60, 64]
   refine regS Hz (.move rfl <| .move rfl <| .gtr rfl rfl <| .assign rfl .nil) fun Az Hz => ?_
   refine bc Hz 69 ?_ ?_
   ·
    intro hb163 Hz; try simp only [QQ, Qax] at hb163
    have hlt : (y.ws.length : Int) < t9 := by have := hb163; first | omega | (simp at this; omega) | (simp at this; exact this)
    refine wct Hz ?_
    refine wp_region_lit ?_
    refine goCh Hz (.assign rfl .nil) fun Az Hz => ?_
    refine wpList_nil ?_
    show K7 _ _
    exact hC7 _ _ ⟨_, _, _, _, _, _, _, _, _, _, _, hL9, .inr (.inr (.inr (.inl ⟨hhi, hft, hfl, hlt, rfl⟩))), Hz.only [3, 9, 10, 11, 12, 13, 15], m42.ren [(20, 20), (21, 21), (22, 22), (23, 23), (9, 9)] (by decide)⟩
   intro hb163 Hz; try simp only [QQ, Qax] at hb163
   have hlt : t9 ≤ (y.ws.length : Int) := by have := hb163; first | omega | (simp at this; omega) | (simp at this; exact this)
   refine wcf Hz ?_
   refine regS Hz (.move rfl <| .assign rfl .nil) fun Az Hz => ?_
   refine bc Hz 73 ?_ ?_
   ·
    intro hb167 Hz; try simp only [QQ, Qax] at hb167
    have hnb : nb = true := by have := hb167; simpa using this
    refine wct Hz ?_
    refine wp_region_lit ?_
    refine goCh Hz (.assign rfl .nil) fun Az Hz => ?_
    refine wpList_nil ?_
    show K7 _ _
    exact hC7 _ _ ⟨_, _, _, _, _, _, _, _, _, _, _, hL9, .inr (.inr (.inr (.inr (.inl ⟨hhi, hft, hfl, hlt, hnb, rfl⟩)))), Hz.only [3, 9, 10, 11, 12, 13, 15], m42.ren [(20, 20), (21, 21), (22, 22), (23, 23), (9, 9)] (by decide)⟩
   intro hb167 Hz; try simp only [QQ, Qax] at hb167
   have hnb : nb = false := by have := hb167; simpa using this
   refine wcf Hz ?_
   refine wp_skip ?_
   show K7 _ _
   exact hC7 _ _ ⟨_, _, _, _, _, _, _, _, _, _, _, hL9, .inr (.inr (.inr (.inr (.inr ⟨hhi, hft, hfl, hlt, hnb, rfl⟩)))), Hz.only [3, 9, 10, 11, 12, 13, 15], m42.ren [(20, 20), (21, 21), (22, 22), (23, 23), (9, 9)] (by decide)⟩
 refine regS Hz (.assign rfl .nil) fun Az Hz => ?_
 refine wp_block ?_
 refine wp_loop_ghost (fun g a w => ∃ (i BV : Nat) (p1 p2 p3 : Option Addr) (d1 d2 d3 : Nat) (p9 : Option Addr) (c9 : Nat), i ≤ y.place.length ∧ g = y.place.length - i ∧ (nb = true → i = 0) ∧ Has 119 [(3, .bool nb), (9, .pointer (some ⟨BV, 0, none⟩)), (10, .int .i64 (y.ws.length : Int)), (11, .int .i64 f9), (12, .int .i64 t9), (13, .slice p9 ((allL y i).map (ckD y)).length c9), (14, .int .i64 (i : Int))] a ∧ MemOk (cn w0) w0 [(20, .box BV 33 [.int .i64 y.vo, .int .i64 y.bl, .int .i64 y.sz, .int .i64 y.pe, .slice p1 y.place.length d1, .int .i64 y.to, .int .i64 y.ne, .bool y.hi, .int .i64 y.fl, .slice p2 y.pins.length d2, .slice p3 (y.ws.map wrD).length d3]), (21, .dat (.slice p1 y.place.length d1) (.ns .i64 y.place)), (22, .dat (.slice p2 y.pins.length d2) (.ns .i64 y.pins)), (23, .dat (.slice p3 (y.ws.map wrD).length d3) (.l 2 (y.ws.map wrD))), (9, .row (.slice p9 ((allL y i).map (ckD y)).length c9) 28 7 ((allL y i).map (ckD y)))] w) (y.place.length) ?_ ?_
 · have mz := m27.nilR 9 28 7
   exact ⟨0, _, _, _, _, _, _, _, _, _, Nat.zero_le _, rfl, (fun _ => rfl), Hz.only [3, 9, 10, 11, 12, 13, 14], mz.ren [(20, 73), (21, 70), (22, 71), (23, 72), (9, 9)] (by decide)⟩
 clear Hz m27
 rintro g Az w170 ⟨i, BV, p1, p2, p3, d1, d2, d3, p9, c9, hil, hg, hni, Hz, m170⟩
 refine wsk fun K14 hK14 => ?_
 refine zsr fun K15 hK15 => ?_
 refine goCh Hz (.move rfl <| .fa 4 rfl U33 <| .lb m170 20 U29 rfl rfl rfl <| .len rfl U29 <| .lss rfl rfl <| .move rfl .nil) fun Az Hz => ?_
 refine bc Hz 45 ?_ ?_
 ·
  intro hb183 Hz; try simp only [QQ, Qax] at hb183
  have hi : i < y.place.length := by have := hb183; first | omega | (simp at this; omega) | (simp at this; exact this)
  refine gz hK15 Hz (.moveZ rfl <| .notZ rfl <| .pickT rfl rfl <| .nil) fun Az Hz => ?_
  refine bc Hz 48 ?_ ?_
  ·
   intro hb187 Hz; try simp only [QQ, Qax] at hb187
   have hnb : nb = false := by have := hb187; simpa using this
   refine wct Hz ?_
   refine zss (hK14 _ _ ?_)
   refine wsk fun K16 hK16 => ?_
   refine wp_block ?_
   replace Hz := Hz.oz [3, 9, 10, 11, 12, 13, 14]
   refine wp_region_lit ?_
   refine goCh Hz (.move rfl <| .loadBR m170 (i := 20) rfl rfl U33 rfl fct1 (by simp) (by dsimp only [List.drop, List.take] <;> rfl) <| .move rfl .nil) fun Az Hz => ?_
   refine plz (ecl Hz Tryz.func12 rfl (eall_ck _ y n hS hn _ _ _ _ _ _ _ i 1000 _ hi (by omega) (m170.into [(3, 23)] (by decide) rfl)) ?_)
   rintro e w192 ⟨p192, c192, rfl, hm192⟩
   have mx192 := m170.back hm192 [(23, 3), (100, 9)] (by decide); clear hm192 m170
   have m192 := mx192.oz [23, 100, 9, 20, 21, 22]
   refine ⟨_, rfl, ?_⟩; intro Az Hz
   refine plz (e_litR Hz m192 101 (mm := 7) rfl (.cons rfl rfl (.cons (.v _) (.cons (.v _) (.cons (.v _) (.cons (.v _) (.cons (.v _) (.cons (.v _) (.cons (m192.rd (i := 100) rfl) .nil))))))) .nil) U23 fct33 rfl rfl rfl rfl rfl fun g194 Az w195 Hz m195 => ?_)
   have m197 := m195.freezeR 101 rfl
   refine plz (e_appR Hz m197 9 rfl rfl rfl (m197.rd (i := 101) rfl) U23 fct33 rfl rfl (by decide) (by have h9 := allL_len y i; simp at h9 ⊢; omega) rfl fun p196 c196 Az w198 Hz m198 => ?_)
   refine gz hK16 Hz (.assign rfl .nil) fun Az Hz => ?_
   replace Hz := Hz.oz [3, 9, 10, 11, 12, 13, 14]
   refine wp_region_lit ?_
   refine goCh Hz (.move rfl <| .inc (i + 1) <| .assign rfl .nil) fun Az Hz => ?_
   refine wpList_nil ?_
   show ∃ n', n' < _ ∧ _
   have hE : ((allL y i).map (ckD y)) ++ [[D.v (.int .i64 y.vo), .v (.int .i64 (i : Int)), .v (.int .i64 (cnY y i : Int)), .v (.int .i64 y.sz), .v (.int .i64 (y.ws.length : Int)), .v (.int .i64 (min y.fl (y.ws.length : Int))), .l 1 ((chN y (fnY y i) (cnY y i) y.ws.length).map hD)]] = ((allL y (i + 1)).map (ckD y)) := by rw [allL_snoc, List.map_append]; rfl
   rw [hE] at m198 Hz
   exact ⟨y.place.length - (i + 1), by omega, i + 1, _, _, _, _, _, _, _, _, _, by omega, rfl, (fun h => by rw [hnb] at h; cases h), Hz.only [3, 9, 10, 11, 12, 13, 14], m198.ren [(20, 20), (21, 21), (22, 22), (23, 23), (9, 9)] (by decide)⟩
  intro hb187 Hz; try simp only [QQ, Qax] at hb187
  have hnb : nb = true := by have := hb187; simpa using this
  have hL9 : ((nb = true ∧ allL y i = []) ∨ (nb = false ∧ allL y i = allL y y.place.length)) := .inl ⟨hnb, by rw [hni hnb]; rfl⟩
  refine wcf Hz ?_
  refine wp_exit ?_
  have m204 := m170.freezeR 9 rfl
  show K6 _ _
  exact hC6 _ _ ⟨_, _, _, _, _, _, _, _, _, _, hL9, Hz.only [3, 9, 10, 11, 12, 13], m204.ren [(20, 20), (21, 21), (22, 22), (23, 23), (9, 9)] (by decide)⟩
 intro hb183 Hz; try simp only [QQ, Qax] at hb183
 have hie : i = y.place.length := by have := hb183; first | omega | (simp at this; omega) | (simp at this; exact this)
 have hL9 : ((nb = true ∧ allL y i = []) ∨ (nb = false ∧ allL y i = allL y y.place.length)) := .inr ⟨by cases hq : nb; rfl; exact absurd (hni hq) (by omega), by rw [hie]⟩
 refine gz hK15 Hz (.sk <| .sk <| .pickF rfl rfl <| .nil) fun Az Hz => ?_
 refine wcf Hz ?_
 refine wp_exit ?_
 have m208 := m170.freezeR 9 rfl
 show K6 _ _
 exact hC6 _ _ ⟨_, _, _, _, _, _, _, _, _, _, hL9, Hz.only [3, 9, 10, 11, 12, 13], m208.ren [(20, 20), (21, 21), (22, 22), (23, 23), (9, 9)] (by decide)⟩
end Go.Proofs.YtamjnimaeecmoaaGreat.K
