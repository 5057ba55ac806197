/- ExportNothing's, ExportErrors' walks. -/
import Derived.Test.YtamjnimaeecmoaaGreatExp5
namespace Go.Proofs.YtamjnimaeecmoaaGreat.K
open Go.ChangeShapes Go.WideShapes Go.ChangeAt Go.RowKit
set_option linter.unusedVariables false
set_option linter.unusedSimpArgs false
theorem nothing_ok {bl sz t : Int} (hb : 1 ≤ bl ∧ bl ≤ 256) (hz : 1 ≤ sz ∧ sz ≤ 32) (h0 : 0 ≤ t) (h1 : t ≤ 1000) : StreamOk bl sz t t [] := ⟨hb, hz, by omega, ⟨h0, by omega⟩, by omega, (fun h => by omega), (fun k e he => by cases he), by decide⟩
def WantS (y : VolV) (nb : Bool) (f t W : Int) : Prop := (y.hi = true ∧ W = 28) ∨ (y.hi = false ∧ t < f ∧ W = 23) ∨ (y.hi = false ∧ f ≤ t ∧ f < y.fl ∧ W = 30) ∨ (y.hi = false ∧ f ≤ t ∧ y.fl ≤ f ∧ (y.ws.length : Int) < t ∧ W = 31) ∨ (y.hi = false ∧ f ≤ t ∧ y.fl ≤ f ∧ t ≤ (y.ws.length : Int) ∧ nb = true ∧ W = 32) ∨ (y.hi = false ∧ f ≤ t ∧ y.fl ≤ f ∧ t ≤ (y.ws.length : Int) ∧ nb = false ∧ W = 0)
def WantF (y : VolV) (nb : Bool) (t W : Int) : Prop := (y.hi = true ∧ W = 28) ∨ (y.hi = false ∧ t < y.fl ∧ W = 30) ∨ (y.hi = false ∧ y.fl ≤ t ∧ (y.ws.length : Int) < t ∧ W = 31) ∨ (y.hi = false ∧ y.fl ≤ t ∧ t ≤ (y.ws.length : Int) ∧ nb = true ∧ W = 32) ∨ (y.hi = false ∧ y.fl ≤ t ∧ t ≤ (y.ws.length : Int) ∧ nb = false ∧ W = 0)
section
variable {y : VolV} {nb : Bool} {L9 : List (Nat × Nat)} (hL : (nb = true ∧ L9 = []) ∨ (nb = false ∧ L9 = allL y y.place.length))
include hL
end
set_option maxRecDepth 100000
set_option maxHeartbeats 4000000
theorem nothing_walk (l : List Int) (pl : Option Addr) (cl n1 : Nat) (w0 : World) (hn1 : n1 ≤ 255) (h1 : Rd (fun _ => True) w0 (.slice pl l.length cl) (.ns .u8 l)) (hlb : ∀ j, j < l.length → 0 ≤ l.getD j 0 ∧ l.getD j 0 ≤ 255) :
   Calls Tryz.prog 7 #[.slice pl l.length cl, .int .u8 (n1 : Int)] w0 fun e w' => e = .returned (.bool true) ∧ Below w0.heap.size w0 w' := by
 refine ent2 Tryz.func7 rfl Tryz.ntmps7 fun Az Hz => ?_
 have m0 := MemOk.start (fun _ => False) w0
 refine regS Hz (.assign rfl .nil) fun Az Hz => ?_
 refine wsk fun K0 hK0 => ?_
 refine zsr fun K1 hK1 => ?_
 refine plz (ecb Hz Tryz.func8 rfl m0 (eknown_x _) fun Az w2 Hz m3 => ?_)
 refine gz hK1 Hz (.not rfl .nil) fun Az Hz => ?_
 refine wcf Hz ?_
 refine zss (hK0 _ _ ?_)
 refine wsk fun K2 hK2 => ?_
 refine regS Hz (.move rfl <| .len rfl U22 <| .gtr rfl rfl .nil) fun Az Hz => ?_
 refine bc Hz 15 ?_ ?_
 ·
  intro hb9 Hz; try simp only [QQ, Qax] at hb9
  refine wct Hz ?_
  refine regS Hz (.assign rfl .nil) fun Az Hz => ?_
  refine rt1 Hz ?_
  exact ⟨by (first | rfl | simp), m3.below⟩
 intro hb9 Hz; try simp only [QQ, Qax] at hb9
 have hl60 : l.length ≤ 60 := by have := hb9; first | omega | (simp at this; omega) | (simp at this; exact this)
 refine wcf Hz ?_
 refine zss (hK2 _ _ ?_)
 refine zsr fun K3 hK3 => ?_
 refine goCh Hz (.move rfl .nil) fun Az Hz => ?_
 refine plz (ecl Hz Tryz.func10 rfl (svol_any l _ _ _ ((h1.now' m3 rfl).any) (by omega) hlb) ?_)
 rintro e w13 ⟨y, p113, p213, p313, d113, d213, d313, rfl, hS, hd13, he13, hf13, hb13⟩
 have m14 := m3.callF3 70 71 72 rfl rfl rfl hb13 hd13 he13 hf13
 clear hb13 hd13 he13 hf13
 obtain ⟨n, hn9⟩ : ∃ n, l.length = n := ⟨_, rfl⟩
 rw [hn9] at hS
 have hn : n ≤ 1000 := by omega
 have hF := hS.f hn
 have hpp := place_pos hS
 have hpt := place_top hS
 have hn80 : y.ws.length ≤ 60 := by have := hS.2.2.2.1; omega
 have hyb := hF.bl
 have hyz := hF.sz
 have hf0 := hF.fl0
 have hf1 := hF.fl1
 refine ⟨_, rfl, ?_⟩; intro Az Hz
 refine plz (e_alloc Hz m14 73 fct2 rfl fun g16 Az w17 Hz m17 _ _ => ?_)
 refine plz (stw Hz m17 73 fct1 fun w18 m18 _ => ?_)
 refine znl (hK3 _ _ ?_)
 refine wsk fun K4 hK4 => ?_
 replace Hz := Hz.oz [1, 4, 5]
 refine regS Hz (.fa 7 rfl U33 <| .lb m18 73 U4 rfl rfl rfl .nil) fun Az Hz => ?_
 refine bc Hz 19 ?_ ?_
 ·
  intro hb22 Hz; try simp only [QQ, Qax] at hb22
  refine wct Hz ?_
  refine regS Hz (.assign rfl .nil) fun Az Hz => ?_
  refine rt1 Hz ?_
  exact ⟨by (first | rfl | simp), m18.below⟩
 intro hb22 Hz; try simp only [QQ, Qax] at hb22
 have hhi : y.hi = false := hb22
 refine wcf Hz ?_
 refine zss (hK4 _ _ ?_)
 refine regS Hz (.assign rfl .nil) fun Az Hz => ?_
 refine wsk fun K5 hK5 => ?_
 refine regS Hz (.assign rfl .nil) fun Az Hz => ?_
 refine wp_block ?_
 refine wp_loop_ghost (fun g a w => ∃ (i BV : Nat) (p1 p2 p3 : Option Addr) (d1 d2 d3 : Nat) (p9 : Option Addr) (c9 : Nat), i ≤ y.place.length ∧ g = y.place.length - i ∧ Has 84 [(5, .pointer (some ⟨BV, 0, none⟩)), (6, .slice p9 ((allL y i).map (ckD y)).length c9), (7, .int .i64 (i : Int)), (1, .int .u8 (n1 : Int))] a ∧ MemOk (cn w0) w0 [(20, .box BV 33 [.int .i64 y.vo, .int .i64 y.bl, .int .i64 y.sz, .int .i64 y.pe, .slice p1 y.place.length d1, .int .i64 y.to, .int .i64 y.ne, .bool y.hi, .int .i64 y.fl, .slice p2 y.pins.length d2, .slice p3 (y.ws.map wrD).length d3]), (21, .dat (.slice p1 y.place.length d1) (.ns .i64 y.place)), (22, .dat (.slice p2 y.pins.length d2) (.ns .i64 y.pins)), (23, .dat (.slice p3 (y.ws.map wrD).length d3) (.l 2 (y.ws.map wrD))), (9, .row (.slice p9 ((allL y i).map (ckD y)).length c9) 28 7 ((allL y i).map (ckD y)))] w) (y.place.length) ?_ ?_
 · have mz := m18.nilR 9 28 7
   exact ⟨0, _, _, _, _, _, _, _, _, _, Nat.zero_le _, rfl, Hz.only [5, 6, 7, 1], mz.ren [(20, 73), (21, 70), (22, 71), (23, 72), (9, 9)] (by decide)⟩
 clear Hz m18
 rintro g Az w26 ⟨i, BV, p1, p2, p3, d1, d2, d3, p9, c9, hil, hg, Hz, m26⟩
 refine wsk fun K6 hK6 => ?_
 refine regS Hz (.move rfl <| .fa 4 rfl U33 <| .lb m26 20 U29 rfl rfl rfl <| .len rfl U29 <| .lss rfl rfl .nil) fun Az Hz => ?_
 refine bc Hz 24 ?_ ?_
 ·
  intro hb32 Hz; try simp only [QQ, Qax] at hb32
  have hi : i < y.place.length := by have := hb32; first | omega | (simp at this; omega) | (simp at this; exact this)
  refine wct Hz ?_
  refine zss (hK6 _ _ ?_)
  refine wsk fun K7 hK7 => ?_
  refine wp_block ?_
  refine wp_region_lit ?_
  refine goCh Hz (.move rfl <| .loadBR m26 (i := 20) rfl rfl U33 rfl fct1 (by simp) (by dsimp only [List.drop, List.take] <;> rfl) <| .move rfl .nil) fun Az Hz => ?_
  refine plz (ecl Hz Tryz.func12 rfl (eall_ck _ y n hS hn _ _ _ _ _ _ _ i 1000 _ hi (by omega) (m26.into [(3, 23)] (by decide) rfl)) ?_)
  rintro e w36 ⟨p36, c36, rfl, hm36⟩
  have mx36 := m26.back hm36 [(23, 3), (100, 9)] (by decide); clear hm36 m26
  have m36 := mx36.oz [23, 100, 9, 20, 21, 22]
  refine ⟨_, rfl, ?_⟩; intro Az Hz
  refine plz (e_litR Hz m36 101 (mm := 7) rfl (.cons rfl rfl (.cons (.v _) (.cons (.v _) (.cons (.v _) (.cons (.v _) (.cons (.v _) (.cons (.v _) (.cons (m36.rd (i := 100) rfl) .nil))))))) .nil) U23 fct33 rfl rfl rfl rfl rfl fun g38 Az w39 Hz m39 => ?_)
  have m41 := m39.freezeR 101 rfl
  refine plz (e_appR Hz m41 9 rfl rfl rfl (m41.rd (i := 101) rfl) U23 fct33 rfl rfl (by decide) (by have h9 := allL_len y i; simp at h9 ⊢; omega) rfl fun p40 c40 Az w42 Hz m42 => ?_)
  refine gz hK7 Hz (.assign rfl .nil) fun Az Hz => ?_
  replace Hz := Hz.oz [5, 6, 7, 1]
  refine wp_region_lit ?_
  refine goCh Hz (.move rfl <| .inc (i + 1) <| .assign rfl .nil) fun Az Hz => ?_
  refine wpList_nil ?_
  show ∃ n', n' < _ ∧ _
  have hE : ((allL y i).map (ckD y)) ++ [[D.v (.int .i64 y.vo), .v (.int .i64 (i : Int)), .v (.int .i64 (cnY y i : Int)), .v (.int .i64 y.sz), .v (.int .i64 (y.ws.length : Int)), .v (.int .i64 (min y.fl (y.ws.length : Int))), .l 1 ((chN y (fnY y i) (cnY y i) y.ws.length).map hD)]] = ((allL y (i + 1)).map (ckD y)) := by rw [allL_snoc, List.map_append]; rfl
  rw [hE] at m42 Hz
  exact ⟨y.place.length - (i + 1), by omega, i + 1, _, _, _, _, _, _, _, _, _, by omega, rfl, Hz.only [5, 6, 7, 1], m42.ren [(20, 20), (21, 21), (22, 22), (23, 23), (9, 9)] (by decide)⟩
 intro hb32 Hz; try simp only [QQ, Qax] at hb32
 obtain rfl : i = y.place.length := by have := hb32; first | omega | (simp at this; omega) | (simp at this; exact this)
 refine wcf Hz ?_
 refine wp_exit ?_
 refine hK5 _ _ ?_
 refine wsk fun K8 hK8 => ?_
 obtain ⟨t9, ht9, ht0, ht1⟩ := rng_at (f := y.fl) (m := (y.ws.length : Int)) (x := (n1 : Int)) (by omega) (by omega)
 have m48 := m26.oz [9, 20, 21, 22, 23]
 refine region_p 13 (B := [(9, _), (20, _), (21, _), (22, _), (23, _)]) (m48.to ⟨il, il, il, il, il, trivial⟩) m48 (by kernel_rfl) (fun w49 hP49 m49 => ?_); clear m48
 refine goR hP49 [0, 1, 2, 3, 4, 6, 7] [1, 4, 7] 7 0 223 Hz (m49.to ⟨il, il, il, il, il, trivial⟩) (.fa 8 rfl U33 <| .lb hh 20 U2 rfl rfl rfl <| .move rfl <| .conv rfl U5 U2 (r := (n1 : Int)) (IntWalk.i64_in _ (by omega)) <| .loadBR hh (i := 20) rfl rfl U33 rfl fct1 (by simp) (by dsimp only [List.drop, List.take] <;> rfl) <| .fa 8 rfl U33 <| .lb hh 20 U2 rfl rfl rfl .nil) fun Az Hz => ?_
 refine so 5 ?_
 refine ecb Hz Tryz.func13 rfl m49 (rlen_y y _ _ _ _ _ _ _ _ _) fun Az w57 Hz m58 => ?_
 refine ⟨m58.to ⟨il, il, il, il, il, trivial⟩, ?_⟩
 refine goA hP49 [8, 9, 10, 11, 12] 5 255 8191 Hz (m58.to ⟨il, il, il, il, il, trivial⟩) (.sub rfl rfl (r := (y.ws.length : Int) - y.fl) (IntWalk.i64_in _ (by omega)) <| .add rfl rfl (r := (y.ws.length : Int) - y.fl + 1) (IntWalk.i64_in _ (by omega)) <| .rem rfl rfl (by omega) rfl <| .add rfl rfl (r := t9) (by rw [ht9]; exact IntWalk.i64_in _ (by omega)) <| .assign rfl .nil) fun Az Hz => ?_
 refine wpAnyE_done (by kernel_rfl) ?_ _
 refine hK8 _ _ ?_
 replace Hz := Hz.oz [5, 6, 7, 1, 8]
 refine zsr fun K9 hK9 => ?_
 refine goCh Hz (.loadBR m58 (i := 20) rfl rfl U33 rfl fct1 (by simp) (by dsimp only [List.drop, List.take] <;> rfl) <| .move rfl <| .move rfl <| .move rfl .nil) fun Az Hz => ?_
 have m74 := m58.freezeR 9 rfl
 refine plz (ecl Hz Tryz.func17 rfl (esince_n _ y n hS hn _ _ _ _ _ _ _ (allL y y.place.length) _ _ _ t9 t9 _ (by rw [allL_len]; omega) allL_lo (.inr ⟨allL_ne hpp, allL_le, fun k hk => allL_mem hk⟩) (m74.into [(3, 23), (4, 9)] (by decide) rfl)) ?_)
 rintro e w75 ⟨ea, bla, sza, fra, ta, itsa, p75, c75, hEa, rfl, hm75⟩
 have mx75 := m74.back hm75 [(23, 3), (9, 4), (100, 9)] (by decide); clear hm75 m74
 have m75 := mx75.oz [23, 9, 100, 20, 21, 22]
 refine ⟨_, rfl, ?_⟩; intro Az Hz
 have hra : ea = 0 ∧ bla = y.bl ∧ sza = y.sz ∧ fra = t9 ∧ ta = t9 ∧ itsa = [] := by
   rcases hEa with ⟨h1, -⟩ | ⟨-, h1, -⟩ | ⟨-, -, h1, -⟩ | ⟨-, -, -, h1, -⟩ | ⟨-, -, -, -, h1, -⟩ | ⟨-, -, -, -, -, h1, h2, h3, h4, h5, h6⟩
   · rw [hhi] at h1; cases h1
   · omega
   · omega
   · omega
   · exact absurd h1 (allL_ne hpp)
   exact ⟨h1, h2, h3, h4, h5, by rw [h6]; exact selI_none _ _ _ (fun i => chg_self _)⟩
 obtain ⟨ha1, ha2, ha3, ha4, ha5, ha6⟩ := hra
 have hso : StreamOk bla sza fra ta itsa := by rw [ha2, ha3, ha4, ha5, ha6]; exact nothing_ok hyb hyz (by omega) (by omega)
 have hfr9 : 0 ≤ fra := by omega
 refine goCh Hz (.move rfl <| .extract rfl rfl <| .extract rfl rfl .nil) fun Az Hz => ?_
 refine plz (e_alloc Hz m75 101 fct37 rfl fun g80 Az w81 Hz m81 _ _ => ?_)
 refine plz (stw Hz m81 101 fct36 fun w82 m82 _ => ?_)
 refine gz hK9 Hz (.assign rfl .nil) fun Az Hz => ?_
 replace Hz := Hz.oz [5, 6, 7, 1, 8, 9, 10]
 refine zsr fun K10 hK10 => ?_
 refine goCh Hz (.move rfl <| .eql rfl rfl <| .move rfl .nil) fun Az Hz => ?_
 refine bc Hz 55 ?_ ?_
 rotate_left
 · intro hb _; exact absurd hb (by first | (simp; done) | (simp; omega) | (simp [ha1, ha2, ha4, ha5, ha6]; done))
 clear Hz; intro _ Hz
 refine goCh Hz (.faZ 4 rfl U42 <| .loadB1Z m82 (i := 101) rfl rfl rfl U40 rfl <| .lenZ rfl U40 <| .eqlZ rfl rfl <| .pickT rfl rfl <| .move rfl .nil) fun Az Hz => ?_
 refine bc Hz 61 ?_ ?_
 rotate_left
 · intro hb _; exact absurd hb (by first | (simp; done) | (simp; omega) | (simp [ha1, ha2, ha4, ha5, ha6]; done))
 clear Hz; intro _ Hz
 refine goCh Hz (.faZ 2 rfl U42 <| .loadB1Z m82 (i := 101) rfl rfl rfl U2 rfl <| .moveZ rfl <| .eqlZ rfl rfl <| .pickT rfl rfl <| .move rfl .nil) fun Az Hz => ?_
 refine bc Hz 67 ?_ ?_
 rotate_left
 · intro hb _; exact absurd hb (by first | (simp; done) | (simp; omega) | (simp [ha1, ha2, ha4, ha5, ha6]; done))
 clear Hz; intro _ Hz
 refine goCh Hz (.faZ 3 rfl U42 <| .loadB1Z m82 (i := 101) rfl rfl rfl U2 rfl <| .moveZ rfl <| .eqlZ rfl rfl <| .pickT rfl rfl <| .move rfl .nil) fun Az Hz => ?_
 refine bc Hz 73 ?_ ?_
 rotate_left
 · intro hb _; exact absurd hb (by first | (simp; done) | (simp; omega) | (simp [ha1, ha2, ha4, ha5, ha6]; done))
 clear Hz; intro _ Hz
 refine goCh Hz (.faZ 0 rfl U42 <| .loadB1Z m82 (i := 101) rfl rfl rfl U3 rfl <| .faZ 1 rfl U33 <| .loadB1Z m82 (i := 20) rfl rfl rfl U3 rfl <| .eqlZ rfl rfl <| .pickT rfl rfl <| .move rfl .nil) fun Az Hz => ?_
 refine bc Hz 80 ?_ ?_
 rotate_left
 · intro hb _; exact absurd hb (by first | (simp; done) | (simp; omega) | (simp [ha1, ha2, ha4, ha5, ha6]; done))
 clear Hz; intro _ Hz
 refine goCh Hz (.loadBRZ m82 (i := 101) rfl rfl U42 rfl fct36 (by simp) (by dsimp only [List.drop, List.take] <;> rfl) .nil) fun Az Hz => ?_
 refine stz Hz (ecb Hz Tryz.func26 rfl m82 (r21right_ge _ _ _ _ itsa _ _ _ _ ((m82.rd (i := 100) rfl).any) hso hfr9) fun Az w122 Hz m123 => ?_)
 refine gz hK10 Hz (.pickT rfl rfl <| .assign rfl <| .nil) fun Az Hz => ?_
 refine rt1 Hz ?_
 exact ⟨by (first | rfl | simp), m123.below⟩
end Go.Proofs.YtamjnimaeecmoaaGreat.K
