/- export: Pick, pickAll. -/
import Derived.Test.YtamjnimaeecmoaaGreatExpM
namespace Go.Proofs.YtamjnimaeecmoaaGreat.K
open Go.ChangeShapes Go.WideShapes Go.ChangeAt Go.RowKit
set_option linter.unusedVariables false
set_option linter.unusedSimpArgs false
theorem fl28epk : flatS Tryz.prog 28 [.int .i64 0, .int .i64 0, .int .i64 0, .int .i64 0, .int .i64 0, .int .i64 0, .slice none 0 0] = true := by kernel_rfl
theorem vpush_y (y : VolV) (n : Nat) (hS : VolS n y) (hn : n ≤ 1000) (pp pn pw : Option Addr) (cp nn9 cn9 cw : Nat) (k : Nat) (hk : k < y.place.length) (w0 : World) (h2 : Rd (fun _ => True) w0 (.slice pw (y.ws.map wrD).length cw) (.l 2 (y.ws.map wrD))) :
   Calls Tryz.prog 45 #[.agg #[.int .i64 y.vo, .int .i64 y.bl, .int .i64 y.sz, .int .i64 y.pe, .slice pp y.place.length cp, .int .i64 y.to, .int .i64 y.ne, .bool y.hi, .int .i64 y.fl, .slice pn nn9 cn9, .slice pw (y.ws.map wrD).length cw], .int .i64 (k : Int), .int .i64 0] w0 fun e w' => ∃ (tq fl2 : Int) (p : Option Addr) (np c : Nat), e = .returned (.tuple #[.agg #[.int .i64 y.vo, .int .i64 (k : Int), .int .i64 (cnY y k : Int), .int .i64 y.sz, .int .i64 0, .int .i64 tq, .int .i64 fl2, .slice p np c], .bool true]) ∧ Below w0.heap.size w0 w' := by
 have hF := hS.f hn
 have hC := ckY hS hk
 have hL := ck_last hS hk
 have hpl := place_top hS
 have hwl := hF.wl
 have hf := hC.fe
 have hfb := hC.fnb
 have hcb := hC.c256
 rw [List.length_map] at h2
 rw [List.length_map]
 have h := push_any y.vo y.bl y.sz y.pe y.to y.ne y.fl y.hi pp pn pw cp nn9 cn9 cw y.place y.ws (k : Int) (fnY y k : Int) (cnY y k : Int) 0 (min 4 y.ws.length) w0 h2 (by omega) (by omega) hS.1.its.1 ⟨by omega, by omega⟩ (Nat.zero_le _) hf.symm ⟨by omega, by omega⟩ hL ⟨by omega, by omega⟩ (by omega)
 refine h.mono fun e w' h9 => ?_
 obtain ⟨p, c, h5, -, h6⟩ := h9
 exact ⟨_, _, p, _, c, h5, h6⟩
theorem ecopy_x (X : Cx) (y : VolV) (k fn cnt m : Nat) (hC : CkOk y k fn cnt) (hF : VolF y) (hmn : m ≤ y.ws.length) (nn c : Nat) (p : Option Addr) (w0 : World) (m0 : MemOk X w0 [(1, .dat (.slice p nn c) (.l 1 ((chN y fn cnt m).map hD)))] w0) :
   Calls Tryz.prog 46 #[.agg #[.int .i64 y.vo, .int .i64 (k : Int), .int .i64 (cnt : Int), .int .i64 y.sz, .int .i64 (m : Int), .int .i64 (min y.fl (m : Int)), .slice p nn c]] w0 fun e w' => ∃ (p9 : Option Addr) (c9 : Nat), e = .returned (.agg #[.int .i64 y.vo, .int .i64 (k : Int), .int .i64 (cnt : Int), .int .i64 y.sz, .int .i64 (m : Int), .int .i64 (min y.fl (m : Int)), .slice p9 cnt c9]) ∧ MemOk X w0 [(1, .dat (.slice p nn c) (.l 1 ((chN y fn cnt m).map hD))), (9, .dat (.slice p9 cnt c9) (.l 1 ((chN y fn cnt m).map hD)))] w' := by
 have hcl := chN_len y fn cnt m
 obtain rfl : cnt = nn := by have h9 := nnOf (m0.rd (i := 1) rfl); rw [hcl] at h9; exact h9.symm
 have hl := hF.wl
 have hHB : HB 900000 (chN y fn cnt m) := chu_hb hF.wr hF.sz.2 (by omega)
 have hc2 := hC.c256
 have h := pchunk_x X y.vo (k : Int) (cnt : Int) y.sz (m : Int) (min y.fl (m : Int)) (chN y fn cnt m) p c w0 (by omega) hHB.ok (by rw [hcl]; exact m0)
 rw [hcl] at h
 refine h.mono fun e w' h9 => ?_
 obtain ⟨p9, c9, h1, h2⟩ := h9
 exact ⟨p9, c9, h1, (h2.freezeR 9 rfl).ren [(1, 1), (9, 9)] (by decide)⟩
set_option maxRecDepth 100000
set_option maxHeartbeats 4000000
theorem epick_x (X : Cx) (y : VolV) (n : Nat) (hS : VolS n y) (hn : n ≤ 1000) (pp pn pw : Option Addr) (cp nn9 cn9 cw : Nat) (L : List (Nat × Nat)) (pl : Option Addr) (cl : Nat) (k : Nat) (a9 b9 : Int) (w0 : World) (hL : L.length ≤ 1000000) (hLo : ∀ x ∈ L, x.1 < y.place.length ∧ x.2 ≤ y.ws.length) (hk : k < y.place.length) (m0 : MemOk X w0 [(3, .dat (.slice pw (y.ws.map wrD).length cw) (.l 2 (y.ws.map wrD))), (4, .dat (.slice pl L.length cl) (.l 7 (L.map (ckD y))))] w0) :
   Calls Tryz.prog 19 #[.agg #[.int .i64 y.vo, .int .i64 y.bl, .int .i64 y.sz, .int .i64 y.pe, .slice pp y.place.length cp, .int .i64 y.to, .int .i64 y.ne, .bool y.hi, .int .i64 y.fl, .slice pn nn9 cn9, .slice pw (y.ws.map wrD).length cw], .slice pl L.length cl, .int .i64 (k : Int), .int .i64 a9, .int .i64 b9] w0 fun e w' => (∃ (m : Nat) (p9 : Option Addr) (c9 : Nat), (PkOk y k a9 b9 (k, m) ∧ (k, m) ∈ L) ∧ e = .returned (.tuple #[.agg #[.int .i64 y.vo, .int .i64 (k : Int), .int .i64 (cnY y k : Int), .int .i64 y.sz, .int .i64 (m : Int), .int .i64 (min y.fl (m : Int)), .slice p9 (cnY y k) c9], .bool true]) ∧ MemOk X w0 [(3, .dat (.slice pw (y.ws.map wrD).length cw) (.l 2 (y.ws.map wrD))), (4, .dat (.slice pl L.length cl) (.l 7 (L.map (ckD y)))), (9, .dat (.slice p9 (cnY y k) c9) (.l 1 ((chN y (fnY y k) (cnY y k) m).map hD)))] w') ∨ ((∀ z ∈ L, ¬ PkOk y k a9 b9 z) ∧ e = .returned (.tuple #[.agg #[.int .i64 0, .int .i64 0, .int .i64 0, .int .i64 0, .int .i64 0, .int .i64 0, .slice none 0 0], .bool false]) ∧ MemOk X w0 [(3, .dat (.slice pw (y.ws.map wrD).length cw) (.l 2 (y.ws.map wrD))), (4, .dat (.slice pl L.length cl) (.l 7 (L.map (ckD y))))] w') := by
 refine ent5 Tryz.func19 rfl Tryz.ntmps19 fun Az Hz => ?_
 have hF := hS.f hn
 have hC := ckY hS hk
 refine zsr fun K0 hK0 => ?_
 refine plz (e_box Hz m0 40 (cs := [_, _, _, _, _, _, _, _, _, _, _]) rfl rfl rfl fun g1 Az w2 Hz m2 _ _ => ?_)
 refine plz (e_alloc Hz m2 41 fct17 rfl fun g3 Az w4 Hz m4 _ _ => ?_)
 refine gz hK0 Hz (.assign rfl .nil) fun Az Hz => ?_
 refine zsr fun K1 hK1 => ?_
 refine goCh Hz (.loadBR m4 (i := 40) rfl rfl U33 rfl fct1 (by simp) (by dsimp only [List.drop, List.take] <;> rfl) <| .move rfl .nil) fun Az Hz => ?_
 refine plz (ecl Hz Tryz.func45 rfl (vpush_y y n hS hn _ _ _ _ _ _ _ k hk _ (m4.rd (i := 3) rfl).any) ?_)
 rintro e w10 ⟨tq9, fq9, p10, np10, c10, rfl, hb10⟩
 have m11 := m4.later hb10
 refine ⟨_, rfl, ?_⟩; intro Az Hz
 refine goCh Hz (.move rfl <| .extract rfl rfl <| .extract rfl rfl .nil) fun Az Hz => ?_
 refine plz (e_alloc Hz m11 42 fct28 rfl fun g16 Az w17 Hz m17 _ _ => ?_)
 refine plz (stw Hz m17 42 fct14 fun w18 m18 _ => ?_)
 refine gz hK1 Hz (.assign rfl .nil) fun Az Hz => ?_
 refine wsk fun K2 hK2 => ?_
 replace Hz := Hz.oz [1, 3, 4, 10, 11, 12, 13]
 refine regS Hz (.move rfl <| .not rfl .nil) fun Az Hz => ?_
 refine wcf Hz ?_
 refine zss (hK2 _ _ ?_)
 refine wsk fun K3 hK3 => ?_
 refine regS Hz (.move rfl <| .len rfl U23 <| .move rfl .nil) fun Az Hz => ?_
 refine wp_block ?_
 refine wp_loop_ghost (fun g a w => ∃ (i B10 B12 : Nat) (tq9 fq9 : Int) (pq : Option Addr) (nq cq : Nat), i ≤ L.length ∧ g = L.length - i ∧ (∀ z ∈ L.take i, ¬ PkOk y k a9 b9 z) ∧ Has 75 [(3, .int .i64 a9), (4, .int .i64 b9), (10, .pointer (some ⟨B10, 0, none⟩)), (12, .pointer (some ⟨B12, 0, none⟩)), (26, .slice pl L.length cl), (27, .int .i64 L.length), (28, .int .i64 i)] a ∧ MemOk X w0 [(3, .dat (.slice pw (y.ws.map wrD).length cw) (.l 2 (y.ws.map wrD))), (4, .dat (.slice pl L.length cl) (.l 7 (L.map (ckD y)))), (20, .box B10 28 [.int .i64 0, .int .i64 0, .int .i64 0, .int .i64 0, .int .i64 0, .int .i64 0, .slice none 0 0]), (21, .box B12 90 [.int .i64 y.vo, .int .i64 (k : Int), .int .i64 (cnY y k : Int), .int .i64 y.sz, .int .i64 0, .int .i64 tq9, .int .i64 fq9, .slice pq nq cq])] w) (L.length) ?_ ?_
 · exact ⟨0, _, _, _, _, _, _, _, Nat.zero_le _, rfl, (fun z hz => by rw [List.take_zero] at hz; cases hz), Hz.only [3, 4, 10, 12, 26, 27, 28], m18.ren [(3, 3), (4, 4), (20, 41), (21, 42)] (by decide)⟩
 clear Hz m18
 rintro g Az w26 ⟨i, B10, B12, tq9, fq9, pq, nq, cq, hil, hg, hno, Hz, m26⟩
 refine regS Hz (.lss rfl rfl .nil) fun Az Hz => ?_
 refine wsk fun K4 hK4 => ?_
 refine bc Hz 29 ?_ ?_
 ·
  intro hb28 Hz; try simp only [QQ, Qax] at hb28
  have hi : i < L.length := by have := hb28; first | omega | (simp at this; omega) | (simp at this; exact this)
  obtain ⟨⟨xk, xm⟩, hes⟩ : ∃ e, L[i]? = some e := ⟨_, List.getElem?_eq_getElem hi⟩
  have hxL := hLo _ (List.mem_of_getElem? hes)
  dsimp only at hxL
  have hxm := hxL.2
  refine wct Hz ?_
  refine zss (hK4 _ _ ?_)
  refine wsk fun K5 hK5 => ?_
  refine wp_block ?_
  refine zsr fun K6 hK6 => ?_
  obtain ⟨b30, o30, vs30, hp30, hR30, ho30, m30⟩ := m26.openR (i := 4) rfl (i) (r := [.v (.int .i64 y.vo), .v (.int .i64 (xk : Int)), .v (.int .i64 (cnY y xk : Int)), .v (.int .i64 y.sz), .v (.int .i64 (xm : Int)), .v (.int .i64 (min y.fl (xm : Int))), .l 1 ((chN y (fnY y xk) (cnY y xk) xm).map hD)]) (ckD_get hes) 100 rfl
  revert Hz
  cases hp30; clear m26 ho30
  rcases hR30 with _ | ⟨hd30_0, _ | ⟨hd30_1, _ | ⟨hd30_2, _ | ⟨hd30_3, _ | ⟨hd30_4, _ | ⟨hd30_5, _ | ⟨hd30_6, _ | _⟩⟩⟩⟩⟩⟩⟩
  obtain rfl := hd30_0.v_out
  clear hd30_0
  obtain rfl := hd30_1.v_out
  clear hd30_1
  obtain rfl := hd30_2.v_out
  clear hd30_2
  obtain rfl := hd30_3.v_out
  clear hd30_3
  obtain rfl := hd30_4.v_out
  clear hd30_4
  obtain rfl := hd30_5.v_out
  clear hd30_5
  obtain ⟨p31, c31, hv31, hc31⟩ := hd30_6.l_shape; subst hv31
  intro Hz
  have m31 := m30.dat 101 rfl (hd30_6.cast (fun _ h => (free_add rfl h))); clear m30 hd30_6
  refine goCh Hz (.c rfl (fun _ h_ => y_idx h_ rfl rfl U23 fct12 (i) rfl hi) <| .loadCR m31 (i := 100) rfl rfl U28 rfl fct12 .nil) fun Az Hz => ?_
  refine plz (e_alloc Hz m31 102 fct17 rfl fun g34 Az w35 Hz m35 _ _ => ?_)
  refine plz (stw Hz m35 102 fct12 fun w36 m36 _ => ?_)
  refine znl (hK6 _ _ ?_)
  refine zsr fun K7 hK7 => ?_
  refine goCh Hz (.fa 0 rfl U28 <| .lb m36 102 U3 rfl rfl rfl <| .fa 0 rfl U90 <| .lb m36 21 U3 rfl rfl rfl <| .eql rfl rfl <| .move rfl .nil) fun Az Hz => ?_
  refine bc Hz 37 ?_ ?_
  rotate_left
  · intro hb _; exact absurd hb (by simp)
  clear Hz; intro _ Hz
  refine goCh Hz (.faZ 1 rfl U28 <| .loadB1Z m36 (i := 102) rfl rfl rfl U3 rfl <| .faZ 1 rfl U90 <| .loadB1Z m36 (i := 21) rfl rfl rfl U3 rfl <| .eqlZ rfl rfl <| .pickT rfl rfl <| .move rfl .nil) fun Az Hz => ?_
  refine bc Hz 44 ?_ ?_
  ·
   intro hb57 Hz; try simp only [QQ, Qax] at hb57
   have hk1 : k = xk := by have := hb57; first | omega | (simp at this; omega) | (simp at this; exact this)
   revert Hz
   subst hk1
   intro Hz
   refine goCh Hz (.faZ 2 rfl U28 <| .loadB1Z m36 (i := 102) rfl rfl rfl U3 rfl <| .faZ 2 rfl U90 <| .loadB1Z m36 (i := 21) rfl rfl rfl U3 rfl <| .eqlZ rfl rfl <| .pickT rfl rfl <| .move rfl .nil) fun Az Hz => ?_
   refine bc Hz 51 ?_ ?_
   rotate_left
   · intro hb _; exact absurd hb (by simp)
   clear Hz; intro _ Hz
   refine gz hK7 Hz (.faZ 3 rfl U28 <| .loadB1Z m36 (i := 102) rfl rfl rfl U3 rfl <| .faZ 3 rfl U90 <| .loadB1Z m36 (i := 21) rfl rfl rfl U3 rfl <| .eqlZ rfl rfl <| .pickT rfl rfl <| .assign rfl <| .nil) fun Az Hz => ?_
   replace Hz := Hz.oz [3, 4, 10, 12, 26, 27, 28, 15, 16]
   refine zsr fun K8 hK8 => ?_
   refine goCh Hz (.move rfl <| .move rfl .nil) fun Az Hz => ?_
   refine bc Hz 59 ?_ ?_
   rotate_left
   · intro hb _; exact absurd hb (by simp)
   clear Hz; intro _ Hz
   refine goCh Hz (.faZ 5 rfl U28 <| .loadB1Z m36 (i := 102) rfl rfl rfl U2 rfl <| .moveZ rfl <| .leqZ rfl rfl <| .pickT rfl rfl <| .move rfl .nil) fun Az Hz => ?_
   refine bc Hz 65 ?_ ?_
   ·
    intro hb85 Hz; try simp only [QQ, Qax] at hb85
    have hfl : min y.fl (xm : Int) ≤ a9 := by have := hb85; first | omega | (simp at this; omega) | (simp at this; exact this)
    refine gz hK8 Hz (.faZ 4 rfl U28 <| .loadB1Z m36 (i := 102) rfl rfl rfl U2 rfl <| .moveZ rfl <| .geqZ rfl rfl <| .pickT rfl rfl <| .nil) fun Az Hz => ?_
    refine bc Hz 70 ?_ ?_
    ·
     intro hb91 Hz; try simp only [QQ, Qax] at hb91
     have hmk : b9 ≤ (xm : Int) := by have := hb91; first | omega | (simp at this; omega) | (simp at this; exact this)
     refine wct Hz ?_
     replace Hz := Hz.oz [3, 4, 10, 12, 26, 27, 28, 15, 70]
     refine zsr fun K9 hK9 => ?_
     refine goCh Hz (.loadBR m36 (i := 102) rfl rfl U28 rfl fct12 (by simp) (by dsimp only [List.drop, List.take] <;> rfl) .nil) fun Az Hz => ?_
     refine plz (ecl Hz Tryz.func46 rfl (ecopy_x _ y k _ _ xm (ckY hS hk) hF hxm _ _ _ _ (m36.into [(1, 101)] (by decide) rfl)) ?_)
     rintro e w95 ⟨p95, c95, rfl, hm95⟩
     have mx95 := m36.back hm95 [(101, 1), (103, 9)] (by decide); clear hm95 m36
     have m95 := mx95.oz [101, 103, 3, 4, 20, 21, 100, 102]
     refine ⟨_, rfl, ?_⟩; intro Az Hz
     refine plz (stw Hz m95 20 fct12 fun w97 m97 _ => ?_)
     refine gz hK9 Hz (.assign rfl .nil) fun Az Hz => ?_
     refine rtd (retCT (fn := Tryz.f19) Hz m97 (i := 20) rfl rfl rfl rfl U28 rfl fct12 ?_)
     exact .inl ⟨xm, _, _, ⟨⟨rfl, hfl, hmk⟩, List.mem_of_getElem? hes⟩, rfl, m97.ren [(3, 3), (4, 4), (9, 103)] (by decide)⟩
    intro hb91 Hz; try simp only [QQ, Qax] at hb91
    have hmk : ¬ b9 ≤ (xm : Int) := by have := hb91; first | omega | (simp at this; omega) | (simp at this; exact this)
    have hx9 : ¬ PkOk y k a9 b9 (k, xm) := fun h9 => by obtain ⟨h7, h8, h6⟩ := h9; dsimp only at h7 h8 h6; exact hmk h6
    refine wcf Hz ?_
    refine zss (hK5 _ _ ?_)
    replace Hz := Hz.oz [3, 4, 10, 12, 26, 27, 28, 70]
    refine wp_region_lit ?_
    refine goCh Hz (.inc (i + 1) <| .move rfl .nil) fun Az Hz => ?_
    refine wpList_nil ?_
    show ∃ n', n' < _ ∧ _
    have hno2 := pk_snoc hno hes hx9
    exact ⟨L.length - (i + 1), by omega, i + 1, _, _, _, _, _, _, _, by omega, rfl, hno2, Hz.only [3, 4, 10, 12, 26, 27, 28], m36.ren [(3, 3), (4, 4), (20, 20), (21, 21)] (by decide)⟩
   intro hb85 Hz; try simp only [QQ, Qax] at hb85
   have hfl : ¬ min y.fl (xm : Int) ≤ a9 := by have := hb85; first | omega | (simp at this; omega) | (simp at this; exact this)
   have hx9 : ¬ PkOk y k a9 b9 (k, xm) := fun h9 => by obtain ⟨h7, h8, h6⟩ := h9; dsimp only at h7 h8 h6; exact hfl h8
   refine gz hK8 Hz (.sk <| .sk <| .sk <| .sk <| .pickF rfl rfl <| .nil) fun Az Hz => ?_
   refine wcf Hz ?_
   refine zss (hK5 _ _ ?_)
   replace Hz := Hz.oz [3, 4, 10, 12, 26, 27, 28, 70]
   refine wp_region_lit ?_
   refine goCh Hz (.inc (i + 1) <| .move rfl .nil) fun Az Hz => ?_
   refine wpList_nil ?_
   show ∃ n', n' < _ ∧ _
   have hno2 := pk_snoc hno hes hx9
   exact ⟨L.length - (i + 1), by omega, i + 1, _, _, _, _, _, _, _, by omega, rfl, hno2, Hz.only [3, 4, 10, 12, 26, 27, 28], m36.ren [(3, 3), (4, 4), (20, 20), (21, 21)] (by decide)⟩
  intro hb57 Hz; try simp only [QQ, Qax] at hb57
  have hk1 : ¬ xk = k := by have := hb57; first | omega | (simp at this; omega) | (simp at this; exact this)
  have hx9 : ¬ PkOk y k a9 b9 (xk, xm) := fun h9 => by obtain ⟨h7, h8, h6⟩ := h9; dsimp only at h7 h8 h6; exact hk1 h7
  refine gz hK7 Hz (.sk <| .sk <| .sk <| .sk <| .sk <| .pickF rfl rfl <| .move rfl <| .sk <| .sk <| .sk <| .sk <| .sk <| .pickF rfl rfl <| .assign rfl <| .nil) fun Az Hz => ?_
  replace Hz := Hz.oz [3, 4, 10, 12, 26, 27, 28, 15, 16]
  refine regS Hz (.move rfl <| .move rfl <| .sk <| .sk <| .sk <| .sk <| .pickF rfl rfl <| .move rfl <| .sk <| .sk <| .sk <| .sk <| .pickF rfl rfl .nil) fun Az Hz => ?_
  refine wcf Hz ?_
  refine zss (hK5 _ _ ?_)
  replace Hz := Hz.oz [3, 4, 10, 12, 26, 27, 28, 70]
  refine wp_region_lit ?_
  refine goCh Hz (.inc (i + 1) <| .move rfl .nil) fun Az Hz => ?_
  refine wpList_nil ?_
  show ∃ n', n' < _ ∧ _
  have hno2 := pk_snoc hno hes hx9
  exact ⟨L.length - (i + 1), by omega, i + 1, _, _, _, _, _, _, _, by omega, rfl, hno2, Hz.only [3, 4, 10, 12, 26, 27, 28], m36.ren [(3, 3), (4, 4), (20, 20), (21, 21)] (by decide)⟩
 intro hb28 Hz; try simp only [QQ, Qax] at hb28
 obtain rfl : i = L.length := by have := hb28; first | omega | (simp at this; omega) | (simp at this; exact this)
 refine wcf Hz ?_
 refine wp_exit ?_
 refine hK3 _ _ ?_
 refine zsr fun K10 hK10 => ?_
 refine goCh Hz (.build rfl fct17 fl28epk rfl (by dsimp only [setL, List.set] <;> rfl) .nil) fun Az Hz => ?_
 refine plz (stw Hz m26 20 fct12 fun w143 m143 _ => ?_)
 refine gz hK10 Hz (.assign rfl .nil) fun Az Hz => ?_
 refine rtd (retCT (fn := Tryz.f19) Hz m143 (i := 20) rfl rfl rfl rfl U28 rfl fct12 ?_)
 exact .inr ⟨by rw [List.take_length] at hno; exact hno, rfl, m143.only [3, 4]⟩
theorem epick_yes (X : Cx) (y : VolV) (n : Nat) (hS : VolS n y) (hn : n ≤ 1000) (pp pn pw : Option Addr) (cp nn9 cn9 cw : Nat) (L : List (Nat × Nat)) (pl : Option Addr) (cl : Nat) (k : Nat) (a9 b9 : Int) (w0 : World) (hL : L.length ≤ 1000000) (hLo : ∀ x ∈ L, x.1 < y.place.length ∧ x.2 ≤ y.ws.length) (hk : k < y.place.length) (hin : ∃ m, (k, m) ∈ L ∧ min y.fl (m : Int) ≤ a9 ∧ b9 ≤ (m : Int)) (m0 : MemOk X w0 [(3, .dat (.slice pw (y.ws.map wrD).length cw) (.l 2 (y.ws.map wrD))), (4, .dat (.slice pl L.length cl) (.l 7 (L.map (ckD y))))] w0) :
   Calls Tryz.prog 19 #[.agg #[.int .i64 y.vo, .int .i64 y.bl, .int .i64 y.sz, .int .i64 y.pe, .slice pp y.place.length cp, .int .i64 y.to, .int .i64 y.ne, .bool y.hi, .int .i64 y.fl, .slice pn nn9 cn9, .slice pw (y.ws.map wrD).length cw], .slice pl L.length cl, .int .i64 (k : Int), .int .i64 a9, .int .i64 b9] w0 fun e w' => ∃ (m : Nat) (p9 : Option Addr) (c9 : Nat), PkOk y k a9 b9 (k, m) ∧ (k, m) ∈ L ∧ e = .returned (.tuple #[.agg #[.int .i64 y.vo, .int .i64 (k : Int), .int .i64 (cnY y k : Int), .int .i64 y.sz, .int .i64 (m : Int), .int .i64 (min y.fl (m : Int)), .slice p9 (cnY y k) c9], .bool true]) ∧ MemOk X w0 [(3, .dat (.slice pw (y.ws.map wrD).length cw) (.l 2 (y.ws.map wrD))), (4, .dat (.slice pl L.length cl) (.l 7 (L.map (ckD y)))), (9, .dat (.slice p9 (cnY y k) c9) (.l 1 ((chN y (fnY y k) (cnY y k) m).map hD)))] w' := by
 refine (epick_x X y n hS hn pp pn pw cp nn9 cn9 cw L pl cl k a9 b9 w0 hL hLo hk m0).mono fun e w' h => ?_
 rcases h with ⟨m, p9, c9, h1, h2, h3⟩ | ⟨h1, -⟩
 · exact ⟨m, p9, c9, h1.1, h1.2, h2, h3⟩
 obtain ⟨m, h4, h5, h6⟩ := hin
 exact absurd ⟨rfl, h5, h6⟩ (h1 _ h4)
theorem epick_no (X : Cx) (y : VolV) (n : Nat) (hS : VolS n y) (hn : n ≤ 1000) (pp pn pw : Option Addr) (cp nn9 cn9 cw : Nat) (L : List (Nat × Nat)) (pl : Option Addr) (cl : Nat) (k : Nat) (a9 b9 : Int) (w0 : World) (hL0 : L = []) (hk : k < y.place.length) (m0 : MemOk X w0 [(3, .dat (.slice pw (y.ws.map wrD).length cw) (.l 2 (y.ws.map wrD))), (4, .dat (.slice pl L.length cl) (.l 7 (L.map (ckD y))))] w0) :
   Calls Tryz.prog 19 #[.agg #[.int .i64 y.vo, .int .i64 y.bl, .int .i64 y.sz, .int .i64 y.pe, .slice pp y.place.length cp, .int .i64 y.to, .int .i64 y.ne, .bool y.hi, .int .i64 y.fl, .slice pn nn9 cn9, .slice pw (y.ws.map wrD).length cw], .slice pl L.length cl, .int .i64 (k : Int), .int .i64 a9, .int .i64 b9] w0 fun e w' => e = .returned (.tuple #[.agg #[.int .i64 0, .int .i64 0, .int .i64 0, .int .i64 0, .int .i64 0, .int .i64 0, .slice none 0 0], .bool false]) ∧ MemOk X w0 [(3, .dat (.slice pw (y.ws.map wrD).length cw) (.l 2 (y.ws.map wrD))), (4, .dat (.slice pl L.length cl) (.l 7 (L.map (ckD y))))] w' := by
 refine (epick_x X y n hS hn pp pn pw cp nn9 cn9 cw L pl cl k a9 b9 w0 (by rw [hL0]; simp) (fun x hx => by rw [hL0] at hx; cases hx) hk m0).mono fun e w' h => ?_
 rcases h with ⟨m, p9, c9, h1, h2, h3⟩ | ⟨-, h2, h3⟩
 · rw [hL0] at h1; exact absurd h1.2 (by simp)
 exact ⟨h2, h3⟩
theorem epall_yes (X : Cx) (y : VolV) (n : Nat) (hS : VolS n y) (hn : n ≤ 1000) (pp pn pw : Option Addr) (cp nn9 cn9 cw : Nat) (L : List (Nat × Nat)) (pl : Option Addr) (cl : Nat) (a9 b9 : Int) (w0 : World) (hL : L.length ≤ 1000000) (hLo : ∀ x ∈ L, x.1 < y.place.length ∧ x.2 ≤ y.ws.length) (hall : ∀ k, k < y.place.length → ∃ m, (k, m) ∈ L ∧ min y.fl (m : Int) ≤ a9 ∧ b9 ≤ (m : Int)) (m0 : MemOk X w0 [(3, .dat (.slice pw (y.ws.map wrD).length cw) (.l 2 (y.ws.map wrD))), (4, .dat (.slice pl L.length cl) (.l 7 (L.map (ckD y))))] w0) :
   Calls Tryz.prog 38 #[.agg #[.int .i64 y.vo, .int .i64 y.bl, .int .i64 y.sz, .int .i64 y.pe, .slice pp y.place.length cp, .int .i64 y.to, .int .i64 y.ne, .bool y.hi, .int .i64 y.fl, .slice pn nn9 cn9, .slice pw (y.ws.map wrD).length cw], .slice pl L.length cl, .int .i64 a9, .int .i64 b9] w0 fun e w' => ∃ (Lp : List (Nat × Nat)) (p9 : Option Addr) (c9 : Nat), PkL y L a9 b9 Lp y.place.length ∧ e = .returned (.tuple #[.slice p9 ((Lp).map (ckD y)).length c9, .bool true]) ∧ MemOk X w0 [(3, .dat (.slice pw (y.ws.map wrD).length cw) (.l 2 (y.ws.map wrD))), (4, .dat (.slice pl L.length cl) (.l 7 (L.map (ckD y)))), (9, .dat (.slice p9 ((Lp).map (ckD y)).length c9) (.l 7 ((Lp).map (ckD y))))] w' := by
 refine ent4 Tryz.func38 rfl Tryz.ntmps38 fun Az Hz => ?_
 have hpt := place_top hS
 refine zsr fun K0 hK0 => ?_
 refine plz (e_box Hz m0 40 (cs := [_, _, _, _, _, _, _, _, _, _, _]) rfl rfl rfl fun g1 Az w2 Hz m2 _ _ => ?_)
 refine gz hK0 Hz (.assign rfl <| .assign rfl <| .nil) fun Az Hz => ?_
 refine regS Hz (.assign rfl .nil) fun Az Hz => ?_
 refine wsk fun K1 hK1 => ?_
 refine regS Hz (.fa 4 rfl U33 <| .lb m2 40 U29 rfl rfl rfl <| .len rfl U29 <| .move rfl .nil) fun Az Hz => ?_
 refine wp_block ?_
 refine wp_loop_ghost (fun g a w => ∃ (i B4 : Nat) (Lp : List (Nat × Nat)) (p9 : Option Addr) (c9 : Nat), i ≤ y.place.length ∧ g = y.place.length - i ∧ PkL y L a9 b9 Lp i ∧ Has 37 [(1, .slice pl L.length cl), (2, .int .i64 a9), (3, .int .i64 b9), (4, .pointer (some ⟨B4, 0, none⟩)), (10, .slice p9 ((Lp).map (ckD y)).length c9), (16, .int .i64 y.place.length), (17, .int .i64 i)] a ∧ MemOk X w0 [(3, .dat (.slice pw (y.ws.map wrD).length cw) (.l 2 (y.ws.map wrD))), (4, .dat (.slice pl L.length cl) (.l 7 (L.map (ckD y)))), (20, .box B4 33 [.int .i64 y.vo, .int .i64 y.bl, .int .i64 y.sz, .int .i64 y.pe, .slice pp y.place.length cp, .int .i64 y.to, .int .i64 y.ne, .bool y.hi, .int .i64 y.fl, .slice pn nn9 cn9, .slice pw (y.ws.map wrD).length cw]), (9, .row (.slice p9 ((Lp).map (ckD y)).length c9) 28 7 ((Lp).map (ckD y)))] w) (y.place.length) ?_ ?_
 · have mz := m2.nilR 9 28 7
   exact ⟨0, _, [], _, _, Nat.zero_le _, rfl, ⟨rfl, (fun x i h => by cases h)⟩, Hz.only [1, 2, 3, 4, 10, 16, 17], mz.ren [(3, 3), (4, 4), (20, 40), (9, 9)] (by decide)⟩
 clear Hz m2
 rintro g Az w10 ⟨i, B4, Lp, p9, c9, hil, hg, hPL, Hz, m10⟩
 refine regS Hz (.lss rfl rfl .nil) fun Az Hz => ?_
 refine wsk fun K2 hK2 => ?_
 refine bc Hz 18 ?_ ?_
 ·
  intro hb12 Hz; try simp only [QQ, Qax] at hb12
  have hi : i < y.place.length := by have := hb12; first | omega | (simp at this; omega) | (simp at this; exact this)
  refine wct Hz ?_
  refine zss (hK2 _ _ ?_)
  refine wsk fun K3 hK3 => ?_
  refine wp_block ?_
  refine regS Hz (.move rfl <| .assign rfl .nil) fun Az Hz => ?_
  refine zsr fun K4 hK4 => ?_
  refine goCh Hz (.loadBR m10 (i := 20) rfl rfl U33 rfl fct1 (by simp) (by dsimp only [List.drop, List.take] <;> rfl) <| .move rfl <| .move rfl <| .move rfl <| .move rfl .nil) fun Az Hz => ?_
  refine plz (ecl Hz Tryz.func19 rfl (epick_yes _ y n hS hn _ _ _ _ _ _ _ L _ _ i a9 b9 _ hL hLo hi (hall i hi) (m10.into [(3, 3), (4, 4)] (by decide) rfl)) ?_)
  rintro e w25 ⟨xm, p25, c25, hpk, hxL, rfl, hm25⟩
  have mx25 := m10.back hm25 [(3, 3), (4, 4), (100, 9)] (by decide); clear hm25 m10
  have m25 := mx25.oz [3, 4, 100, 9, 20]
  refine ⟨_, rfl, ?_⟩; intro Az Hz
  refine goCh Hz (.move rfl <| .extract rfl rfl <| .extract rfl rfl .nil) fun Az Hz => ?_
  refine plz (e_alloc Hz m25 101 fct17 rfl fun g30 Az w31 Hz m31 _ _ => ?_)
  refine plz (stw Hz m31 101 fct12 fun w32 m32 _ => ?_)
  refine gz hK4 Hz (.assign rfl .nil) fun Az Hz => ?_
  refine wsk fun K5 hK5 => ?_
  replace Hz := Hz.oz [1, 2, 3, 4, 10, 16, 17, 12, 13]
  refine regS Hz (.move rfl <| .not rfl .nil) fun Az Hz => ?_
  refine wcf Hz ?_
  refine zss (hK5 _ _ ?_)
  refine wp_region_lit ?_
  refine goCh Hz (.move rfl <| .loadBR m32 (i := 101) rfl rfl U28 rfl fct12 (by simp) (by dsimp only [List.drop, List.take] <;> rfl) .nil) fun Az Hz => ?_
  refine plz (e_litR Hz m32 102 (mm := 7) rfl (.cons rfl rfl (.cons (.v _) (.cons (.v _) (.cons (.v _) (.cons (.v _) (.cons (.v _) (.cons (.v _) (.cons (m32.rd (i := 100) rfl) .nil))))))) .nil) U23 fct34 rfl rfl rfl rfl rfl fun g39 Az w40 Hz m40 => ?_)
  have m42 := m40.freezeR 102 rfl
  refine plz (e_appR Hz m42 9 rfl rfl rfl (m42.rd (i := 102) rfl) U23 fct34 rfl rfl (by decide) (by have h9 := hPL.1; simp; omega) rfl fun p41 c41 Az w43 Hz m43 => ?_)
  refine gz hK3 Hz (.assign rfl .nil) fun Az Hz => ?_
  replace Hz := Hz.oz [1, 2, 3, 4, 10, 16, 17]
  refine wp_region_lit ?_
  refine goCh Hz (.inc (i + 1) <| .move rfl .nil) fun Az Hz => ?_
  refine wpList_nil ?_
  show ∃ n', n' < _ ∧ _
  have hE : ((Lp).map (ckD y)) ++ [[D.v (.int .i64 y.vo), .v (.int .i64 (i : Int)), .v (.int .i64 (cnY y i : Int)), .v (.int .i64 y.sz), .v (.int .i64 (xm : Int)), .v (.int .i64 (min y.fl (xm : Int))), .l 1 ((chN y (fnY y i) (cnY y i) xm).map hD)]] = ((Lp ++ [(i, xm)]).map (ckD y)) := by rw [List.map_append]; rfl
  rw [hE] at m43 Hz
  exact ⟨y.place.length - (i + 1), by omega, i + 1, _, Lp ++ [(i, xm)], _, _, by omega, rfl, hPL.snoc hxL hpk.2.1 hpk.2.2, Hz.only [1, 2, 3, 4, 10, 16, 17], m43.ren [(3, 3), (4, 4), (20, 20), (9, 9)] (by decide)⟩
 intro hb12 Hz; try simp only [QQ, Qax] at hb12
 obtain rfl : i = y.place.length := by have := hb12; first | omega | (simp at this; omega) | (simp at this; exact this)
 refine wcf Hz ?_
 refine wp_exit ?_
 refine hK1 _ _ ?_
 refine regS Hz (.move rfl <| .assign rfl <| .assign rfl .nil) fun Az Hz => ?_
 refine rt2 Hz ?_
 have m51 := m10.freezeR 9 rfl
 exact ⟨Lp, _, _, hPL, rfl, m51.ren [(3, 3), (4, 4), (9, 9)] (by decide)⟩
theorem epall_no (X : Cx) (y : VolV) (n : Nat) (hS : VolS n y) (hn : n ≤ 1000) (pp pn pw : Option Addr) (cp nn9 cn9 cw : Nat) (L : List (Nat × Nat)) (pl : Option Addr) (cl : Nat) (a9 b9 : Int) (w0 : World) (hL0 : L = []) (m0 : MemOk X w0 [(3, .dat (.slice pw (y.ws.map wrD).length cw) (.l 2 (y.ws.map wrD))), (4, .dat (.slice pl L.length cl) (.l 7 (L.map (ckD y))))] w0) :
   Calls Tryz.prog 38 #[.agg #[.int .i64 y.vo, .int .i64 y.bl, .int .i64 y.sz, .int .i64 y.pe, .slice pp y.place.length cp, .int .i64 y.to, .int .i64 y.ne, .bool y.hi, .int .i64 y.fl, .slice pn nn9 cn9, .slice pw (y.ws.map wrD).length cw], .slice pl L.length cl, .int .i64 a9, .int .i64 b9] w0 fun e w' => e = .returned (.tuple #[.slice none 0 0, .bool false]) ∧ MemOk X w0 [(3, .dat (.slice pw (y.ws.map wrD).length cw) (.l 2 (y.ws.map wrD))), (4, .dat (.slice pl L.length cl) (.l 7 (L.map (ckD y))))] w' := by
 refine ent4 Tryz.func38 rfl Tryz.ntmps38 fun Az Hz => ?_
 have hpp := place_pos hS
 refine zsr fun K0 hK0 => ?_
 refine plz (e_box Hz m0 40 (cs := [_, _, _, _, _, _, _, _, _, _, _]) rfl rfl rfl fun g1 Az w2 Hz m2 _ _ => ?_)
 refine gz hK0 Hz (.assign rfl <| .assign rfl <| .nil) fun Az Hz => ?_
 refine regS Hz (.assign rfl .nil) fun Az Hz => ?_
 refine wsk fun K1 hK1 => ?_
 refine regS Hz (.fa 4 rfl U33 <| .lb m2 40 U29 rfl rfl rfl <| .len rfl U29 <| .move rfl .nil) fun Az Hz => ?_
 refine wp_block ?_
 refine wp_loop_ghost (fun g a w => ∃ (i B4 : Nat), i = 0 ∧ g = 1 - i ∧ Has 37 [(1, .slice pl L.length cl), (2, .int .i64 a9), (3, .int .i64 b9), (4, .pointer (some ⟨B4, 0, none⟩)), (10, .slice none 0 0), (16, .int .i64 y.place.length), (17, .int .i64 i)] a ∧ MemOk X w0 [(3, .dat (.slice pw (y.ws.map wrD).length cw) (.l 2 (y.ws.map wrD))), (4, .dat (.slice pl L.length cl) (.l 7 (L.map (ckD y)))), (20, .box B4 33 [.int .i64 y.vo, .int .i64 y.bl, .int .i64 y.sz, .int .i64 y.pe, .slice pp y.place.length cp, .int .i64 y.to, .int .i64 y.ne, .bool y.hi, .int .i64 y.fl, .slice pn nn9 cn9, .slice pw (y.ws.map wrD).length cw])] w) (1) ?_ ?_
 · exact ⟨0, _, rfl, rfl, Hz.only [1, 2, 3, 4, 10, 16, 17], m2.ren [(3, 3), (4, 4), (20, 40)] (by decide)⟩
 clear Hz m2
 rintro g Az w10 ⟨i, B4, hi0, hg, Hz, m10⟩
 have hi : i < y.place.length := by omega
 refine regS Hz (.lss rfl rfl .nil) fun Az Hz => ?_
 refine wsk fun K2 hK2 => ?_
 refine bc Hz 18 ?_ ?_
 rotate_left
 · intro hb _; exact absurd hb (by simp; omega)
 clear Hz; intro _ Hz
 refine wct Hz ?_
 refine zss (hK2 _ _ ?_)
 refine wsk fun K3 hK3 => ?_
 refine wp_block ?_
 refine regS Hz (.move rfl <| .assign rfl .nil) fun Az Hz => ?_
 refine zsr fun K4 hK4 => ?_
 refine goCh Hz (.loadBR m10 (i := 20) rfl rfl U33 rfl fct1 (by simp) (by dsimp only [List.drop, List.take] <;> rfl) <| .move rfl <| .move rfl <| .move rfl <| .move rfl .nil) fun Az Hz => ?_
 refine plz (ecl Hz Tryz.func19 rfl (epick_no _ y n hS hn _ _ _ _ _ _ _ L _ _ i a9 b9 _ hL0 hi (m10.into [(3, 3), (4, 4)] (by decide) rfl)) ?_)
 rintro e w25 ⟨rfl, hm25⟩
 have mx25 := m10.back hm25 [(3, 3), (4, 4)] (by decide); clear hm25 m10
 have m25 := mx25.oz [3, 4, 20]
 refine ⟨_, rfl, ?_⟩; intro Az Hz
 refine goCh Hz (.move rfl <| .extract rfl rfl <| .extract rfl rfl .nil) fun Az Hz => ?_
 refine plz (e_alloc Hz m25 100 fct17 rfl fun g30 Az w31 Hz m31 _ _ => ?_)
 refine plz (stw Hz m31 100 fct12 fun w32 m32 _ => ?_)
 refine gz hK4 Hz (.assign rfl .nil) fun Az Hz => ?_
 refine wsk fun K5 hK5 => ?_
 replace Hz := Hz.oz [1, 2, 3, 4, 10, 16, 17, 12, 13]
 refine regS Hz (.move rfl <| .not rfl .nil) fun Az Hz => ?_
 refine wct Hz ?_
 refine regS Hz (.assign rfl <| .assign rfl .nil) fun Az Hz => ?_
 refine rt2 Hz ?_
 exact ⟨rfl, m32.ren [(3, 3), (4, 4)] (by decide)⟩
end Go.Proofs.YtamjnimaeecmoaaGreat.K
