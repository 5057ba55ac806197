/- ChunkAnyOrder's walk. -/
import Derived.Test.YteglmahnkfgelaaChu13
import Derived.Test.YteglmahnkfgelaaChuR
namespace Go.Proofs.Yteglmahnkfgelaa.K
open Go.ChangeShapes Go.WideShapes Go.ChangeAt Go.RowKit
set_option linter.unusedVariables false
set_option linter.unusedSimpArgs false
theorem mark_at {x : Int} {n : Nat} (hx : 0 ≤ x) : ∃ mk : Nat, x.tmod ((n : Int) + 1) = (mk : Int) ∧ mk ≤ n := by
 rw [Int.tmod_eq_emod_of_nonneg hx]
 have h1 := Int.emod_nonneg x (show (n : Int) + 1 ≠ 0 by omega)
 have h2 := Int.emod_lt_of_pos x (show (0 : Int) < (n : Int) + 1 by omega)
 exact ⟨(x % ((n : Int) + 1)).toNat, by omega, by omega⟩
set_option maxRecDepth 100000
set_option maxHeartbeats 4000000
theorem order_walk (l ord : List Int) (pl po : Option Addr) (cl co : Nat) (n : Nat) (w0 : World) (hn : n ≤ 255) (h1 : Rd (fun _ => True) w0 (.slice pl l.length cl) (.ns .u8 l)) (hlb : ∀ j, j < l.length → 0 ≤ l.getD j 0 ∧ l.getD j 0 ≤ 255) (h2 : Rd (fun _ => True) w0 (.slice po ord.length co) (.ns .u8 ord)) (hob : ∀ j, j < ord.length → 0 ≤ ord.getD j 0 ∧ ord.getD j 0 ≤ 255) :
   Calls Try.prog 3 #[.slice pl l.length cl, .int .u8 (n : Int), .slice po ord.length co] w0 fun e w' => e = .returned (.bool true) ∧ Below w0.heap.size w0 w' := by
 refine ent3 Try.func3 rfl Try.ntmps3 fun Az Hz => ?_
 have m0 := MemOk.start (fun _ => False) w0
 refine regS Hz (.assign rfl .nil) fun Az Hz => ?_
 refine wsk fun K0 hK0 => ?_
 refine zsr fun K1 hK1 => ?_
 refine plz (ecb Hz Try.func5 rfl m0 (cknown_x _) fun Az w2 Hz m3 => ?_)
 refine gz hK1 Hz (.not rfl .nil) fun Az Hz => ?_
 refine wcf Hz ?_
 refine zss (hK0 _ _ ?_)
 refine wsk fun K2 hK2 => ?_
 refine zsr fun K3 hK3 => ?_
 refine goCh Hz (.move rfl <| .len rfl U22 <| .gtr rfl rfl <| .move rfl .nil) fun Az Hz => ?_
 refine bc Hz 28 ?_ ?_
 ·
  intro hb14 Hz; try simp only [QQ, Qax] at hb14
  refine gz hK3 Hz (.sk <| .sk <| .sk <| .pickT rfl rfl <| .nil) fun Az Hz => ?_
  refine wct Hz ?_
  replace Hz := Hz.oz [0, 1, 2, 6]
  refine regS Hz (.assign rfl .nil) fun Az Hz => ?_
  refine rt1 Hz ?_
  exact ⟨by (first | rfl | simp), m3.below⟩
 intro hb14 Hz; try simp only [QQ, Qax] at hb14
 have hl80 : l.length ≤ 80 := by have := hb14; first | omega | (simp at this; omega)
 refine gz hK3 Hz (.moveZ rfl <| .lenZ rfl U22 <| .gtrZ rfl rfl <| .pickF rfl rfl <| .nil) fun Az Hz => ?_
 refine bc Hz 32 ?_ ?_
 ·
  intro hb25 Hz; try simp only [QQ, Qax] at hb25
  refine wct Hz ?_
  replace Hz := Hz.oz [0, 1, 2, 6]
  refine regS Hz (.assign rfl .nil) fun Az Hz => ?_
  refine rt1 Hz ?_
  exact ⟨by (first | rfl | simp), m3.below⟩
 intro hb25 Hz; try simp only [QQ, Qax] at hb25
 have ho30 : ord.length ≤ 30 := by have := hb25; first | omega | (simp at this; omega)
 refine wcf Hz ?_
 refine zss (hK2 _ _ ?_)
 replace Hz := Hz.oz [0, 1, 2, 6]
 refine zsr fun K4 hK4 => ?_
 refine goCh Hz (.move rfl .nil) fun Az Hz => ?_
 refine plz (ecl Hz Try.func6 rfl (svol_any l _ _ _ ((h1.now' m3 rfl).any) (by omega) hlb) ?_)
 rintro e w31 ⟨y, p131, p231, p331, d131, d231, d331, rfl, hS, hd31, he31, hf31, hb31⟩
 have m32 := m3.callF3 60 61 62 rfl rfl rfl hb31 hd31 he31 hf31
 clear hb31 hd31 he31 hf31
 have hF : VolF y := hS.f (by omega)
 have hwo : WrsOk y.ws := hS.1.its.1
 have hn80 : y.ws.length ≤ 80 := by have := hS.2.2.2.1; omega
 have hf0 := hF.fl0
 have hf1 := hF.fl1
 have hwl := hF.wl
 have hvb := hF.bl
 have hvp := hF.pe
 have hpl : 0 < y.place.length := place_pos hS
 have hpl2 : y.place.length ≤ 1000 := place_top hS
 obtain ⟨k, hk⟩ : ∃ k : Nat, n % y.place.length = k := ⟨_, rfl⟩
 have hkp : k < y.place.length := by rw [← hk]; exact Nat.mod_lt _ hpl
 obtain ⟨fn, cnt, hC⟩ := ck_ok hS hkp
 have hc1 := hC.pos
 have hc2 := hC.c256
 have hc3 := hC.fnb
 have hc4 := hC.top
 have hc5 := hC.k255
 have hc6 := hC.fe
 refine ⟨_, rfl, ?_⟩; intro Az Hz
 refine plz (e_alloc Hz m32 63 fct20 rfl fun g34 Az w35 Hz m35 _ _ => ?_)
 refine plz (stw Hz m35 63 fct17 fun w36 m36 _ => ?_)
 refine znl (hK4 _ _ ?_)
 refine regS Hz (.move rfl <| .conv rfl U5 U3 (r := (n : Int)) (IntWalk.i64_in _ (by omega)) <| .fa 4 rfl U28 <| .lb m36 63 U24 rfl rfl rfl <| .len rfl U24 <| .rem rfl rfl (by omega) (r := (k : Int)) (by rw [tmodNN, hk]) <| .assign rfl .nil) fun Az Hz => ?_
 replace Hz := Hz.oz [2, 6, 7, 8]
 refine zsr fun K5 hK5 => ?_
 refine goCh Hz (.loadBR m36 (i := 63) rfl rfl U28 rfl fct17 (by simp) (by dsimp only [List.drop, List.take] <;> rfl) <| .move rfl .nil) fun Az Hz => ?_
 refine plz (ecl Hz Try.func7 rfl (gpush_x _ y k fn cnt 0 hC hF hwo _ _ _ _ _ _ _ _ _ rfl (Nat.zero_le _) (m36.into [(3, 62)] (by decide) rfl)) ?_)
 rintro e w49 ⟨p49, c49, rfl, hm49⟩
 have mx49 := m36.back hm49 [(62, 3), (64, 9)] (by decide); clear hm49 m36
 have m49 := mx49.oz [62, 64, 60, 61, 63]
 refine ⟨_, rfl, ?_⟩; intro Az Hz
 refine goCh Hz (.move rfl <| .extract rfl rfl <| .extract rfl rfl .nil) fun Az Hz => ?_
 refine plz (e_alloc Hz m49 65 fct5 rfl fun g54 Az w55 Hz m55 _ _ => ?_)
 refine plz (stw Hz m55 65 fct3 fun w56 m56 _ => ?_)
 refine gz hK5 Hz (.assign rfl .nil) fun Az Hz => ?_
 replace Hz := Hz.oz [2, 6, 7, 8, 9]
 refine zsr fun K6 hK6 => ?_
 refine goCh Hz (.loadBR m56 (i := 65) rfl rfl U31 rfl fct3 (by simp) (by dsimp only [List.drop, List.take] <;> rfl) .nil) fun Az Hz => ?_
 refine plz (ecl Hz Try.func8 rfl (gnew_f _ y k fn cnt hC hF _ _ _ _ _ _ _ (m56.into [] (by decide) rfl)) ?_)
 rintro e w61 ⟨p61, c61, rfl, hm61⟩
 have mx61 := m56.back hm61 [(66, 9)] (by decide); clear hm61 m56
 have m61 := mx61.oz [66, 60, 61, 62, 63, 64, 65]
 refine ⟨_, rfl, ?_⟩; intro Az Hz
 refine plz (e_alloc Hz m61 67 fct6 rfl fun g63 Az w64 Hz m64 _ _ => ?_)
 refine plz (stw Hz m64 67 fct4 fun w65 m65 _ => ?_)
 refine znl (hK6 _ _ ?_)
 refine wsk fun K7 hK7 => ?_
 refine regS Hz (.assign rfl .nil) fun Az Hz => ?_
 refine wp_block ?_
 have m67 := m65.freezeR 66 rfl
 refine wp_loop_ghost (fun g a w => ∃ (i m : Nat) (f : Int) (B5 B9 : Nat) (p1 p2 p3 : Option Addr) (d1 d2 d3 : Nat) (pc : Option Addr) (cc : Nat), i ≤ ord.length ∧ (m ≤ y.ws.length ∧ (0 ≤ f ∧ f ≤ m)) ∧ g = ord.length - i ∧ Has 145 [(2, .slice po ord.length co), (7, .pointer (some ⟨B5, 0, none⟩)), (8, .int .i64 (k : Int)), (11, .pointer (some ⟨B9, 0, none⟩)), (12, .int .i64 (i : Int))] a ∧ MemOk (cn w0) w0 [(20, .box B5 28 [.int .i64 y.vo, .int .i64 y.bl, .int .i64 y.sz, .int .i64 y.pe, .slice p1 y.place.length d1, .int .i64 y.to, .int .i64 y.ne, .bool y.hi, .int .i64 y.fl, .slice p2 y.pins.length d2, .slice p3 (y.ws.map wrD).length d3]), (21, .dat (.slice p1 y.place.length d1) (.ns .i64 y.place)), (22, .dat (.slice p2 y.pins.length d2) (.ns .i64 y.pins)), (23, .dat (.slice p3 (y.ws.map wrD).length d3) (.l 2 (y.ws.map wrD))), (25, .box B9 36 [.int .i64 y.vo, .int .i64 (k : Int), .int .i64 (cnt : Int), .int .i64 y.sz, .int .i64 (m : Nat), .int .i64 f, .slice pc cnt cc]), (26, .dat (.slice pc cnt cc) (.l 1 ((chuH y.ws (fn : Int) cnt m f).map hD)))] w) (ord.length) ?_ ?_
 · exact ⟨0, 0, 0, _, _, _, _, _, _, _, _, _, _, Nat.zero_le _, ⟨Nat.zero_le _, by omega, by omega⟩, rfl, Hz.only [2, 7, 8, 11, 12], m67.ren [(20, 63), (21, 60), (22, 61), (23, 62), (25, 67), (26, 66)] (by decide)⟩
 clear Hz m67
 rintro g Az w68 ⟨i, m, f, B5, B9, p1, p2, p3, d1, d2, d3, pc, cc, hil, ⟨hmn, hfm⟩, hg, Hz, m68⟩
 refine wsk fun K8 hK8 => ?_
 refine regS Hz (.move rfl <| .move rfl <| .len rfl U22 <| .lss rfl rfl .nil) fun Az Hz => ?_
 refine bc Hz 52 ?_ ?_
 ·
  intro hb73 Hz; try simp only [QQ, Qax] at hb73
  have hi : i < ord.length := by have := hb73; first | omega | (simp at this; omega)
  obtain ⟨mk, hmke, hmkn⟩ := mark_at (n := y.ws.length) (hob i hi).1
  refine wct Hz ?_
  refine zss (hK8 _ _ ?_)
  refine wsk fun K9 hK9 => ?_
  refine wp_block ?_
  refine wsk fun K10 hK10 => ?_
  obtain ⟨gx75, ox75, hp75, hl75, hrg75⟩ := h2.extN (i) hi
  revert Hz
  cases hp75
  intro Hz
  have m76 := m68.oz [20, 21, 22, 23, 25, 26]
  refine region_p 16 (B := [(20, _), (21, _), (22, _), (23, _), (25, _), (26, _)]) (m76.to ⟨il, il, il, il, il, il, trivial⟩) m76 (by kernel_rfl) (fun w77 hP77 m77 => ?_); clear m76
  refine goR hP77 [0, 1, 2, 3, 4, 5, 6, 7] [0, 5, 7] 8 0 255 Hz (m77.to ⟨il, il, il, il, il, il, trivial⟩) (.loadBR hh (i := 20) rfl rfl U28 rfl fct17 (by simp) (by dsimp only [List.drop, List.take] <;> rfl) <| .move rfl <| .move rfl <| .move rfl <| .p (fun _ _ h_ => y_idx h_ rfl rfl U22 fct15 (i) rfl hi) <| .loadAt1 (fun _ h_ => (hrg75 h_ rfl)) (q := 0) rfl rfl rfl U5 rfl <| .conv rfl U5 U2 (IntWalk.i64_in _ (by have := hob i hi; omega)) <| .loadBR hh (i := 20) rfl rfl U28 rfl fct17 (by simp) (by dsimp only [List.drop, List.take] <;> rfl) .nil) fun Az Hz => ?_
  refine dtw 8 15 ?_ ?_
  ·
   refine ecb Hz Try.func9 rfl m77 (rlen_y y _ _ _ _ _ _ _ _ _) fun Az w86 Hz m87 => ?_
   refine ⟨fun _ => (m87.to ⟨il, il, il, il, il, il, trivial⟩), ?_⟩
   refine goA hP77 [9, 10] 2 511 2047 Hz (m87.to ⟨il, il, il, il, il, il, trivial⟩) (.add rfl rfl (r := (y.ws.length : Int) + 1) (IntWalk.i64_in _ (by omega)) <| .rem rfl rfl (by omega) (r := (mk : Int)) hmke .nil) fun Az Hz => ?_
   refine dtw 11 15 ?_ ?_
   ·
    refine ecl Hz Try.func7 rfl (gpush_x _ y k fn cnt mk hC hF hwo _ _ _ _ _ _ _ _ _ rfl hmkn (m87.into [(3, 23)] (by decide) rfl)) ?_
    rintro e w91 ⟨p91, c91, rfl, hm91⟩
    have mx91 := m87.back hm91 [(23, 3), (100, 9)] (by decide); clear hm91 m87
    have m91 := mx91.oz [23, 100, 20, 21, 22, 25, 26]
    refine ⟨_, rfl, ?_⟩; intro Az Hz
    refine ⟨fun _ => (m91.to ⟨il, il, il, il, il, il, trivial⟩), ?_⟩
    refine goA hP77 [12, 13, 14] 3 4095 32767 Hz (m91.to ⟨il, il, il, il, il, il, trivial⟩) (.move rfl <| .extract rfl rfl <| .extract rfl rfl .nil) fun Az Hz => ?_
    refine so 15 ?_
    refine e_alloc Hz m91 101 fct5 rfl fun g96 Az w97 Hz m97 _ _ => ?_
    refine ⟨m97.to ⟨il, il, il, il, il, il, trivial⟩, ?_⟩
    refine se 16 ?_
    refine stw Hz m97 101 fct3 fun w98 m98 _ => ?_
    refine goB hP77 [17] 1 131071 262143 Hz (.assign rfl .nil) fun Az Hz => ?_
    refine wpAnyE_done (by kernel_rfl) ?_ _
    refine hK10 _ _ ?_
    replace Hz := Hz.oz [7, 8, 11, 2, 12, 13]
    refine regS Hz (.fa 4 rfl U36 <| .lb m98 25 U2 rfl rfl rfl <| .assign rfl .nil) fun Az Hz => ?_
    refine zsr fun K11 hK11 => ?_
    refine goCh Hz (.loadBR m98 (i := 25) rfl rfl U36 rfl fct4 (by simp) (by dsimp only [List.drop, List.take] <;> rfl) <| .loadBR m98 (i := 101) rfl rfl U31 rfl fct3 (by simp) (by dsimp only [List.drop, List.take] <;> rfl) .nil) fun Az Hz => ?_
    refine plz (ecl Hz Try.func10 rfl (gap_x _ y k fn cnt m f hC hF hmn hfm mk hmkn _ _ _ _ _ _ _ _ rfl rfl rfl (m98.into [(1, 26), (2, 100)] (by decide) rfl)) ?_)
    rintro e w108 ⟨m2, f2, p108, c108, ⟨hq1, hq2, hq3, hq4, hq5⟩, rfl, hm108⟩
    have mx108 := m98.back hm108 [(26, 1), (100, 2), (102, 9)] (by decide); clear hm108 m98
    have m108 := mx108.oz [26, 100, 102, 20, 21, 22, 23, 25, 101]
    refine ⟨_, rfl, ?_⟩; intro Az Hz
    refine plz (stw Hz m108 25 fct4 fun w110 m110 _ => ?_)
    refine znl (hK11 _ _ ?_)
    refine zsr fun K12 hK12 => ?_
    refine goCh Hz (.fa 4 rfl U36 <| .lb m110 25 U2 rfl rfl rfl <| .move rfl <| .lss rfl rfl <| .move rfl .nil) fun Az Hz => ?_
    refine bc Hz 79 ?_ ?_
    · intro hb _; exact absurd hb (by first | (simp; done) | (simp; omega))
    clear Hz; intro _ Hz
    refine goCh Hz (.faZ 4 rfl U31 <| .loadB1Z m110 (i := 101) rfl rfl rfl U2 rfl <| .moveZ rfl <| .leqZ rfl rfl <| .moveZ rfl .nil) fun Az Hz => ?_
    refine bc Hz 84 ?_ ?_
    ·
     intro hb127 Hz; try simp only [QQ, Qax] at hb127
     have hle9 : (mk : Int) ≤ m := by have := hb127; first | omega | (simp at this; omega)
     have hq6 := hq5 (by omega)
     refine goCh Hz (.faZ 4 rfl U36 <| .loadB1Z m110 (i := 25) rfl rfl rfl U2 rfl <| .faZ 5 rfl U31 <| .loadB1Z m110 (i := 101) rfl rfl rfl U2 rfl <| .lssZ rfl rfl <| .pickTZ rfl rfl <| .pickF rfl rfl <| .move rfl .nil) fun Az Hz => ?_
     refine bc Hz 92 ?_ ?_
     · intro hb _; exact absurd hb (by first | (simp; done) | (simp; omega))
     clear Hz; intro _ Hz
     refine goCh Hz (.loadBRZ m110 (i := 25) rfl rfl U36 rfl fct4 (by simp) (by dsimp only [List.drop, List.take] <;> rfl) .nil) fun Az Hz => ?_
     have m138 := m110.freezeR 102 rfl
     refine stz Hz (ecl Hz Try.func11 rfl (gright_f _ y k fn cnt m2 f2 hC hF hq2 ⟨hq3, hq4⟩ _ _ _ (m138.into [(1, 102)] (by decide) rfl)) ?_)
     rintro e w139 ⟨rfl, hm139⟩
     have mx139 := m138.back hm139 [(102, 1)] (by decide); clear hm139 m138
     have m139 := mx139.oz [102, 20, 21, 22, 23, 25, 26, 100, 101]
     refine ⟨_, rfl, ?_⟩; intro Az Hz
     refine gz hK12 Hz (.notZ rfl <| .pickF rfl rfl <| .nil) fun Az Hz => ?_
     refine wcf Hz ?_
     refine zss (hK9 _ _ ?_)
     replace Hz := Hz.oz [7, 8, 11, 2, 12]
     refine wp_region_lit ?_
     refine goCh Hz (.move rfl <| .inc (i + 1) <| .assign rfl .nil) fun Az Hz => ?_
     refine wpList_nil ?_
     show ∃ n', n' < _ ∧ _
     exact ⟨ord.length - (i + 1), by omega, i + 1, m2, f2, _, _, _, _, _, _, _, _, _, _, by omega, ⟨hq2, hq3, hq4⟩, rfl, Hz.only [2, 7, 8, 11, 12], m139.ren [(20, 20), (21, 21), (22, 22), (23, 23), (25, 25), (26, 102)] (by decide)⟩
    intro hb127 Hz; try simp only [QQ, Qax] at hb127
    refine goCh Hz (.sk <| .sk <| .sk <| .sk <| .sk <| .pickFZ rfl rfl <| .pickF rfl rfl <| .move rfl <| .loadBRZ m110 (i := 25) rfl rfl U36 rfl fct4 (by simp) (by dsimp only [List.drop, List.take] <;> rfl) .nil) fun Az Hz => ?_
    have m156 := m110.freezeR 102 rfl
    refine stz Hz (ecl Hz Try.func11 rfl (gright_f _ y k fn cnt m2 f2 hC hF hq2 ⟨hq3, hq4⟩ _ _ _ (m156.into [(1, 102)] (by decide) rfl)) ?_)
    rintro e w157 ⟨rfl, hm157⟩
    have mx157 := m156.back hm157 [(102, 1)] (by decide); clear hm157 m156
    have m157 := mx157.oz [102, 20, 21, 22, 23, 25, 26, 100, 101]
    refine ⟨_, rfl, ?_⟩; intro Az Hz
    refine gz hK12 Hz (.notZ rfl <| .pickF rfl rfl <| .nil) fun Az Hz => ?_
    refine wcf Hz ?_
    refine zss (hK9 _ _ ?_)
    replace Hz := Hz.oz [7, 8, 11, 2, 12]
    refine wp_region_lit ?_
    refine goCh Hz (.move rfl <| .inc (i + 1) <| .assign rfl .nil) fun Az Hz => ?_
    refine wpList_nil ?_
    show ∃ n', n' < _ ∧ _
    exact ⟨ord.length - (i + 1), by omega, i + 1, m2, f2, _, _, _, _, _, _, _, _, _, _, by omega, ⟨hq2, hq3, hq4⟩, rfl, Hz.only [2, 7, 8, 11, 12], m157.ren [(20, 20), (21, 21), (22, 22), (23, 23), (25, 25), (26, 102)] (by decide)⟩
   refine e_alloc Hz m87 100 fct5 rfl fun g165 Az w166 Hz m166 _ _ => ?_
   refine ⟨fun _ => (m166.to ⟨il, il, il, il, il, il, trivial⟩), ?_⟩
   refine so 11 ?_
   refine ecl Hz Try.func7 rfl (gpush_x _ y k fn cnt mk hC hF hwo _ _ _ _ _ _ _ _ _ rfl hmkn (m166.into [(3, 23)] (by decide) rfl)) ?_
   rintro e w167 ⟨p167, c167, rfl, hm167⟩
   have mx167 := m166.back hm167 [(23, 3), (101, 9)] (by decide); clear hm167 m166
   have m167 := mx167.oz [23, 101, 20, 21, 22, 25, 26, 100]
   refine ⟨_, rfl, ?_⟩; intro Az Hz
   refine ⟨m167.to ⟨il, il, il, il, il, il, trivial⟩, ?_⟩
   refine goA hP77 [12, 13, 14] 3 36863 65535 Hz (m167.to ⟨il, il, il, il, il, il, trivial⟩) (.move rfl <| .extract rfl rfl <| .extract rfl rfl .nil) fun Az Hz => ?_
   refine se 16 ?_
   refine stw Hz m167 100 fct3 fun w172 m172 _ => ?_
   refine goB hP77 [17] 1 131071 262143 Hz (.assign rfl .nil) fun Az Hz => ?_
   refine wpAnyE_done (by kernel_rfl) ?_ _
   refine hK10 _ _ ?_
   replace Hz := Hz.oz [7, 8, 11, 2, 12, 13]
   refine regS Hz (.fa 4 rfl U36 <| .lb m172 25 U2 rfl rfl rfl <| .assign rfl .nil) fun Az Hz => ?_
   refine zsr fun K13 hK13 => ?_
   refine goCh Hz (.loadBR m172 (i := 25) rfl rfl U36 rfl fct4 (by simp) (by dsimp only [List.drop, List.take] <;> rfl) <| .loadBR m172 (i := 100) rfl rfl U31 rfl fct3 (by simp) (by dsimp only [List.drop, List.take] <;> rfl) .nil) fun Az Hz => ?_
   refine plz (ecl Hz Try.func10 rfl (gap_x _ y k fn cnt m f hC hF hmn hfm mk hmkn _ _ _ _ _ _ _ _ rfl rfl rfl (m172.into [(1, 26), (2, 101)] (by decide) rfl)) ?_)
   rintro e w182 ⟨m2, f2, p182, c182, ⟨hq1, hq2, hq3, hq4, hq5⟩, rfl, hm182⟩
   have mx182 := m172.back hm182 [(26, 1), (101, 2), (102, 9)] (by decide); clear hm182 m172
   have m182 := mx182.oz [26, 101, 102, 20, 21, 22, 23, 25, 100]
   refine ⟨_, rfl, ?_⟩; intro Az Hz
   refine plz (stw Hz m182 25 fct4 fun w184 m184 _ => ?_)
   refine znl (hK13 _ _ ?_)
   refine zsr fun K14 hK14 => ?_
   refine goCh Hz (.fa 4 rfl U36 <| .lb m184 25 U2 rfl rfl rfl <| .move rfl <| .lss rfl rfl <| .move rfl .nil) fun Az Hz => ?_
   refine bc Hz 79 ?_ ?_
   · intro hb _; exact absurd hb (by first | (simp; done) | (simp; omega))
   clear Hz; intro _ Hz
   refine goCh Hz (.faZ 4 rfl U31 <| .loadB1Z m184 (i := 100) rfl rfl rfl U2 rfl <| .moveZ rfl <| .leqZ rfl rfl <| .moveZ rfl .nil) fun Az Hz => ?_
   refine bc Hz 84 ?_ ?_
   ·
    intro hb201 Hz; try simp only [QQ, Qax] at hb201
    have hle9 : (mk : Int) ≤ m := by have := hb201; first | omega | (simp at this; omega)
    have hq6 := hq5 (by omega)
    refine goCh Hz (.faZ 4 rfl U36 <| .loadB1Z m184 (i := 25) rfl rfl rfl U2 rfl <| .faZ 5 rfl U31 <| .loadB1Z m184 (i := 100) rfl rfl rfl U2 rfl <| .lssZ rfl rfl <| .pickTZ rfl rfl <| .pickF rfl rfl <| .move rfl .nil) fun Az Hz => ?_
    refine bc Hz 92 ?_ ?_
    · intro hb _; exact absurd hb (by first | (simp; done) | (simp; omega))
    clear Hz; intro _ Hz
    refine goCh Hz (.loadBRZ m184 (i := 25) rfl rfl U36 rfl fct4 (by simp) (by dsimp only [List.drop, List.take] <;> rfl) .nil) fun Az Hz => ?_
    have m212 := m184.freezeR 102 rfl
    refine stz Hz (ecl Hz Try.func11 rfl (gright_f _ y k fn cnt m2 f2 hC hF hq2 ⟨hq3, hq4⟩ _ _ _ (m212.into [(1, 102)] (by decide) rfl)) ?_)
    rintro e w213 ⟨rfl, hm213⟩
    have mx213 := m212.back hm213 [(102, 1)] (by decide); clear hm213 m212
    have m213 := mx213.oz [102, 20, 21, 22, 23, 25, 26, 100, 101]
    refine ⟨_, rfl, ?_⟩; intro Az Hz
    refine gz hK14 Hz (.notZ rfl <| .pickF rfl rfl <| .nil) fun Az Hz => ?_
    refine wcf Hz ?_
    refine zss (hK9 _ _ ?_)
    replace Hz := Hz.oz [7, 8, 11, 2, 12]
    refine wp_region_lit ?_
    refine goCh Hz (.move rfl <| .inc (i + 1) <| .assign rfl .nil) fun Az Hz => ?_
    refine wpList_nil ?_
    show ∃ n', n' < _ ∧ _
    exact ⟨ord.length - (i + 1), by omega, i + 1, m2, f2, _, _, _, _, _, _, _, _, _, _, by omega, ⟨hq2, hq3, hq4⟩, rfl, Hz.only [2, 7, 8, 11, 12], m213.ren [(20, 20), (21, 21), (22, 22), (23, 23), (25, 25), (26, 102)] (by decide)⟩
   intro hb201 Hz; try simp only [QQ, Qax] at hb201
   refine goCh Hz (.sk <| .sk <| .sk <| .sk <| .sk <| .pickFZ rfl rfl <| .pickF rfl rfl <| .move rfl <| .loadBRZ m184 (i := 25) rfl rfl U36 rfl fct4 (by simp) (by dsimp only [List.drop, List.take] <;> rfl) .nil) fun Az Hz => ?_
   have m230 := m184.freezeR 102 rfl
   refine stz Hz (ecl Hz Try.func11 rfl (gright_f _ y k fn cnt m2 f2 hC hF hq2 ⟨hq3, hq4⟩ _ _ _ (m230.into [(1, 102)] (by decide) rfl)) ?_)
   rintro e w231 ⟨rfl, hm231⟩
   have mx231 := m230.back hm231 [(102, 1)] (by decide); clear hm231 m230
   have m231 := mx231.oz [102, 20, 21, 22, 23, 25, 26, 100, 101]
   refine ⟨_, rfl, ?_⟩; intro Az Hz
   refine gz hK14 Hz (.notZ rfl <| .pickF rfl rfl <| .nil) fun Az Hz => ?_
   refine wcf Hz ?_
   refine zss (hK9 _ _ ?_)
   replace Hz := Hz.oz [7, 8, 11, 2, 12]
   refine wp_region_lit ?_
   refine goCh Hz (.move rfl <| .inc (i + 1) <| .assign rfl .nil) fun Az Hz => ?_
   refine wpList_nil ?_
   show ∃ n', n' < _ ∧ _
   exact ⟨ord.length - (i + 1), by omega, i + 1, m2, f2, _, _, _, _, _, _, _, _, _, _, by omega, ⟨hq2, hq3, hq4⟩, rfl, Hz.only [2, 7, 8, 11, 12], m231.ren [(20, 20), (21, 21), (22, 22), (23, 23), (25, 25), (26, 102)] (by decide)⟩
  refine e_alloc Hz m77 100 fct5 rfl fun g239 Az w240 Hz m240 _ _ => ?_
  refine ⟨fun _ => (m240.to ⟨il, il, il, il, il, il, trivial⟩), ?_⟩
  refine so 8 ?_
  refine ecb Hz Try.func9 rfl m240 (rlen_y y _ _ _ _ _ _ _ _ _) fun Az w241 Hz m242 => ?_
  refine ⟨m242.to ⟨il, il, il, il, il, il, trivial⟩, ?_⟩
  refine goA hP77 [9, 10] 2 33279 34815 Hz (m242.to ⟨il, il, il, il, il, il, trivial⟩) (.add rfl rfl (r := (y.ws.length : Int) + 1) (IntWalk.i64_in _ (by omega)) <| .rem rfl rfl (by omega) (r := (mk : Int)) hmke .nil) fun Az Hz => ?_
  refine so 11 ?_
  refine ecl Hz Try.func7 rfl (gpush_x _ y k fn cnt mk hC hF hwo _ _ _ _ _ _ _ _ _ rfl hmkn (m242.into [(3, 23)] (by decide) rfl)) ?_
  rintro e w246 ⟨p246, c246, rfl, hm246⟩
  have mx246 := m242.back hm246 [(23, 3), (101, 9)] (by decide); clear hm246 m242
  have m246 := mx246.oz [23, 101, 20, 21, 22, 25, 26, 100]
  refine ⟨_, rfl, ?_⟩; intro Az Hz
  refine ⟨m246.to ⟨il, il, il, il, il, il, trivial⟩, ?_⟩
  refine goA hP77 [12, 13, 14] 3 36863 65535 Hz (m246.to ⟨il, il, il, il, il, il, trivial⟩) (.move rfl <| .extract rfl rfl <| .extract rfl rfl .nil) fun Az Hz => ?_
  refine se 16 ?_
  refine stw Hz m246 100 fct3 fun w251 m251 _ => ?_
  refine goB hP77 [17] 1 131071 262143 Hz (.assign rfl .nil) fun Az Hz => ?_
  refine wpAnyE_done (by kernel_rfl) ?_ _
  refine hK10 _ _ ?_
  replace Hz := Hz.oz [7, 8, 11, 2, 12, 13]
  refine regS Hz (.fa 4 rfl U36 <| .lb m251 25 U2 rfl rfl rfl <| .assign rfl .nil) fun Az Hz => ?_
  refine zsr fun K15 hK15 => ?_
  refine goCh Hz (.loadBR m251 (i := 25) rfl rfl U36 rfl fct4 (by simp) (by dsimp only [List.drop, List.take] <;> rfl) <| .loadBR m251 (i := 100) rfl rfl U31 rfl fct3 (by simp) (by dsimp only [List.drop, List.take] <;> rfl) .nil) fun Az Hz => ?_
  refine plz (ecl Hz Try.func10 rfl (gap_x _ y k fn cnt m f hC hF hmn hfm mk hmkn _ _ _ _ _ _ _ _ rfl rfl rfl (m251.into [(1, 26), (2, 101)] (by decide) rfl)) ?_)
  rintro e w261 ⟨m2, f2, p261, c261, ⟨hq1, hq2, hq3, hq4, hq5⟩, rfl, hm261⟩
  have mx261 := m251.back hm261 [(26, 1), (101, 2), (102, 9)] (by decide); clear hm261 m251
  have m261 := mx261.oz [26, 101, 102, 20, 21, 22, 23, 25, 100]
  refine ⟨_, rfl, ?_⟩; intro Az Hz
  refine plz (stw Hz m261 25 fct4 fun w263 m263 _ => ?_)
  refine znl (hK15 _ _ ?_)
  refine zsr fun K16 hK16 => ?_
  refine goCh Hz (.fa 4 rfl U36 <| .lb m263 25 U2 rfl rfl rfl <| .move rfl <| .lss rfl rfl <| .move rfl .nil) fun Az Hz => ?_
  refine bc Hz 79 ?_ ?_
  · intro hb _; exact absurd hb (by first | (simp; done) | (simp; omega))
  clear Hz; intro _ Hz
  refine goCh Hz (.faZ 4 rfl U31 <| .loadB1Z m263 (i := 100) rfl rfl rfl U2 rfl <| .moveZ rfl <| .leqZ rfl rfl <| .moveZ rfl .nil) fun Az Hz => ?_
  refine bc Hz 84 ?_ ?_
  ·
   intro hb280 Hz; try simp only [QQ, Qax] at hb280
   have hle9 : (mk : Int) ≤ m := by have := hb280; first | omega | (simp at this; omega)
   have hq6 := hq5 (by omega)
   refine goCh Hz (.faZ 4 rfl U36 <| .loadB1Z m263 (i := 25) rfl rfl rfl U2 rfl <| .faZ 5 rfl U31 <| .loadB1Z m263 (i := 100) rfl rfl rfl U2 rfl <| .lssZ rfl rfl <| .pickTZ rfl rfl <| .pickF rfl rfl <| .move rfl .nil) fun Az Hz => ?_
   refine bc Hz 92 ?_ ?_
   · intro hb _; exact absurd hb (by first | (simp; done) | (simp; omega))
   clear Hz; intro _ Hz
   refine goCh Hz (.loadBRZ m263 (i := 25) rfl rfl U36 rfl fct4 (by simp) (by dsimp only [List.drop, List.take] <;> rfl) .nil) fun Az Hz => ?_
   have m291 := m263.freezeR 102 rfl
   refine stz Hz (ecl Hz Try.func11 rfl (gright_f _ y k fn cnt m2 f2 hC hF hq2 ⟨hq3, hq4⟩ _ _ _ (m291.into [(1, 102)] (by decide) rfl)) ?_)
   rintro e w292 ⟨rfl, hm292⟩
   have mx292 := m291.back hm292 [(102, 1)] (by decide); clear hm292 m291
   have m292 := mx292.oz [102, 20, 21, 22, 23, 25, 26, 100, 101]
   refine ⟨_, rfl, ?_⟩; intro Az Hz
   refine gz hK16 Hz (.notZ rfl <| .pickF rfl rfl <| .nil) fun Az Hz => ?_
   refine wcf Hz ?_
   refine zss (hK9 _ _ ?_)
   replace Hz := Hz.oz [7, 8, 11, 2, 12]
   refine wp_region_lit ?_
   refine goCh Hz (.move rfl <| .inc (i + 1) <| .assign rfl .nil) fun Az Hz => ?_
   refine wpList_nil ?_
   show ∃ n', n' < _ ∧ _
   exact ⟨ord.length - (i + 1), by omega, i + 1, m2, f2, _, _, _, _, _, _, _, _, _, _, by omega, ⟨hq2, hq3, hq4⟩, rfl, Hz.only [2, 7, 8, 11, 12], m292.ren [(20, 20), (21, 21), (22, 22), (23, 23), (25, 25), (26, 102)] (by decide)⟩
  intro hb280 Hz; try simp only [QQ, Qax] at hb280
  refine goCh Hz (.sk <| .sk <| .sk <| .sk <| .sk <| .pickFZ rfl rfl <| .pickF rfl rfl <| .move rfl <| .loadBRZ m263 (i := 25) rfl rfl U36 rfl fct4 (by simp) (by dsimp only [List.drop, List.take] <;> rfl) .nil) fun Az Hz => ?_
  have m309 := m263.freezeR 102 rfl
  refine stz Hz (ecl Hz Try.func11 rfl (gright_f _ y k fn cnt m2 f2 hC hF hq2 ⟨hq3, hq4⟩ _ _ _ (m309.into [(1, 102)] (by decide) rfl)) ?_)
  rintro e w310 ⟨rfl, hm310⟩
  have mx310 := m309.back hm310 [(102, 1)] (by decide); clear hm310 m309
  have m310 := mx310.oz [102, 20, 21, 22, 23, 25, 26, 100, 101]
  refine ⟨_, rfl, ?_⟩; intro Az Hz
  refine gz hK16 Hz (.notZ rfl <| .pickF rfl rfl <| .nil) fun Az Hz => ?_
  refine wcf Hz ?_
  refine zss (hK9 _ _ ?_)
  replace Hz := Hz.oz [7, 8, 11, 2, 12]
  refine wp_region_lit ?_
  refine goCh Hz (.move rfl <| .inc (i + 1) <| .assign rfl .nil) fun Az Hz => ?_
  refine wpList_nil ?_
  show ∃ n', n' < _ ∧ _
  exact ⟨ord.length - (i + 1), by omega, i + 1, m2, f2, _, _, _, _, _, _, _, _, _, _, by omega, ⟨hq2, hq3, hq4⟩, rfl, Hz.only [2, 7, 8, 11, 12], m310.ren [(20, 20), (21, 21), (22, 22), (23, 23), (25, 25), (26, 102)] (by decide)⟩
 intro hb73 Hz; try simp only [QQ, Qax] at hb73
 refine wcf Hz ?_
 refine wp_exit ?_
 refine hK7 _ _ ?_
 refine zsr fun K17 hK17 => ?_
 refine goCh Hz (.loadBR m68 (i := 20) rfl rfl U28 rfl fct17 (by simp) (by dsimp only [List.drop, List.take] <;> rfl) .nil) fun Az Hz => ?_
 refine plz (e_alloc Hz m68 100 fct20 rfl fun g320 Az w321 Hz m321 _ _ => ?_)
 refine plz (stw Hz m321 100 fct17 fun w322 m322 _ => ?_)
 refine znl (hK17 _ _ ?_)
 refine zsr fun K18 hK18 => ?_
 refine goCh Hz (.fieldAddr (off := 8) rfl U28 rfl (s := 0) (by kernel_rfl) rfl .nil) fun Az Hz => ?_
 refine plz (st1 Hz m322 100 fct9 fun w325 m325 _ => ?_)
 refine znl (hK18 _ _ ?_)
 refine wsk fun K19 hK19 => ?_
 replace Hz := Hz.oz [7, 8, 11, 2, 12, 16]
 refine regS Hz (.fa 5 rfl U36 <| .lb m325 25 U2 rfl rfl rfl <| .assign rfl .nil) fun Az Hz => ?_
 refine wp_block ?_
 refine wp_loop_ghost (fun g a w => ∃ (t : Int) (B5 B9 B6 : Nat) (p1 p2 p3 : Option Addr) (d1 d2 d3 : Nat) (pc : Option Addr) (cc : Nat), f ≤ t ∧ t ≤ (m : Int) + 1 ∧ g = ((m : Int) + 1 - t).toNat ∧ Has 145 [(7, .pointer (some ⟨B5, 0, none⟩)), (8, .int .i64 (k : Int)), (11, .pointer (some ⟨B9, 0, none⟩)), (16, .pointer (some ⟨B6, 0, none⟩)), (17, .int .i64 t)] a ∧ MemOk (cn w0) w0 [(20, .box B5 28 [.int .i64 y.vo, .int .i64 y.bl, .int .i64 y.sz, .int .i64 y.pe, .slice p1 y.place.length d1, .int .i64 y.to, .int .i64 y.ne, .bool y.hi, .int .i64 y.fl, .slice p2 y.pins.length d2, .slice p3 (y.ws.map wrD).length d3]), (21, .dat (.slice p1 y.place.length d1) (.ns .i64 y.place)), (22, .dat (.slice p2 y.pins.length d2) (.ns .i64 y.pins)), (23, .dat (.slice p3 (y.ws.map wrD).length d3) (.l 2 (y.ws.map wrD))), (25, .box B9 36 [.int .i64 y.vo, .int .i64 (k : Int), .int .i64 (cnt : Int), .int .i64 y.sz, .int .i64 (m : Nat), .int .i64 f, .slice pc cnt cc]), (26, .dat (.slice pc cnt cc) (.l 1 ((chuH y.ws (fn : Int) cnt m f).map hD))), (29, .box B6 28 [.int .i64 y.vo, .int .i64 y.bl, .int .i64 y.sz, .int .i64 y.pe, .slice p1 y.place.length d1, .int .i64 y.to, .int .i64 y.ne, .bool y.hi, .int .i64 0, .slice p2 y.pins.length d2, .slice p3 (y.ws.map wrD).length d3])] w) (((m : Int) + 1 - f).toNat) ?_ ?_
 · exact ⟨f, _, _, _, _, _, _, _, _, _, _, _, Int.le_refl _, by omega, rfl, Hz.only [7, 8, 11, 16, 17], m325.ren [(20, 20), (21, 21), (22, 22), (23, 23), (25, 25), (26, 26), (29, 100)] (by decide)⟩
 clear Hz m325
 rintro g Az w330 ⟨t, B5, B9, B6, p1, p2, p3, d1, d2, d3, pc, cc, ht0, ht1, hg, Hz, m330⟩
 refine wsk fun K20 hK20 => ?_
 refine regS Hz (.move rfl <| .fa 4 rfl U36 <| .lb m330 25 U2 rfl rfl rfl <| .leq rfl rfl .nil) fun Az Hz => ?_
 refine bc Hz 104 ?_ ?_
 ·
  intro hb335 Hz; try simp only [QQ, Qax] at hb335
  have htw : t ≤ (m : Int) := by have := hb335; first | omega | (simp at this; omega)
  obtain ⟨tn, htn⟩ : ∃ tn : Nat, t = (tn : Int) := ⟨t.toNat, by omega⟩
  refine wct Hz ?_
  refine zss (hK20 _ _ ?_)
  refine wsk fun K21 hK21 => ?_
  refine wp_block ?_
  refine zsr fun K22 hK22 => ?_
  refine goCh Hz (.loadBR m330 (i := 29) rfl rfl U28 rfl fct17 (by simp) (by dsimp only [List.drop, List.take] <;> rfl) <| .move rfl .nil) fun Az Hz => ?_
  refine plz (ecl Hz Try.func12 rfl (rstate_f _ y hF hwo _ _ _ _ _ _ _ _ 0 _ tn htn _ (fun b hb => (List.not_mem_nil (a := b)) hb) (by omega) (by omega) (m330.into [(3, 23)] (by decide) rfl)) ?_)
  rintro e w340 ⟨p340, c340, rfl, hm340⟩
  have mx340 := m330.back hm340 [(23, 3), (200, 9)] (by decide); clear hm340 m330
  have m340 := mx340.oz [23, 200, 20, 21, 22, 25, 26, 29]
  refine ⟨_, rfl, ?_⟩; intro Az Hz
  obtain ⟨S, hS9⟩ : ∃ S, stL y.bl y.sz y.ws tn = S := ⟨_, rfl⟩
  have hSl : S.length = y.bl.toNat := by rw [← hS9, stL_len]
  rw [hS9] at m340 Hz
  refine gz hK22 Hz (.move rfl <| .extract rfl rfl <| .extract rfl rfl <| .assign rfl <| .assign rfl <| .nil) fun Az Hz => ?_
  refine wsk fun K23 hK23 => ?_
  replace Hz := Hz.oz [7, 8, 11, 16, 17, 18, 19]
  refine regS Hz (.move rfl <| .neq rfl rfl .nil) fun Az Hz => ?_
  refine bc Hz 114 ?_ ?_
  · intro hb _; exact absurd hb (by first | (simp; done) | (simp; omega))
  clear Hz; intro _ Hz
  refine wcf Hz ?_
  refine zss (hK23 _ _ ?_)
  refine regS Hz (.assign rfl .nil) fun Az Hz => ?_
  refine wp_block ?_
  refine wp_loop_ghost (fun g a w => ∃ (b B5 B9 B6 : Nat) (p1 p2 p3 : Option Addr) (d1 d2 d3 : Nat) (pc : Option Addr) (cc : Nat) (ps : Option Addr) (cs : Nat), b ≤ cnt ∧ g = cnt - b ∧ Has 145 [(7, .pointer (some ⟨B5, 0, none⟩)), (8, .int .i64 (k : Int)), (11, .pointer (some ⟨B9, 0, none⟩)), (16, .pointer (some ⟨B6, 0, none⟩)), (17, .int .i64 t), (18, .slice ps (S.map bD).length cs), (20, .int .i64 (b : Int))] a ∧ MemOk (cn w0) w0 [(20, .box B5 28 [.int .i64 y.vo, .int .i64 y.bl, .int .i64 y.sz, .int .i64 y.pe, .slice p1 y.place.length d1, .int .i64 y.to, .int .i64 y.ne, .bool y.hi, .int .i64 y.fl, .slice p2 y.pins.length d2, .slice p3 (y.ws.map wrD).length d3]), (21, .dat (.slice p1 y.place.length d1) (.ns .i64 y.place)), (22, .dat (.slice p2 y.pins.length d2) (.ns .i64 y.pins)), (23, .dat (.slice p3 (y.ws.map wrD).length d3) (.l 2 (y.ws.map wrD))), (25, .box B9 36 [.int .i64 y.vo, .int .i64 (k : Int), .int .i64 (cnt : Int), .int .i64 y.sz, .int .i64 (m : Nat), .int .i64 f, .slice pc cnt cc]), (26, .dat (.slice pc cnt cc) (.l 1 ((chuH y.ws (fn : Int) cnt m f).map hD))), (29, .box B6 28 [.int .i64 y.vo, .int .i64 y.bl, .int .i64 y.sz, .int .i64 y.pe, .slice p1 y.place.length d1, .int .i64 y.to, .int .i64 y.ne, .bool y.hi, .int .i64 0, .slice p2 y.pins.length d2, .slice p3 (y.ws.map wrD).length d3]), (28, .dat (.slice ps (S.map bD).length cs) (.l 1 (S.map bD)))] w) (cnt) ?_ ?_
  · exact ⟨0, _, _, _, _, _, _, _, _, _, _, _, _, _, Nat.zero_le _, rfl, Hz.only [7, 8, 11, 16, 17, 18, 20], m340.ren [(20, 20), (21, 21), (22, 22), (23, 23), (25, 25), (26, 26), (29, 29), (28, 200)] (by decide)⟩
  clear Hz m340
  rintro g Az w352 ⟨b, B5, B9, B6, p1, p2, p3, d1, d2, d3, pc, cc, ps, cs, hbl, hg2, Hz, m352⟩
  refine wsk fun K24 hK24 => ?_
  refine regS Hz (.move rfl <| .fa 2 rfl U36 <| .lb m352 25 U3 rfl rfl rfl <| .lss rfl rfl .nil) fun Az Hz => ?_
  refine bc Hz 118 ?_ ?_
  ·
   intro hb357 Hz; try simp only [QQ, Qax] at hb357
   have hbc : b < cnt := by have := hb357; first | omega | (simp at this; omega)
   refine wct Hz ?_
   refine zss (hK24 _ _ ?_)
   refine wsk fun K25 hK25 => ?_
   refine wp_block ?_
   refine zsr fun K26 hK26 => ?_
   refine goCh Hz (.loadBR m352 (i := 25) rfl rfl U36 rfl fct4 (by simp) (by dsimp only [List.drop, List.take] <;> rfl) <| .move rfl <| .move rfl .nil) fun Az Hz => ?_
   refine plz (ecl Hz Try.func13 rfl (gread_f _ y k fn cnt m f hC hF hmn hfm b tn _ _ _ _ S hS9 htn hbc (by omega) (by omega) (m352.into [(1, 26)] (by decide) rfl)) ?_)
   rintro e w364 ⟨p364, c364, rfl, hm364⟩
   have mx364 := m352.back hm364 [(26, 1), (300, 9)] (by decide); clear hm364 m352
   have m364 := mx364.oz [26, 300, 20, 21, 22, 23, 25, 28, 29]
   refine ⟨_, rfl, ?_⟩; intro Az Hz
   refine gz hK26 Hz (.move rfl <| .extract rfl rfl <| .extract rfl rfl <| .assign rfl <| .assign rfl <| .nil) fun Az Hz => ?_
   refine wsk fun K27 hK27 => ?_
   replace Hz := Hz.oz [7, 8, 11, 16, 17, 18, 20, 21, 22]
   obtain ⟨b372, o372, vs372, hp372, hR372, ho372, m372⟩ := m364.openR (i := 28) rfl ((fn + b)) (r := [.ns .u8 (S.getD (fn + b) [])]) (bD_get (by omega)) 301 rfl
   revert Hz
   cases hp372; clear m364 ho372
   rcases hR372 with _ | ⟨hd372_0, _ | _⟩
   obtain ⟨p373, c373, hv373, hc373⟩ := hd372_0.ns_shape; subst hv373
   intro Hz
   have m373 := m372.dat 302 rfl (hd372_0.cast (fun _ h => (free_add rfl h))); clear m372 hd372_0
   have m374 := m373.oz [20, 21, 22, 23, 25, 26, 28, 29, 300, 301, 302]
   refine region_p 17 (B := [(20, _), (21, _), (22, _), (23, _), (25, _), (26, _), (28, _), (29, _), (300, _), (301, _), (302, _)]) (m374.to ⟨il, il, il, il, il, il, il, il, il, il, il, trivial⟩) m374 (by kernel_rfl) (fun w375 hP375 m375 => ?_); clear m374
   refine goA hP375 [0, 1, 2] 3 0 7 Hz (m375.to ⟨il, il, il, il, il, il, il, il, il, il, il, trivial⟩) (.move rfl <| .neq rfl rfl <| .move rfl .nil) fun Az Hz => ?_
   refine bc Hz 130 ?_ ?_
   · intro hb _; exact absurd hb (by first | (simp; done) | (simp; omega))
   clear Hz; intro _ Hz
   refine goR hP375 [3, 4, 5, 6, 7, 8, 9, 10, 11, 12, 13, 14, 15, 16] [4, 8, 13, 14] 14 7 131071 Hz (m375.to ⟨il, il, il, il, il, il, il, il, il, il, il, trivial⟩) (.move rfl <| .str rfl (fun _ h_ => (h_.nums (i := 300) rfl)) U22 U5 U9 <| .move rfl <| .move rfl <| .fa 3 rfl U28 <| .lb hh 20 U3 rfl rfl rfl <| .mul rfl rfl (r := (fn : Int)) (by rw [← hC.fe]; exact IntWalk.i64_in _ (by omega)) <| .move rfl <| .add rfl rfl (r := ((fn + b : Nat) : Int)) (by rw [IntWalk.i64_in _ (by omega)]; omega) <| .p (fun _ _ h_ => y_idx h_ rfl rfl U41 fct16 ((fn + b)) rfl (by rw [List.length_map]; omega)) <| .loadC0 hh (i := 301) rfl rfl U22 rfl <| .str rfl (fun _ h_ => (h_.nums (i := 302) rfl)) U22 U5 U9 <| .neqS rfl rfl <| .pickF rfl rfl .nil) fun Az Hz => ?_
   refine wpAnyE_done (by kernel_rfl) ?_ _
   refine hK27 _ _ ?_
   refine bc Hz 144 ?_ ?_
   · intro hb _; exact absurd hb (by first | (simp; done) | (simp; omega))
   clear Hz; intro _ Hz
   refine wcf Hz ?_
   refine zss (hK25 _ _ ?_)
   replace Hz := Hz.oz [7, 8, 11, 16, 17, 18, 20]
   refine wp_region_lit ?_
   refine goCh Hz (.move rfl <| .inc (b + 1) <| .assign rfl .nil) fun Az Hz => ?_
   refine wpList_nil ?_
   show ∃ n', n' < _ ∧ _
   exact ⟨cnt - (b + 1), by omega, b + 1, _, _, _, _, _, _, _, _, _, _, _, _, _, by omega, rfl, Hz.only [7, 8, 11, 16, 17, 18, 20], m375.ren [(20, 20), (21, 21), (22, 22), (23, 23), (25, 25), (26, 26), (29, 29), (28, 28)] (by decide)⟩
  intro hb357 Hz; try simp only [QQ, Qax] at hb357
  refine wcf Hz ?_
  refine wp_exit ?_
  refine hK21 _ _ ?_
  refine wp_region_lit ?_
  refine goCh Hz (.move rfl <| .add rfl rfl (r := t + 1) (IntWalk.i64_in _ (by omega)) <| .assign rfl .nil) fun Az Hz => ?_
  refine wpList_nil ?_
  show ∃ n', n' < _ ∧ _
  exact ⟨((m : Int) + 1 - (t + 1)).toNat, by omega, t + 1, _, _, _, _, _, _, _, _, _, _, _, by omega, by omega, rfl, Hz.only [7, 8, 11, 16, 17], m352.ren [(20, 20), (21, 21), (22, 22), (23, 23), (25, 25), (26, 26), (29, 29)] (by decide)⟩
 intro hb335 Hz; try simp only [QQ, Qax] at hb335
 refine wcf Hz ?_
 refine wp_exit ?_
 refine hK19 _ _ ?_
 refine regS Hz (.assign rfl .nil) fun Az Hz => ?_
 refine rt1 Hz ?_
 exact ⟨by (first | rfl | simp), m330.below⟩
end Go.Proofs.Yteglmahnkfgelaa.K
