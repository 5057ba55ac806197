/- ExportTells' walk. -/
import Derived.Test.YtamjnimaeecmoaaGreatG8
namespace Go.Proofs.YtamjnimaeecmoaaGreat.K
open Go.ChangeShapes Go.WideShapes Go.ChangeAt Go.RowKit
set_option linter.unusedVariables false
set_option linter.unusedSimpArgs false
theorem built_arr {P : Program} {t e : TypeId} {len : Nat} {z : List Value} (hz : ((P.info? t).bind (·.zero)).map (·.cells.toList) = some z) (hu : P.underlying t = some (.array len e)) (he : (P.info? e).map (·.size) = some 1) (pl : List (Nat × Value)) (hp : pl.all (fun p => decide (p.1 < z.length) && p.2.oneCell') = true) : P.built t pl = some (setL z pl).toArray := by
 unfold Program.built
 cases hi : P.info? t with
 | none => simp [hi] at hz
 | some it =>
   cases hzz : it.zero with
   | none => simp [hi, hzz] at hz
   | some zz =>
     cases hie : P.info? e with
     | none => simp [hie] at he
     | some ie =>
       have hs1 : ie.size = 1 := by simpa [hie] using he
       have hzl : zz.cells.toList = z := by simpa [hi, hzz] using hz
       have hzc : zz.cells = z.toArray := by rw [← hzl]
       simp only [hu, hzz, hie, hzc, hs1]
       exact fill_set _ z.length (fun i hi' => by rw [Nat.mul_one]) pl z rfl hp (fun p hq => cells_one (by
         have := List.all_eq_true.1 hp p hq
         simp only [Bool.and_eq_true] at this
         exact this.2))
theorem y_buildA {P : Program} {n : Nat} {T : List (Nat × Value)} {a : Act} {w : World} {tt : TypeId} {pos : String} {af : Array Edge} {gd : Option (Nat × Bool)} {d : Option Tmp} (h : Has n T a) {t e : TypeId} {len : Nat} {parts : Array (Nat × Operand)} {z cs : List Value} {pl : List (Nat × Value)} (hp : K.evP T parts.toList = some pl) (hz : ((P.info? t).bind (·.zero)).map (·.cells.toList) = some z) (hu : P.underlying t = some (.array len e)) (he : (P.info? e).map (·.size) = some 1) (h1 : pl.all (fun p => decide (p.1 < z.length) && p.2.oneCell') = true) (hc : setL z pl = cs) : Yl P a w ⟨d, .build t parts, tt, pos, af, gd⟩ (.agg cs.toArray) := by
 have hb := built_arr hz hu he pl h1
 have hpl := h.evP hp
 show (execOp _ _).run P w = _
 have hr := run_build (P := P) w t (parts.map fun (i, x) => (i, a.eval x)) (setL z pl).toArray (by rw [Array.toList_map]; rw [← hpl] at hb ⊢; exact hb)
 simp only [execOp, Sem.run_bind, hr, Result.andThen_ok, Sem.run_pure, hc]
def prD (x : Int × Int) : List D := [.v (.int .i64 x.1), .v (.int .i64 x.2)]
theorem prD_get {L : List (Int × Int)} {i : Nat} {a b : Int} (e : L[i]? = some (a, b)) : (L.map prD)[i]? = some [.v (.int .i64 a), .v (.int .i64 b)] := by simp [e, prD]
def rwD (x : (Int × Int × Int × Int × Int × Int × List (List Ver))) : List D := [.v (.int .i64 x.1), .v (.int .i64 x.2.1), .v (.int .i64 x.2.2.1), .v (.int .i64 x.2.2.2.1), .v (.int .i64 x.2.2.2.2.1), .v (.int .i64 x.2.2.2.2.2.1), .l 1 (x.2.2.2.2.2.2.map hD)]
theorem rwD_get {L : List (Int × Int × Int × Int × Int × Int × List (List Ver))} {i : Nat} {a b c d e f : Int} {H : List (List Ver)} (h : L[i]? = some (a, b, c, d, e, f, H)) : (L.map rwD)[i]? = some [.v (.int .i64 a), .v (.int .i64 b), .v (.int .i64 c), .v (.int .i64 d), .v (.int .i64 e), .v (.int .i64 f), .l 1 (H.map hD)] := by simp [h, rwD]
theorem full_len {y : VolV} {n : Nat} {L : List (Nat × Nat)} {t : Int} {T : (Int × Int × Int × Int × Int × List (Int × List Int))} (hS : VolS n y) (hn : n ≤ 1000) (h : FullG y L t T) : T.2.2.2.2.2.length ≤ 1000000 := by
 have hb := (hS.f hn).bl
 rcases h with ⟨a, b⟩ | ⟨a, b, c⟩ | ⟨a, b, c, d⟩ | ⟨a, b, c, d, e⟩ | ⟨a, b, c, d, e⟩
 · rw [b]; exact Nat.zero_le _
 · rw [c]; exact Nat.zero_le _
 · rw [d]; exact Nat.zero_le _
 · rw [e]; exact Nat.zero_le _
 rw [e]
 show (wholeI _ _).length ≤ _
 rw [wholeI_len]; omega
theorem since_len {y : VolV} {n : Nat} {L : List (Nat × Nat)} {f t : Int} {T : (Int × Int × Int × Int × Int × List (Int × List Int))} (hS : VolS n y) (hn : n ≤ 1000) (h : SinceG y L f t T) : T.2.2.2.2.2.length ≤ 1000000 := by
 have hb := (hS.f hn).bl
 rcases h with ⟨a, b⟩ | ⟨a, b, c⟩ | ⟨a, b, c, d⟩ | ⟨a, b, c, d, e⟩ | ⟨a, b, c, d, e, f⟩ | ⟨a, b, c, d, e, f⟩
 · rw [b]; exact Nat.zero_le _
 · rw [c]; exact Nat.zero_le _
 · rw [d]; exact Nat.zero_le _
 · rw [e]; exact Nat.zero_le _
 · rw [f]; exact Nat.zero_le _
 rw [f]
 exact Nat.le_trans (selI_len _ _ _) (by omega)
set_option maxRecDepth 100000
set_option maxHeartbeats 4000000
theorem tells_walk (l l2 : List Int) (pl p2 : Option Addr) (cl c2 : Nat) (fr0 to0 nz : Int) (n4 n5 : Nat) (raw : List (Int × Int × Int × Int × Int × Int × List (List Ver))) (pr : Option Addr) (cr : Nat) (w0 : World) (hn4 : n4 ≤ 255) (hn5 : n5 ≤ 255) (h1 : Rd (fun _ => True) w0 (.slice pl l.length cl) (.ns .u8 l)) (hlb : ∀ j, j < l.length → 0 ≤ l.getD j 0 ∧ l.getD j 0 ≤ 255) (h2 : Rd (fun _ => True) w0 (.slice p2 l2.length c2) (.ns .u8 l2)) (hlb2 : ∀ j, j < l2.length → 0 ≤ l2.getD j 0 ∧ l2.getD j 0 ≤ 255) (h3 : Rd (fun _ => True) w0 (.slice pr raw.length cr) (.l 7 (raw.map rwD))) :
   Calls Tryz.prog 3 #[.slice pl l.length cl, .slice p2 l2.length c2, .int .i64 fr0, .int .i64 to0, .int .u8 (n4 : Int), .int .u8 (n5 : Int), .slice pr raw.length cr, .int .i64 nz] w0 fun e w' => e = .returned (.bool true) ∧ Below w0.heap.size w0 w' := by
 refine ent8 Tryz.func3 rfl Tryz.ntmps3 fun Az Hz => ?_
 have m0 := (MemOk.start (fun _ => True) w0).dat 61 rfl (h2.cast (fun _ _ => free_nil (fun _ => trivial)))
 refine regS Hz (.assign rfl .nil) fun Az Hz => ?_
 refine wsk fun K0 hK0 => ?_
 refine zsr fun K1 hK1 => ?_
 refine plz (ecb Hz Tryz.func8 rfl m0 (eknown_x _) fun Az w2 Hz m3 => ?_)
 refine gz hK1 Hz (.not rfl .nil) fun Az Hz => ?_
 refine wcf Hz ?_
 refine zss (hK0 _ _ ?_)
 refine wsk fun K2 hK2 => ?_
 refine zsr fun K3 hK3 => ?_
 refine goCh Hz (.move rfl <| .len rfl U22 <| .gtr rfl rfl <| .move rfl .nil) fun Az Hz => ?_
 refine bc Hz 39 ?_ ?_
 ·
  intro hb14 Hz; try simp only [QQ, Qax] at hb14
  refine gz hK3 Hz (.sk <| .sk <| .sk <| .pickT rfl rfl <| .move rfl <| .sk <| .sk <| .sk <| .pickT rfl rfl <| .nil) fun Az Hz => ?_
  refine wct Hz ?_
  replace Hz := Hz.oz [0, 1, 2, 3, 4, 5, 6, 7, 16]
  refine regS Hz (.assign rfl .nil) fun Az Hz => ?_
  refine rt1 Hz ?_
  exact ⟨by (first | rfl | simp), m3.below⟩
 intro hb14 Hz; try simp only [QQ, Qax] at hb14
 have hl60 : l.length ≤ 60 := by have := hb14; first | omega | (simp at this; omega) | (simp at this; exact this)
 refine goCh Hz (.moveZ rfl <| .lenZ rfl U22 <| .gtrZ rfl rfl <| .pickF rfl rfl <| .move rfl .nil) fun Az Hz => ?_
 refine bc Hz 44 ?_ ?_
 ·
  intro hb31 Hz; try simp only [QQ, Qax] at hb31
  refine gz hK3 Hz (.sk <| .sk <| .sk <| .pickT rfl rfl <| .nil) fun Az Hz => ?_
  refine wct Hz ?_
  replace Hz := Hz.oz [0, 1, 2, 3, 4, 5, 6, 7, 16]
  refine regS Hz (.assign rfl .nil) fun Az Hz => ?_
  refine rt1 Hz ?_
  exact ⟨by (first | rfl | simp), m3.below⟩
 intro hb31 Hz; try simp only [QQ, Qax] at hb31
 have hl16 : l2.length ≤ 16 := by have := hb31; first | omega | (simp at this; omega) | (simp at this; exact this)
 refine gz hK3 Hz (.moveZ rfl <| .lenZ rfl U23 <| .gtrZ rfl rfl <| .pickF rfl rfl <| .nil) fun Az Hz => ?_
 refine bc Hz 48 ?_ ?_
 ·
  intro hb42 Hz; try simp only [QQ, Qax] at hb42
  refine wct Hz ?_
  replace Hz := Hz.oz [0, 1, 2, 3, 4, 5, 6, 7, 16]
  refine regS Hz (.assign rfl .nil) fun Az Hz => ?_
  refine rt1 Hz ?_
  exact ⟨by (first | rfl | simp), m3.below⟩
 intro hb42 Hz; try simp only [QQ, Qax] at hb42
 have hr4 : raw.length ≤ 4 := by have := hb42; first | omega | (simp at this; omega) | (simp at this; exact this)
 refine wcf Hz ?_
 refine zss (hK2 _ _ ?_)
 refine wsk fun K4 hK4 => ?_
 replace Hz := Hz.oz [0, 1, 2, 3, 4, 5, 6, 7, 16]
 refine regS Hz (.assign rfl .nil) fun Az Hz => ?_
 refine wp_block ?_
 refine wp_loop_ghost (fun g a w => ∃ (i : Nat), i ≤ raw.length ∧ g = raw.length - i ∧ Has 209 [(0, .slice pl l.length cl), (1, .slice p2 l2.length c2), (2, .int .i64 fr0), (3, .int .i64 to0), (4, .int .u8 (n4 : Int)), (5, .int .u8 (n5 : Int)), (7, .int .i64 nz), (6, .slice pr raw.length cr), (17, .int .i64 (i : Int))] a ∧ MemOk (cx (fun _ => True) w0) w0 [(61, .dat (.slice p2 l2.length c2) (.ns .u8 l2))] w) (raw.length) ?_ ?_
 · exact ⟨0, Nat.zero_le _, rfl, Hz.only [0, 1, 2, 3, 4, 5, 7, 6, 17], m3.ren [(61, 61)] (by decide)⟩
 clear Hz m3
 rintro g Az w47 ⟨i, hil, hg, Hz, m47⟩
 refine wsk fun K5 hK5 => ?_
 refine regS Hz (.move rfl <| .move rfl <| .len rfl U23 <| .lss rfl rfl .nil) fun Az Hz => ?_
 refine bc Hz 52 ?_ ?_
 ·
  intro hb52 Hz; try simp only [QQ, Qax] at hb52
  have hi : i < raw.length := by have := hb52; first | omega | (simp at this; omega) | (simp at this; exact this)
  obtain ⟨⟨xa, xb, xc, xd, xe, xf, xH⟩, hes⟩ : ∃ x, raw[i]? = some x := ⟨_, List.getElem?_eq_getElem hi⟩
  refine wct Hz ?_
  refine zss (hK5 _ _ ?_)
  refine wsk fun K6 hK6 => ?_
  refine wp_block ?_
  refine zsr fun K7 hK7 => ?_
  refine goCh Hz (.move rfl <| .move rfl .nil) fun Az Hz => ?_
  obtain ⟨gx58, ox58, vx58, hp58, hl58, hR58, hrg58⟩ := h3.extA (i) (r := [.v (.int .i64 xa), .v (.int .i64 xb), .v (.int .i64 xc), .v (.int .i64 xd), .v (.int .i64 xe), .v (.int .i64 xf), .l 1 (xH.map hD)]) (rwD_get hes)
  revert Hz
  cases hp58
  rcases hR58 with _ | ⟨hd58_0, _ | ⟨hd58_1, _ | ⟨hd58_2, _ | ⟨hd58_3, _ | ⟨hd58_4, _ | ⟨hd58_5, _ | ⟨hd58_6, _ | _⟩⟩⟩⟩⟩⟩⟩
  obtain rfl := hd58_0.v_out
  clear hd58_0
  obtain rfl := hd58_1.v_out
  clear hd58_1
  obtain rfl := hd58_2.v_out
  clear hd58_2
  obtain rfl := hd58_3.v_out
  clear hd58_3
  obtain rfl := hd58_4.v_out
  clear hd58_4
  obtain rfl := hd58_5.v_out
  clear hd58_5
  obtain ⟨p59, c59, hv59, hw59⟩ := hd58_6.l_shape; subst hv59
  intro Hz
  refine goCh Hz (.c rfl (fun _ h_ => y_idx h_ rfl rfl U23 fct12 (i) rfl hi) <| .loadAt (hrg58 m47 rfl) rfl U28 rfl fct12 .nil) fun Az Hz => ?_
  refine plz (ecl Hz Tryz.func9 rfl (smallck_x _ _ _ _ _ _ xH _ _ _ _ ((hd58_6.now' m47 rfl).any)) ?_)
  rintro e w62 ⟨bs9, rfl, hb62⟩
  have m63 := m47.later hb62
  refine ⟨_, rfl, ?_⟩; intro Az Hz
  refine gz hK7 Hz (.not rfl .nil) fun Az Hz => ?_
  refine bc Hz 60 ?_ ?_
  ·
   intro hb66 Hz; try simp only [QQ, Qax] at hb66
   refine wct Hz ?_
   replace Hz := Hz.oz [0, 1, 6, 2, 3, 4, 5, 7, 17]
   refine regS Hz (.assign rfl .nil) fun Az Hz => ?_
   refine rt1 Hz ?_
   exact ⟨by (first | rfl | simp), m63.below⟩
  intro hb66 Hz; try simp only [QQ, Qax] at hb66
  refine wcf Hz ?_
  refine zss (hK6 _ _ ?_)
  replace Hz := Hz.oz [0, 1, 6, 2, 3, 4, 5, 7, 17]
  refine wp_region_lit ?_
  refine goCh Hz (.move rfl <| .inc (i + 1) <| .assign rfl .nil) fun Az Hz => ?_
  refine wpList_nil ?_
  show ∃ n', n' < _ ∧ _
  exact ⟨raw.length - (i + 1), by omega, i + 1, by omega, rfl, Hz.only [0, 1, 2, 3, 4, 5, 7, 6, 17], m63.ren [(61, 61)] (by decide)⟩
 intro hb52 Hz; try simp only [QQ, Qax] at hb52
 refine wcf Hz ?_
 refine wp_exit ?_
 refine hK4 _ _ ?_
 refine zsr fun K8 hK8 => ?_
 refine goCh Hz (.move rfl .nil) fun Az Hz => ?_
 refine plz (ecl Hz Tryz.func10 rfl (svol_any l _ _ _ ((h1.now' m47 rfl).any) (by omega) hlb) ?_)
 rintro e w75 ⟨y, p175, p275, p375, d175, d275, d375, rfl, hS, hd75, he75, hf75, hb75⟩
 have m76 := m47.callF3 100 101 102 rfl rfl rfl hb75 hd75 he75 hf75
 clear hb75 hd75 he75 hf75
 obtain ⟨n, hn9⟩ : ∃ n, l.length = n := ⟨_, rfl⟩
 rw [hn9] at hS
 have hn : n ≤ 1000 := by omega
 have hF := hS.f hn
 have hpp := place_pos hS
 have hpt := place_top hS
 have hn80 : y.ws.length ≤ 60 := by have := hS.2.2.2.1; omega
 have hyb := hF.bl
 have hyz := hF.sz
 have hf0 := hF.fl0
 have hf1 := hF.fl1
 refine ⟨_, rfl, ?_⟩; intro Az Hz
 refine plz (e_alloc Hz m76 103 fct2 rfl fun g78 Az w79 Hz m79 _ _ => ?_)
 refine plz (stw Hz m79 103 fct1 fun w80 m80 _ => ?_)
 refine znl (hK8 _ _ ?_)
 replace Hz := Hz.oz [0, 1, 6, 2, 3, 4, 5, 7, 17, 18]
 refine zsr fun K9 hK9 => ?_
 refine goCh Hz (.loadBR m80 (i := 103) rfl rfl U33 rfl fct1 (by simp) (by dsimp only [List.drop, List.take] <;> rfl) <| .move rfl .nil) fun Az Hz => ?_
 refine plz (ecl Hz Tryz.func11 rfl (echunks_x _ y n hS hn _ _ _ _ _ _ _ l2 _ _ _ hlb2 (by omega) (m80.into [(3, 102), (5, 61)] (by decide) rfl)) ?_)
 rintro e w86 ⟨L, p86, c86, hLl, hLo, rfl, hm86⟩
 have mx86 := m80.back hm86 [(102, 3), (61, 5), (104, 9)] (by decide); clear hm86 m80
 have m86 := mx86.oz [102, 61, 104, 100, 101, 103]
 refine ⟨_, rfl, ?_⟩; intro Az Hz
 refine gz hK9 Hz (.assign rfl .nil) fun Az Hz => ?_
 refine wsk fun K10 hK10 => ?_
 have hC10 : ∀ (a : Act) (w : World), (∃ (BV : Nat) (q1 q2 q3 : Option Addr) (d1 d2 d3 : Nat) (p9 : Option Addr) (c9 : Nat) (L : List (Nat × Nat)), L.length ≤ 1016 ∧ (∀ x ∈ L, x.1 < y.place.length ∧ x.2 ≤ y.ws.length) ∧ Has 209 [(2, .int .i64 fr0), (3, .int .i64 to0), (4, .int .u8 (n4 : Int)), (5, .int .u8 (n5 : Int)), (7, .int .i64 nz), (18, .pointer (some ⟨BV, 0, none⟩)), (19, .slice p9 (L.map (ckD y)).length c9)] a ∧ MemOk (cx (fun _ => True) w0) w0 [(20, .box BV 33 [.int .i64 y.vo, .int .i64 y.bl, .int .i64 y.sz, .int .i64 y.pe, .slice q1 y.place.length d1, .int .i64 y.to, .int .i64 y.ne, .bool y.hi, .int .i64 y.fl, .slice q2 y.pins.length d2, .slice q3 (y.ws.map wrD).length d3]), (21, .dat (.slice q1 y.place.length d1) (.ns .i64 y.place)), (22, .dat (.slice q2 y.pins.length d2) (.ns .i64 y.pins)), (23, .dat (.slice q3 (y.ws.map wrD).length d3) (.l 2 (y.ws.map wrD))), (24, .dat (.slice p9 (L.map (ckD y)).length c9) (.l 7 (L.map (ckD y))))] w) → K10 a w := by
   clear Hz m86
   rintro Az w89 ⟨BV, q1, q2, q3, d1, d2, d3, p9, c9, L, hLl, hLo, Hz, m89⟩
   refine hK10 _ _ ?_
   refine zsr fun K11 hK11 => ?_
   refine goCh Hz (.loadBR m89 (i := 20) rfl rfl U33 rfl fct1 (by simp) (by dsimp only [List.drop, List.take] <;> rfl) .nil) fun Az Hz => ?_
   refine plz (ecb Hz Tryz.func13 rfl m89 (rlen_y y _ _ _ _ _ _ _ _ _) fun Az w92 Hz m93 => ?_)
   refine gz hK11 Hz (.add rfl rfl (r := (y.ws.length : Int) + 2) (IntWalk.i64_in _ (by omega)) <| .assign rfl <| .nil) fun Az Hz => ?_
   refine wsk fun K12 hK12 => ?_
   refine wsk fun K13 hK13 => ?_
   obtain ⟨e0, he0, he00⟩ := tm_at (x := (n4 : Int)) (d := (y.ws.length : Int) + 2) (by omega) (by omega)
   obtain ⟨e1, he1, he10⟩ := tm_at (x := (n5 : Int)) (d := (y.ws.length : Int) + 2) (by omega) (by omega)
   have m97 := m93.oz [20, 21, 22, 23, 24]
   refine region_p 17 (B := [(20, _), (21, _), (22, _), (23, _), (24, _)]) (m97.to ⟨il, il, il, il, il, trivial⟩) m97 (by kernel_rfl) (fun w98 hP98 m98 => ?_); clear m97
   refine goR hP98 [0, 1, 2, 3, 4, 5, 6, 7, 8, 9, 10, 11, 12, 13, 14, 19] [13, 14] 16 0 557055 Hz (m98.to ⟨il, il, il, il, il, trivial⟩) (.move rfl <| .move rfl <| .p (fun _ _ h_ => y_buildA h_ rfl fct42 U38 fct10 rfl (by dsimp only [setL, List.set] <;> rfl)) <| .move rfl <| .conv rfl U5 U2 (r := (n4 : Int)) (IntWalk.i64_in _ (by omega)) <| .move rfl <| .rem rfl rfl (by omega) (r := e0) he0 <| .move rfl <| .conv rfl U5 U2 (r := (n5 : Int)) (IntWalk.i64_in _ (by omega)) <| .move rfl <| .rem rfl rfl (by omega) (r := e1) he1 <| .p (fun _ _ h_ => y_buildA h_ rfl fct42 U38 fct10 rfl (by dsimp only [setL, List.set] <;> rfl)) <| .fa 8 rfl U33 <| .lb hh 20 U2 rfl rfl rfl <| .loadBR hh (i := 20) rfl rfl U33 rfl fct1 (by simp) (by dsimp only [List.drop, List.take] <;> rfl) <| .move rfl .nil) fun Az Hz => ?_
   refine so 15 ?_
   refine ecb Hz Tryz.func13 rfl m98 (rlen_y y _ _ _ _ _ _ _ _ _) fun Az w115 Hz m116 => ?_
   refine ⟨m116.to ⟨il, il, il, il, il, trivial⟩, ?_⟩
   refine goA hP98 [16] 1 589823 655359 Hz (m116.to ⟨il, il, il, il, il, trivial⟩) (.p (fun _ _ h_ => y_buildA h_ rfl fct42 U38 fct10 rfl (by dsimp only [setL, List.set] <;> rfl)) .nil) fun Az Hz => ?_
   refine se 17 ?_
   refine e_litR Hz m116 200 (mm := 2) rfl (.cons rfl rfl (.cons (.v _) (.cons (.v _) .nil)) <| .cons rfl rfl (.cons (.v _) (.cons (.v _) .nil)) <| .cons rfl rfl (.cons (.v _) (.cons (.v _) .nil)) .nil) U39 fct40 rfl rfl rfl rfl rfl fun g119 Az w120 Hz m120 => ?_
   refine goB hP98 [18] 1 786431 1048575 Hz (.len rfl U39 .nil) fun Az Hz => ?_
   refine wpAnyE_done (by kernel_rfl) ?_ _
   refine hK13 _ _ ?_
   refine wp_block ?_
   have m122 := m120.freezeR 200 rfl
   have hEx : [[D.v (.int .i64 fr0), .v (.int .i64 to0)], [D.v (.int .i64 e0), .v (.int .i64 e1)], [D.v (.int .i64 y.fl), .v (.int .i64 (y.ws.length : Int))]] = (([(fr0, to0), (e0, e1), (y.fl, (y.ws.length : Int))] : List (Int × Int)).map prD) := rfl
   rw [hEx] at m122
   obtain ⟨xs, hxs⟩ : ∃ xs : List (Int × Int), [(fr0, to0), (e0, e1), (y.fl, (y.ws.length : Int))] = xs := ⟨_, rfl⟩
   rw [hxs] at m122
   have hx3 : xs.length = 3 := by rw [← hxs]; rfl
   refine wp_loop_ghost (fun g a w => ∃ (i BV : Nat) (q1 q2 q3 : Option Addr) (d1 d2 d3 : Nat) (p9 pq : Option Addr) (c9 cq : Nat), i ≤ 3 ∧ g = 3 - i ∧ Has 209 [(5, .int .u8 (n5 : Int)), (7, .int .i64 nz), (18, .pointer (some ⟨BV, 0, none⟩)), (19, .slice p9 (L.map (ckD y)).length c9), (104, .slice pq 3 cq), (105, .int .i64 3), (106, .int .i64 (i : Int))] a ∧ MemOk (cx (fun _ => True) w0) w0 [(20, .box BV 33 [.int .i64 y.vo, .int .i64 y.bl, .int .i64 y.sz, .int .i64 y.pe, .slice q1 y.place.length d1, .int .i64 y.to, .int .i64 y.ne, .bool y.hi, .int .i64 y.fl, .slice q2 y.pins.length d2, .slice q3 (y.ws.map wrD).length d3]), (21, .dat (.slice q1 y.place.length d1) (.ns .i64 y.place)), (22, .dat (.slice q2 y.pins.length d2) (.ns .i64 y.pins)), (23, .dat (.slice q3 (y.ws.map wrD).length d3) (.l 2 (y.ws.map wrD))), (24, .dat (.slice p9 (L.map (ckD y)).length c9) (.l 7 (L.map (ckD y)))), (25, .dat (.slice pq 3 cq) (.l 2 ((xs).map prD)))] w) (3) ?_ ?_
   · exact ⟨0, _, _, _, _, _, _, _, _, _, _, _, Nat.zero_le _, rfl, Hz.only [5, 7, 18, 19, 104, 105, 106], m122.ren [(20, 20), (21, 21), (22, 22), (23, 23), (24, 24), (25, 200)] (by decide)⟩
   clear Hz m122
   rintro g Az w123 ⟨i, BV, q1, q2, q3, d1, d2, d3, p9, pq, c9, cq, hil, hg, Hz, m123⟩
   refine regS Hz (.lss rfl rfl .nil) fun Az Hz => ?_
   refine wsk fun K14 hK14 => ?_
   refine bc Hz 107 ?_ ?_
   ·
    intro hb125 Hz; try simp only [QQ, Qax] at hb125
    have hi3 : i < 3 := by have := hb125; first | omega | (simp at this; omega) | (simp at this; exact this)
    obtain ⟨⟨x0, x1⟩, hesx⟩ : ∃ x, xs[i]? = some x := ⟨_, List.getElem?_eq_getElem (by omega)⟩
    obtain ⟨jj, hjj, hjj0⟩ : ∃ q : Int, (n5 : Int).tmod 6 = q ∧ (0 ≤ q ∧ q ≤ 5) := ⟨_, rfl, by rw [Int.tmod_eq_emod_of_nonneg (by omega)]; omega⟩
    refine wct Hz ?_
    refine zss (hK14 _ _ ?_)
    refine wsk fun K15 hK15 => ?_
    refine wp_block ?_
    refine zsr fun K16 hK16 => ?_
    obtain ⟨b127, o127, vs127, hp127, hR127, ho127, m127⟩ := m123.openR (i := 25) rfl (i) (r := [.v (.int .i64 x0), .v (.int .i64 x1)]) (prD_get hesx) 300 rfl
    revert Hz
    cases hp127; clear m123 ho127
    rcases hR127 with _ | ⟨hd127_0, _ | ⟨hd127_1, _ | _⟩⟩
    obtain rfl := hd127_0.v_out
    clear hd127_0
    obtain rfl := hd127_1.v_out
    clear hd127_1
    intro Hz
    refine goCh Hz (.c rfl (fun _ h_ => y_idx h_ rfl rfl U39 fct41 (i) rfl hi3) <| .loadCR m127 (i := 300) rfl rfl U38 rfl fct41 .nil) fun Az Hz => ?_
    refine plz (e_alloc Hz m127 301 fct42 rfl fun g130 Az w131 Hz m131 _ _ => ?_)
    refine plz (stw Hz m131 301 fct41 fun w132 m132 _ => ?_)
    refine znl (hK16 _ _ ?_)
    refine zsr fun K17 hK17 => ?_
    refine goCh Hz (.loadBR m132 (i := 20) rfl rfl U33 rfl fct1 (by simp) (by dsimp only [List.drop, List.take] <;> rfl) <| .move rfl <| .c rfl (fun _ h_ => y_idxA h_ rfl rfl U38 fct10 1 rfl (by decide) (off := 1) rfl) <| .lb m132 301 U2 rfl rfl rfl .nil) fun Az Hz => ?_
    refine plz (ecl Hz Tryz.func14 rfl (efull_n _ y n hS hn _ _ _ _ _ _ _ L _ _ _ x1 _ (by omega) hLo (m132.into [(3, 23), (4, 24)] (by decide) rfl)) ?_)
    rintro e w141 ⟨Ta, p141, c141, hEa, rfl, hm141⟩
    have mx141 := m132.back hm141 [(23, 3), (24, 4), (302, 9)] (by decide); clear hm141 m132
    have m141 := mx141.oz [23, 24, 302, 20, 21, 22, 25, 300, 301]
    refine ⟨_, rfl, ?_⟩; intro Az Hz
    refine goCh Hz (.move rfl <| .extract rfl rfl <| .extract rfl rfl .nil) fun Az Hz => ?_
    refine plz (e_alloc Hz m141 303 fct33 rfl fun g146 Az w147 Hz m147 _ _ => ?_)
    refine plz (stw Hz m147 303 fct32 fun w148 m148 _ => ?_)
    refine gz hK17 Hz (.assign rfl .nil) fun Az Hz => ?_
    replace Hz := Hz.oz [5, 7, 18, 19, 104, 105, 106, 23, 24, 25]
    refine zsr fun K18 hK18 => ?_
    refine goCh Hz (.loadBR m148 (i := 20) rfl rfl U33 rfl fct1 (by simp) (by dsimp only [List.drop, List.take] <;> rfl) <| .move rfl <| .c rfl (fun _ h_ => y_idxA h_ rfl rfl U38 fct10 1 rfl (by decide) (off := 1) rfl) <| .lb m148 301 U2 rfl rfl rfl .nil) fun Az Hz => ?_
    refine plz (ecl Hz Tryz.func15 rfl (erfull_n _ y n hS hn _ _ _ _ _ _ _ L _ _ _ x1 _ (by omega) hLo (m148.into [(3, 23), (4, 24)] (by decide) rfl)) ?_)
    rintro e w159 ⟨Tb, p159, c159, hEb, rfl, hm159⟩
    have mx159 := m148.back hm159 [(23, 3), (24, 4), (304, 9)] (by decide); clear hm159 m148
    have m159 := mx159.oz [23, 24, 304, 20, 21, 22, 25, 300, 301, 302, 303]
    refine ⟨_, rfl, ?_⟩; intro Az Hz
    revert Hz
    obtain rfl : Ta = Tb := fullG_one hEa hEb
    intro Hz
    refine goCh Hz (.move rfl <| .extract rfl rfl <| .extract rfl rfl .nil) fun Az Hz => ?_
    refine plz (e_alloc Hz m159 305 fct33 rfl fun g164 Az w165 Hz m165 _ _ => ?_)
    refine plz (stw Hz m165 305 fct32 fun w166 m166 _ => ?_)
    refine gz hK18 Hz (.assign rfl .nil) fun Az Hz => ?_
    refine wsk fun K19 hK19 => ?_
    replace Hz := Hz.oz [5, 7, 18, 19, 104, 105, 106, 23, 24, 25, 26, 27]
    refine zsr fun K20 hK20 => ?_
    refine goCh Hz (.move rfl <| .move rfl <| .neq rfl rfl <| .move rfl .nil) fun Az Hz => ?_
    refine bc Hz 129 ?_ ?_
    · intro hb _; exact absurd hb (by simp)
    clear Hz; intro _ Hz
    refine goCh Hz (.loadBRZ m166 (i := 303) rfl rfl U42 rfl fct32 (by simp) (by dsimp only [List.drop, List.take] <;> rfl) <| .loadBRZ m166 (i := 305) rfl rfl U42 rfl fct32 (by simp) (by dsimp only [List.drop, List.take] <;> rfl) .nil) fun Az Hz => ?_
    refine stz Hz (ecb Hz Tryz.func16 rfl m166 (streams_x _ _ _ _ Ta.2.2.2.2.2 _ _ _ _ _ _ _ ((m166.rd (i := 302) rfl).any) ((m166.rd (i := 304) rfl).any) (full_len hS hn hEa)) fun Az w180 Hz m181 => ?_)
    refine gz hK20 Hz (.notZ rfl <| .pickF rfl rfl <| .nil) fun Az Hz => ?_
    refine wcf Hz ?_
    refine zss (hK19 _ _ ?_)
    replace Hz := Hz.oz [5, 7, 18, 19, 104, 105, 106, 23, 24, 25, 26, 27]
    refine zsr fun K21 hK21 => ?_
    refine goCh Hz (.loadBR m181 (i := 20) rfl rfl U33 rfl fct1 (by simp) (by dsimp only [List.drop, List.take] <;> rfl) <| .move rfl <| .c rfl (fun _ h_ => y_idxA h_ rfl rfl U38 fct10 0 rfl (by decide) (off := 0) rfl) <| .lb m181 301 U2 rfl rfl rfl <| .c rfl (fun _ h_ => y_idxA h_ rfl rfl U38 fct10 1 rfl (by decide) (off := 1) rfl) <| .lb m181 301 U2 rfl rfl rfl .nil) fun Az Hz => ?_
    refine plz (ecl Hz Tryz.func17 rfl (esince_n _ y n hS hn _ _ _ _ _ _ _ L _ _ _ x0 x1 _ (by omega) hLo (m181.into [(3, 23), (4, 24)] (by decide) rfl)) ?_)
    rintro e w198 ⟨Tc, p198, c198, hEc, rfl, hm198⟩
    have mx198 := m181.back hm198 [(23, 3), (24, 4), (306, 9)] (by decide); clear hm198 m181
    have m198 := mx198.oz [23, 24, 306, 20, 21, 22, 25, 300, 301, 302, 303, 304, 305]
    refine ⟨_, rfl, ?_⟩; intro Az Hz
    refine goCh Hz (.move rfl <| .extract rfl rfl <| .extract rfl rfl .nil) fun Az Hz => ?_
    refine plz (stw Hz m198 303 fct32 fun w203 m203 _ => ?_)
    refine gz hK21 Hz (.assign rfl .nil) fun Az Hz => ?_
    replace Hz := Hz.oz [5, 7, 18, 19, 104, 105, 106, 23, 24, 25, 26, 27]
    refine zsr fun K22 hK22 => ?_
    refine goCh Hz (.loadBR m203 (i := 20) rfl rfl U33 rfl fct1 (by simp) (by dsimp only [List.drop, List.take] <;> rfl) <| .move rfl <| .c rfl (fun _ h_ => y_idxA h_ rfl rfl U38 fct10 0 rfl (by decide) (off := 0) rfl) <| .lb m203 301 U2 rfl rfl rfl <| .c rfl (fun _ h_ => y_idxA h_ rfl rfl U38 fct10 1 rfl (by decide) (off := 1) rfl) <| .lb m203 301 U2 rfl rfl rfl .nil) fun Az Hz => ?_
    refine plz (ecl Hz Tryz.func18 rfl (ersince_n _ y n hS hn _ _ _ _ _ _ _ L _ _ _ x0 x1 _ (by omega) hLo (m203.into [(3, 23), (4, 24)] (by decide) rfl)) ?_)
    rintro e w218 ⟨Td, p218, c218, hEd, rfl, hm218⟩
    have mx218 := m203.back hm218 [(23, 3), (24, 4), (307, 9)] (by decide); clear hm218 m203
    have m218 := mx218.oz [23, 24, 307, 20, 21, 22, 25, 300, 301, 302, 303, 304, 305, 306]
    refine ⟨_, rfl, ?_⟩; intro Az Hz
    revert Hz
    obtain rfl : Tc = Td := sinceG_one hEc hEd
    intro Hz
    refine goCh Hz (.move rfl <| .extract rfl rfl <| .extract rfl rfl .nil) fun Az Hz => ?_
    refine plz (stw Hz m218 305 fct32 fun w223 m223 _ => ?_)
    refine gz hK22 Hz (.assign rfl .nil) fun Az Hz => ?_
    refine wsk fun K23 hK23 => ?_
    replace Hz := Hz.oz [5, 7, 18, 19, 104, 105, 106, 23, 24, 25, 26, 27]
    refine zsr fun K24 hK24 => ?_
    refine goCh Hz (.move rfl <| .move rfl <| .neq rfl rfl <| .move rfl .nil) fun Az Hz => ?_
    refine bc Hz 158 ?_ ?_
    · intro hb _; exact absurd hb (by simp)
    clear Hz; intro _ Hz
    refine goCh Hz (.loadBRZ m223 (i := 303) rfl rfl U42 rfl fct32 (by simp) (by dsimp only [List.drop, List.take] <;> rfl) <| .loadBRZ m223 (i := 305) rfl rfl U42 rfl fct32 (by simp) (by dsimp only [List.drop, List.take] <;> rfl) .nil) fun Az Hz => ?_
    refine stz Hz (ecb Hz Tryz.func16 rfl m223 (streams_x _ _ _ _ Tc.2.2.2.2.2 _ _ _ _ _ _ _ ((m223.rd (i := 306) rfl).any) ((m223.rd (i := 307) rfl).any) (since_len hS hn hEc)) fun Az w237 Hz m238 => ?_)
    refine gz hK24 Hz (.notZ rfl <| .pickF rfl rfl <| .nil) fun Az Hz => ?_
    refine wcf Hz ?_
    refine zss (hK23 _ _ ?_)
    replace Hz := Hz.oz [5, 7, 18, 19, 104, 105, 106, 23]
    refine zsr fun K25 hK25 => ?_
    refine goCh Hz (.move rfl <| .move rfl <| .rem rfl rfl (by decide) (r := jj) hjj <| .conv rfl U5 U3 (r := jj) (IntWalk.i64_in _ (by omega)) .nil) fun Az Hz => ?_
    refine plz (e_litN Hz m238 308 (k := .i64) rfl rfl U29 fct37 rfl rfl rfl rfl fun g251 Az w252 Hz m252 => ?_)
    refine gz hK25 Hz (.len rfl U29 <| .move rfl <| .nil) fun Az Hz => ?_
    refine wp_block ?_
    refine wp_loop_ghost (fun g a w => ∃ (q BV B23 : Nat) (q1 q2 q3 : Option Addr) (d1 d2 d3 : Nat) (p9 pq pd : Option Addr) (c9 cq cd : Nat) (Ns : List Int), q ≤ 2 ∧ g = 2 - q ∧ Ns.length = 2 ∧ Has 209 [(5, .int .u8 (n5 : Int)), (7, .int .i64 nz), (18, .pointer (some ⟨BV, 0, none⟩)), (19, .slice p9 (L.map (ckD y)).length c9), (104, .slice pq 3 cq), (105, .int .i64 3), (106, .int .i64 (i : Int)), (23, .pointer (some ⟨B23, 0, none⟩)), (168, .slice pd Ns.length cd), (169, .int .i64 2), (170, .int .i64 (q : Int))] a ∧ MemOk (cx (fun _ => True) w0) w0 [(20, .box BV 33 [.int .i64 y.vo, .int .i64 y.bl, .int .i64 y.sz, .int .i64 y.pe, .slice q1 y.place.length d1, .int .i64 y.to, .int .i64 y.ne, .bool y.hi, .int .i64 y.fl, .slice q2 y.pins.length d2, .slice q3 (y.ws.map wrD).length d3]), (21, .dat (.slice q1 y.place.length d1) (.ns .i64 y.place)), (22, .dat (.slice q2 y.pins.length d2) (.ns .i64 y.pins)), (23, .dat (.slice q3 (y.ws.map wrD).length d3) (.l 2 (y.ws.map wrD))), (24, .dat (.slice p9 (L.map (ckD y)).length c9) (.l 7 (L.map (ckD y)))), (25, .dat (.slice pq 3 cq) (.l 2 ((xs).map prD))), (26, .box B23 38 [.int .i64 x0, .int .i64 x1]), (27, .num (.slice pd Ns.length cd) 3 .i64 Ns)] w) (2) ?_ ?_
    · exact ⟨0, _, _, _, _, _, _, _, _, _, _, _, _, _, _, [nz, jj], Nat.zero_le _, rfl, rfl, Hz.only [5, 7, 18, 19, 104, 105, 106, 23, 168, 169, 170], m252.ren [(20, 20), (21, 21), (22, 22), (23, 23), (24, 24), (25, 25), (26, 301), (27, 308)] (by decide)⟩
    clear Hz m252
    rintro g Az w255 ⟨q, BV, B23, q1, q2, q3, d1, d2, d3, p9, pq, pd, c9, cq, cd, Ns, hql, hg2, hNs, Hz, m255⟩
    refine regS Hz (.lss rfl rfl .nil) fun Az Hz => ?_
    refine wsk fun K26 hK26 => ?_
    refine bc Hz 171 ?_ ?_
    ·
     intro hb257 Hz; try simp only [QQ, Qax] at hb257
     have hq2 : q < 2 := by have := hb257; first | omega | (simp at this; omega) | (simp at this; exact this)
     have hqs : q < Ns.length := by omega
     refine wct Hz ?_
     refine zss (hK26 _ _ ?_)
     refine wsk fun K27 hK27 => ?_
     refine wp_block ?_
     refine zsr fun K28 hK28 => ?_
     obtain ⟨g259, hpg259⟩ := m255.openO (i := 27) rfl (Nat.lt_of_le_of_lt (Nat.zero_le _) hqs)
     revert Hz
     cases hpg259
     intro Hz
     refine goCh Hz (.c rfl (fun _ h_ => y_idxO h_ rfl rfl U29 fct23 (q) rfl hqs) <| .c rfl (fun _ h_ => y_loadO h_ m255 (i := 27) rfl rfl rfl hqs U3 rfl) .nil) fun Az Hz => ?_
     obtain ⟨nv, hnv⟩ : ∃ nv : Int, Ns.getD q 0 = nv := ⟨_, rfl⟩
     rw [hnv] at Hz
     refine gz hK28 Hz (.assign rfl .nil) fun Az Hz => ?_
     refine wsk fun K29 hK29 => ?_
     rcases pick_cases y L nv x0 x1 with hno | ⟨k, rfl, hk, hpk⟩ | ⟨k, mm, rfl, hk, hpk⟩
     ·
      refine wp_region_lit ?_
      refine goCh Hz (.loadBR m255 (i := 20) rfl rfl U33 rfl fct1 (by simp) (by dsimp only [List.drop, List.take] <;> rfl) <| .move rfl <| .move rfl <| .c rfl (fun _ h_ => y_idxA h_ rfl rfl U38 fct10 0 rfl (by decide) (off := 0) rfl) <| .lb m255 26 U2 rfl rfl rfl <| .c rfl (fun _ h_ => y_idxA h_ rfl rfl U38 fct10 1 rfl (by decide) (off := 1) rfl) <| .lb m255 26 U2 rfl rfl rfl .nil) fun Az Hz => ?_
      refine plz (ecl Hz Tryz.func19 rfl (gp_out _ y n hS hn _ _ _ _ _ _ _ L _ _ _ nv x0 x1 _ hno (m255.into [(3, 23), (4, 24)] (by decide) rfl)) ?_)
      rintro e w270 ⟨rfl, hm270⟩
      have mx270 := m255.back hm270 [(23, 3), (24, 4)] (by decide); clear hm270 m255
      have m270 := mx270.oz [23, 24, 20, 21, 22, 25, 26, 27]
      refine ⟨_, rfl, ?_⟩; intro Az Hz
      refine goCh Hz (.move rfl <| .extract rfl rfl <| .extract rfl rfl .nil) fun Az Hz => ?_
      refine plz (e_alloc Hz m270 400 fct17 rfl fun g275 Az w276 Hz m276 _ _ => ?_)
      refine plz (stw Hz m276 400 fct12 fun w277 m277 _ => ?_)
      refine gz hK29 Hz (.assign rfl .nil) fun Az Hz => ?_
      replace Hz := Hz.oz [5, 7, 18, 19, 104, 105, 106, 23, 168, 169, 170, 29, 30, 31]
      refine zsr fun K30 hK30 => ?_
      refine goCh Hz (.loadBR m277 (i := 20) rfl rfl U33 rfl fct1 (by simp) (by dsimp only [List.drop, List.take] <;> rfl) <| .move rfl <| .move rfl <| .c rfl (fun _ h_ => y_idxA h_ rfl rfl U38 fct10 0 rfl (by decide) (off := 0) rfl) <| .lb m277 26 U2 rfl rfl rfl <| .c rfl (fun _ h_ => y_idxA h_ rfl rfl U38 fct10 1 rfl (by decide) (off := 1) rfl) <| .lb m277 26 U2 rfl rfl rfl .nil) fun Az Hz => ?_
      refine plz (ecl Hz Tryz.func20 rfl (gr_out _ y n hS hn _ _ _ _ _ _ _ L _ _ _ nv x0 x1 _ (by omega) hno (m277.into [(3, 23), (4, 24)] (by decide) rfl)) ?_)
      rintro e w294 ⟨rfl, hm294⟩
      have mx294 := m277.back hm294 [(23, 3), (24, 4)] (by decide); clear hm294 m277
      have m294 := mx294.oz [23, 24, 20, 21, 22, 25, 26, 27, 400]
      refine ⟨_, rfl, ?_⟩; intro Az Hz
      refine goCh Hz (.move rfl <| .extract rfl rfl <| .extract rfl rfl .nil) fun Az Hz => ?_
      refine plz (e_alloc Hz m294 401 fct17 rfl fun g299 Az w300 Hz m300 _ _ => ?_)
      refine plz (stw Hz m300 401 fct12 fun w301 m301 _ => ?_)
      refine gz hK30 Hz (.assign rfl .nil) fun Az Hz => ?_
      replace Hz := Hz.oz [5, 7, 18, 19, 104, 105, 106, 23, 168, 169, 170, 30, 31, 32, 33]
      refine zsr fun K31 hK31 => ?_
      refine goCh Hz (.move rfl <| .move rfl <| .neqB rfl rfl U4 <| .move rfl .nil) fun Az Hz => ?_
      refine bc Hz 199 ?_ ?_
      · intro hb _; exact absurd hb (by simp)
      clear Hz; intro _ Hz
      refine goCh Hz (.loadBRZ m301 (i := 400) rfl rfl U28 rfl fct12 (by simp) (by dsimp only [List.drop, List.take] <;> rfl) .nil) fun Az Hz => ?_
      refine stz Hz (e_litR Hz m301 402 (mm := 7) rfl (.cons rfl rfl (.cons (.v _) (.cons (.v _) (.cons (.v _) (.cons (.v _) (.cons (.v _) (.cons (.v _) (.cons (.l0 _ _ 1) .nil))))))) .nil) U23 fct36 rfl rfl rfl rfl rfl fun g314 Az w315 Hz m315 => ?_)
      refine goCh Hz (.loadBRZ m315 (i := 401) rfl rfl U28 rfl fct12 (by simp) (by dsimp only [List.drop, List.take] <;> rfl) .nil) fun Az Hz => ?_
      refine stz Hz (e_litR Hz m315 403 (mm := 7) rfl (.cons rfl rfl (.cons (.v _) (.cons (.v _) (.cons (.v _) (.cons (.v _) (.cons (.v _) (.cons (.v _) (.cons (.l0 _ _ 1) .nil))))))) .nil) U23 fct36 rfl rfl rfl rfl rfl fun g317 Az w318 Hz m318 => ?_)
      have m319 := m318.freezeR 402 rfl
      have m320 := m319.freezeR 403 rfl
      refine stz Hz (ecl Hz Tryz.func21 rfl (chunks_one _ _ _ _ _ _ _ [] _ _ _ _ _ (by simp) (fun x hx => by cases hx) (m320.into [(1, 402), (2, 403)] (by decide) rfl)) ?_)
      rintro e w321 ⟨rfl, hm321⟩
      have mx321 := m320.back hm321 [] (by decide); clear hm321 m320
      have m321 := mx321.oz [20, 21, 22, 23, 24, 25, 26, 27, 400, 401]
      refine ⟨_, rfl, ?_⟩; intro Az Hz
      refine gz hK31 Hz (.notZ rfl <| .pickF rfl rfl <| .nil) fun Az Hz => ?_
      refine wcf Hz ?_
      refine zss (hK27 _ _ ?_)
      replace Hz := Hz.oz [5, 7, 18, 19, 104, 105, 106, 23, 168, 169, 170]
      refine wp_region_lit ?_
      refine goCh Hz (.inc (q + 1) <| .move rfl .nil) fun Az Hz => ?_
      refine wpList_nil ?_
      show ∃ n', n' < _ ∧ _
      exact ⟨2 - (q + 1), by omega, q + 1, _, _, _, _, _, _, _, _, _, _, _, _, _, _, Ns, by omega, rfl, hNs, Hz.only [5, 7, 18, 19, 104, 105, 106, 23, 168, 169, 170], m321.ren [(20, 20), (21, 21), (22, 22), (23, 23), (24, 24), (25, 25), (26, 26), (27, 27)] (by decide)⟩
     ·
      refine wp_region_lit ?_
      refine goCh Hz (.loadBR m255 (i := 20) rfl rfl U33 rfl fct1 (by simp) (by dsimp only [List.drop, List.take] <;> rfl) <| .move rfl <| .move rfl <| .c rfl (fun _ h_ => y_idxA h_ rfl rfl U38 fct10 0 rfl (by decide) (off := 0) rfl) <| .lb m255 26 U2 rfl rfl rfl <| .c rfl (fun _ h_ => y_idxA h_ rfl rfl U38 fct10 1 rfl (by decide) (off := 1) rfl) <| .lb m255 26 U2 rfl rfl rfl .nil) fun Az Hz => ?_
      refine plz (ecl Hz Tryz.func19 rfl (gp_none _ y n hS hn _ _ _ _ _ _ _ L _ _ _ k x0 x1 _ (by omega) hLo hk hpk (m255.into [(3, 23), (4, 24)] (by decide) rfl)) ?_)
      rintro e w335 ⟨rfl, hm335⟩
      have mx335 := m255.back hm335 [(23, 3), (24, 4)] (by decide); clear hm335 m255
      have m335 := mx335.oz [23, 24, 20, 21, 22, 25, 26, 27]
      refine ⟨_, rfl, ?_⟩; intro Az Hz
      refine goCh Hz (.move rfl <| .extract rfl rfl <| .extract rfl rfl .nil) fun Az Hz => ?_
      refine plz (e_alloc Hz m335 400 fct17 rfl fun g340 Az w341 Hz m341 _ _ => ?_)
      refine plz (stw Hz m341 400 fct12 fun w342 m342 _ => ?_)
      refine gz hK29 Hz (.assign rfl .nil) fun Az Hz => ?_
      replace Hz := Hz.oz [5, 7, 18, 19, 104, 105, 106, 23, 168, 169, 170, 29, 30, 31]
      refine zsr fun K32 hK32 => ?_
      refine goCh Hz (.loadBR m342 (i := 20) rfl rfl U33 rfl fct1 (by simp) (by dsimp only [List.drop, List.take] <;> rfl) <| .move rfl <| .move rfl <| .c rfl (fun _ h_ => y_idxA h_ rfl rfl U38 fct10 0 rfl (by decide) (off := 0) rfl) <| .lb m342 26 U2 rfl rfl rfl <| .c rfl (fun _ h_ => y_idxA h_ rfl rfl U38 fct10 1 rfl (by decide) (off := 1) rfl) <| .lb m342 26 U2 rfl rfl rfl .nil) fun Az Hz => ?_
      refine plz (ecl Hz Tryz.func20 rfl (gr_none _ y n hS hn _ _ _ _ _ _ _ L _ _ _ k x0 x1 _ (by omega) hLo hk hpk (m342.into [(3, 23), (4, 24)] (by decide) rfl)) ?_)
      rintro e w359 ⟨rfl, hm359⟩
      have mx359 := m342.back hm359 [(23, 3), (24, 4)] (by decide); clear hm359 m342
      have m359 := mx359.oz [23, 24, 20, 21, 22, 25, 26, 27, 400]
      refine ⟨_, rfl, ?_⟩; intro Az Hz
      refine goCh Hz (.move rfl <| .extract rfl rfl <| .extract rfl rfl .nil) fun Az Hz => ?_
      refine plz (e_alloc Hz m359 401 fct17 rfl fun g364 Az w365 Hz m365 _ _ => ?_)
      refine plz (stw Hz m365 401 fct12 fun w366 m366 _ => ?_)
      refine gz hK32 Hz (.assign rfl .nil) fun Az Hz => ?_
      replace Hz := Hz.oz [5, 7, 18, 19, 104, 105, 106, 23, 168, 169, 170, 30, 31, 32, 33]
      refine zsr fun K33 hK33 => ?_
      refine goCh Hz (.move rfl <| .move rfl <| .neqB rfl rfl U4 <| .move rfl .nil) fun Az Hz => ?_
      refine bc Hz 199 ?_ ?_
      · intro hb _; exact absurd hb (by simp)
      clear Hz; intro _ Hz
      refine goCh Hz (.loadBRZ m366 (i := 400) rfl rfl U28 rfl fct12 (by simp) (by dsimp only [List.drop, List.take] <;> rfl) .nil) fun Az Hz => ?_
      refine stz Hz (e_litR Hz m366 402 (mm := 7) rfl (.cons rfl rfl (.cons (.v _) (.cons (.v _) (.cons (.v _) (.cons (.v _) (.cons (.v _) (.cons (.v _) (.cons (.l0 _ _ 1) .nil))))))) .nil) U23 fct36 rfl rfl rfl rfl rfl fun g379 Az w380 Hz m380 => ?_)
      refine goCh Hz (.loadBRZ m380 (i := 401) rfl rfl U28 rfl fct12 (by simp) (by dsimp only [List.drop, List.take] <;> rfl) .nil) fun Az Hz => ?_
      refine stz Hz (e_litR Hz m380 403 (mm := 7) rfl (.cons rfl rfl (.cons (.v _) (.cons (.v _) (.cons (.v _) (.cons (.v _) (.cons (.v _) (.cons (.v _) (.cons (.l0 _ _ 1) .nil))))))) .nil) U23 fct36 rfl rfl rfl rfl rfl fun g382 Az w383 Hz m383 => ?_)
      have m384 := m383.freezeR 402 rfl
      have m385 := m384.freezeR 403 rfl
      refine stz Hz (ecl Hz Tryz.func21 rfl (chunks_one _ _ _ _ _ _ _ [] _ _ _ _ _ (by simp) (fun x hx => by cases hx) (m385.into [(1, 402), (2, 403)] (by decide) rfl)) ?_)
      rintro e w386 ⟨rfl, hm386⟩
      have mx386 := m385.back hm386 [] (by decide); clear hm386 m385
      have m386 := mx386.oz [20, 21, 22, 23, 24, 25, 26, 27, 400, 401]
      refine ⟨_, rfl, ?_⟩; intro Az Hz
      refine gz hK33 Hz (.notZ rfl <| .pickF rfl rfl <| .nil) fun Az Hz => ?_
      refine wcf Hz ?_
      refine zss (hK27 _ _ ?_)
      replace Hz := Hz.oz [5, 7, 18, 19, 104, 105, 106, 23, 168, 169, 170]
      refine wp_region_lit ?_
      refine goCh Hz (.inc (q + 1) <| .move rfl .nil) fun Az Hz => ?_
      refine wpList_nil ?_
      show ∃ n', n' < _ ∧ _
      exact ⟨2 - (q + 1), by omega, q + 1, _, _, _, _, _, _, _, _, _, _, _, _, _, _, Ns, by omega, rfl, hNs, Hz.only [5, 7, 18, 19, 104, 105, 106, 23, 168, 169, 170], m386.ren [(20, 20), (21, 21), (22, 22), (23, 23), (24, 24), (25, 25), (26, 26), (27, 27)] (by decide)⟩
     refine wp_region_lit ?_
     refine goCh Hz (.loadBR m255 (i := 20) rfl rfl U33 rfl fct1 (by simp) (by dsimp only [List.drop, List.take] <;> rfl) <| .move rfl <| .move rfl <| .c rfl (fun _ h_ => y_idxA h_ rfl rfl U38 fct10 0 rfl (by decide) (off := 0) rfl) <| .lb m255 26 U2 rfl rfl rfl <| .c rfl (fun _ h_ => y_idxA h_ rfl rfl U38 fct10 1 rfl (by decide) (off := 1) rfl) <| .lb m255 26 U2 rfl rfl rfl .nil) fun Az Hz => ?_
     refine plz (ecl Hz Tryz.func19 rfl (gp_one _ y n hS hn _ _ _ _ _ _ _ L _ _ _ k mm x0 x1 _ (by omega) hLo hk hpk (m255.into [(3, 23), (4, 24)] (by decide) rfl)) ?_)
     rintro e w400 ⟨p400, n400, c400, rfl, hm400⟩
     have mx400 := m255.back hm400 [(23, 3), (24, 4), (400, 9)] (by decide); clear hm400 m255
     have m400 := mx400.oz [23, 24, 400, 20, 21, 22, 25, 26, 27]
     refine ⟨_, rfl, ?_⟩; intro Az Hz
     refine goCh Hz (.move rfl <| .extract rfl rfl <| .extract rfl rfl .nil) fun Az Hz => ?_
     refine plz (e_alloc Hz m400 401 fct17 rfl fun g405 Az w406 Hz m406 _ _ => ?_)
     refine plz (stw Hz m406 401 fct12 fun w407 m407 _ => ?_)
     refine gz hK29 Hz (.assign rfl .nil) fun Az Hz => ?_
     replace Hz := Hz.oz [5, 7, 18, 19, 104, 105, 106, 23, 168, 169, 170, 29, 30, 31]
     refine zsr fun K34 hK34 => ?_
     refine goCh Hz (.loadBR m407 (i := 20) rfl rfl U33 rfl fct1 (by simp) (by dsimp only [List.drop, List.take] <;> rfl) <| .move rfl <| .move rfl <| .c rfl (fun _ h_ => y_idxA h_ rfl rfl U38 fct10 0 rfl (by decide) (off := 0) rfl) <| .lb m407 26 U2 rfl rfl rfl <| .c rfl (fun _ h_ => y_idxA h_ rfl rfl U38 fct10 1 rfl (by decide) (off := 1) rfl) <| .lb m407 26 U2 rfl rfl rfl .nil) fun Az Hz => ?_
     refine plz (ecl Hz Tryz.func20 rfl (gr_one _ y n hS hn _ _ _ _ _ _ _ L _ _ _ k mm x0 x1 _ (by omega) hLo hk hpk (m407.into [(3, 23), (4, 24)] (by decide) rfl)) ?_)
     rintro e w424 ⟨p424, n424, c424, rfl, hm424⟩
     have mx424 := m407.back hm424 [(23, 3), (24, 4), (402, 9)] (by decide); clear hm424 m407
     have m424 := mx424.oz [23, 24, 402, 20, 21, 22, 25, 26, 27, 400, 401]
     refine ⟨_, rfl, ?_⟩; intro Az Hz
     refine goCh Hz (.move rfl <| .extract rfl rfl <| .extract rfl rfl .nil) fun Az Hz => ?_
     refine plz (e_alloc Hz m424 403 fct17 rfl fun g429 Az w430 Hz m430 _ _ => ?_)
     refine plz (stw Hz m430 403 fct12 fun w431 m431 _ => ?_)
     refine gz hK34 Hz (.assign rfl .nil) fun Az Hz => ?_
     replace Hz := Hz.oz [5, 7, 18, 19, 104, 105, 106, 23, 168, 169, 170, 30, 31, 32, 33]
     refine zsr fun K35 hK35 => ?_
     refine goCh Hz (.move rfl <| .move rfl <| .neqB rfl rfl U4 <| .move rfl .nil) fun Az Hz => ?_
     refine bc Hz 199 ?_ ?_
     · intro hb _; exact absurd hb (by simp)
     clear Hz; intro _ Hz
     refine goCh Hz (.loadBRZ m431 (i := 401) rfl rfl U28 rfl fct12 (by simp) (by dsimp only [List.drop, List.take] <;> rfl) .nil) fun Az Hz => ?_
     refine stz Hz (e_litR Hz m431 404 (mm := 7) rfl (.cons rfl rfl (.cons (.v _) (.cons (.v _) (.cons (.v _) (.cons (.v _) (.cons (.v _) (.cons (.v _) (.cons (m431.rd (i := 400) rfl) .nil))))))) .nil) U23 fct36 rfl rfl rfl rfl rfl fun g444 Az w445 Hz m445 => ?_)
     refine goCh Hz (.loadBRZ m445 (i := 403) rfl rfl U28 rfl fct12 (by simp) (by dsimp only [List.drop, List.take] <;> rfl) .nil) fun Az Hz => ?_
     refine stz Hz (e_litR Hz m445 405 (mm := 7) rfl (.cons rfl rfl (.cons (.v _) (.cons (.v _) (.cons (.v _) (.cons (.v _) (.cons (.v _) (.cons (.v _) (.cons (m445.rd (i := 402) rfl) .nil))))))) .nil) U23 fct36 rfl rfl rfl rfl rfl fun g447 Az w448 Hz m448 => ?_)
     have m449 := m448.freezeR 404 rfl
     have m450 := m449.freezeR 405 rfl
     have hHB : HB 900000 (chN y (fnY y k) (cnY y k) mm) := chu_hb hF.wr hF.sz.2 (by have := (hLo _ (pkF_some hpk).2).2; dsimp only at this; omega)
     refine stz Hz (ecl Hz Tryz.func21 rfl (chunks_one _ _ _ _ _ _ _ (chN y (fnY y k) (cnY y k) mm) _ _ _ _ _ (by rw [chN_len]; have := (ckY hS hk).c256; omega) (fun x hx => (hHB.at hx).2.1) (m450.into [(1, 404), (2, 405)] (by decide) rfl)) ?_)
     rintro e w451 ⟨rfl, hm451⟩
     have mx451 := m450.back hm451 [] (by decide); clear hm451 m450
     have m451 := mx451.oz [20, 21, 22, 23, 24, 25, 26, 27, 400, 401, 402, 403]
     refine ⟨_, rfl, ?_⟩; intro Az Hz
     refine gz hK35 Hz (.notZ rfl <| .pickF rfl rfl <| .nil) fun Az Hz => ?_
     refine wcf Hz ?_
     refine zss (hK27 _ _ ?_)
     replace Hz := Hz.oz [5, 7, 18, 19, 104, 105, 106, 23, 168, 169, 170]
     refine wp_region_lit ?_
     refine goCh Hz (.inc (q + 1) <| .move rfl .nil) fun Az Hz => ?_
     refine wpList_nil ?_
     show ∃ n', n' < _ ∧ _
     exact ⟨2 - (q + 1), by omega, q + 1, _, _, _, _, _, _, _, _, _, _, _, _, _, _, Ns, by omega, rfl, hNs, Hz.only [5, 7, 18, 19, 104, 105, 106, 23, 168, 169, 170], m451.ren [(20, 20), (21, 21), (22, 22), (23, 23), (24, 24), (25, 25), (26, 26), (27, 27)] (by decide)⟩
    intro hb257 Hz; try simp only [QQ, Qax] at hb257
    refine wcf Hz ?_
    refine wp_exit ?_
    refine hK15 _ _ ?_
    refine wp_region_lit ?_
    refine goCh Hz (.inc (i + 1) <| .move rfl .nil) fun Az Hz => ?_
    refine wpList_nil ?_
    show ∃ n', n' < _ ∧ _
    exact ⟨3 - (i + 1), by omega, i + 1, _, _, _, _, _, _, _, _, _, _, _, by omega, rfl, Hz.only [5, 7, 18, 19, 104, 105, 106], m255.ren [(20, 20), (21, 21), (22, 22), (23, 23), (24, 24), (25, 25)] (by decide)⟩
   intro hb125 Hz; try simp only [QQ, Qax] at hb125
   refine wcf Hz ?_
   refine wp_exit ?_
   refine hK12 _ _ ?_
   refine regS Hz (.assign rfl .nil) fun Az Hz => ?_
   refine rt1 Hz ?_
   exact ⟨by (first | rfl | simp), m123.below⟩
 refine regS Hz (.assign rfl .nil) fun Az Hz => ?_
 refine wp_block ?_
 refine wp_loop_ghost (fun g a w => ∃ (i BV : Nat) (q1 q2 q3 : Option Addr) (d1 d2 d3 : Nat) (p9 : Option Addr) (c9 : Nat) (L : List (Nat × Nat)), i ≤ y.place.length ∧ g = y.place.length - i ∧ L.length ≤ 16 + i ∧ (∀ x ∈ L, x.1 < y.place.length ∧ x.2 ≤ y.ws.length) ∧ Has 209 [(2, .int .i64 fr0), (3, .int .i64 to0), (4, .int .u8 (n4 : Int)), (5, .int .u8 (n5 : Int)), (7, .int .i64 nz), (18, .pointer (some ⟨BV, 0, none⟩)), (19, .slice p9 ((L).map (ckD y)).length c9), (20, .int .i64 (i : Int))] a ∧ MemOk (cx (fun _ => True) w0) w0 [(20, .box BV 33 [.int .i64 y.vo, .int .i64 y.bl, .int .i64 y.sz, .int .i64 y.pe, .slice q1 y.place.length d1, .int .i64 y.to, .int .i64 y.ne, .bool y.hi, .int .i64 y.fl, .slice q2 y.pins.length d2, .slice q3 (y.ws.map wrD).length d3]), (21, .dat (.slice q1 y.place.length d1) (.ns .i64 y.place)), (22, .dat (.slice q2 y.pins.length d2) (.ns .i64 y.pins)), (23, .dat (.slice q3 (y.ws.map wrD).length d3) (.l 2 (y.ws.map wrD))), (9, .row (.slice p9 ((L).map (ckD y)).length c9) 28 7 ((L).map (ckD y)))] w) (y.place.length) ?_ ?_
 · exact ⟨0, _, _, _, _, _, _, _, _, _, L, Nat.zero_le _, rfl, by omega, hLo, Hz.only [2, 3, 4, 5, 7, 18, 19, 20], m86.ren [(20, 103), (21, 100), (22, 101), (23, 102), (9, 104)] (by decide)⟩
 clear Hz m86
 rintro g Az w462 ⟨i, BV, q1, q2, q3, d1, d2, d3, p9, c9, L, hil, hg, hLl, hLo, Hz, m462⟩
 refine wsk fun K36 hK36 => ?_
 refine zsr fun K37 hK37 => ?_
 refine goCh Hz (.move rfl <| .fa 4 rfl U33 <| .lb m462 20 U29 rfl rfl rfl <| .len rfl U29 <| .lss rfl rfl <| .move rfl .nil) fun Az Hz => ?_
 refine bc Hz 71 ?_ ?_
 ·
  intro hb475 Hz; try simp only [QQ, Qax] at hb475
  have hi : i < y.place.length := by have := hb475; first | omega | (simp at this; omega) | (simp at this; exact this)
  refine gz hK37 Hz (.moveZ rfl <| .remZ rfl rfl (by decide) rfl <| .gtrZ rfl rfl <| .pickT rfl rfl <| .nil) fun Az Hz => ?_
  refine bc Hz 75 ?_ ?_
  ·
   intro hb480 Hz; try simp only [QQ, Qax] at hb480
   refine wct Hz ?_
   refine zss (hK36 _ _ ?_)
   refine wsk fun K38 hK38 => ?_
   refine wp_block ?_
   replace Hz := Hz.oz [2, 3, 4, 5, 7, 18, 19, 20]
   refine wp_region_lit ?_
   refine goCh Hz (.move rfl <| .loadBR m462 (i := 20) rfl rfl U33 rfl fct1 (by simp) (by dsimp only [List.drop, List.take] <;> rfl) <| .move rfl .nil) fun Az Hz => ?_
   refine plz (ecl Hz Tryz.func12 rfl (zchunk_x _ y i (fnY y i) (cnY y i) (ckY hS hi) hF hS.1.its.1 _ _ _ _ _ _ _ _ _ (m462.into [(3, 23)] (by decide) rfl)) ?_)
   rintro e w485 ⟨m9, p485, c485, hm9, -, rfl, hm485⟩
   have mx485 := m462.back hm485 [(23, 3), (200, 9)] (by decide); clear hm485 m462
   have m485 := mx485.oz [23, 200, 9, 20, 21, 22]
   refine ⟨_, rfl, ?_⟩; intro Az Hz
   refine plz (e_litR Hz m485 201 (mm := 7) rfl (.cons rfl rfl (.cons (.v _) (.cons (.v _) (.cons (.v _) (.cons (.v _) (.cons (.v _) (.cons (.v _) (.cons (m485.rd (i := 200) rfl) .nil))))))) .nil) U23 fct36 rfl rfl rfl rfl rfl fun g487 Az w488 Hz m488 => ?_)
   have m490 := m488.freezeR 201 rfl
   refine plz (e_appR Hz m490 9 rfl rfl rfl (m490.rd (i := 201) rfl) U23 fct36 rfl rfl (by decide) (by simp; omega) rfl fun p489 c489 Az w491 Hz m491 => ?_)
   refine gz hK38 Hz (.assign rfl .nil) fun Az Hz => ?_
   replace Hz := Hz.oz [2, 3, 4, 5, 7, 18, 19, 20]
   refine wp_region_lit ?_
   refine goCh Hz (.move rfl <| .inc (i + 1) <| .assign rfl .nil) fun Az Hz => ?_
   refine wpList_nil ?_
   show ∃ n', n' < _ ∧ _
   have hE : ((L).map (ckD y)) ++ [[D.v (.int .i64 y.vo), .v (.int .i64 (i : Int)), .v (.int .i64 (cnY y i : Int)), .v (.int .i64 y.sz), .v (.int .i64 (m9 : Int)), .v (.int .i64 (min y.fl (m9 : Int))), .l 1 ((chN y (fnY y i) (cnY y i) m9).map hD)]] = ((L ++ [(i, m9)]).map (ckD y)) := by rw [List.map_append]; rfl
   rw [hE] at m491 Hz
   exact ⟨y.place.length - (i + 1), by omega, i + 1, _, _, _, _, _, _, _, _, _, L ++ [(i, m9)], by omega, rfl, by rw [List.length_append, List.length_singleton]; omega, lo_snoc hLo hi hm9, Hz.only [2, 3, 4, 5, 7, 18, 19, 20], m491.ren [(20, 20), (21, 21), (22, 22), (23, 23), (9, 9)] (by decide)⟩
  intro hb480 Hz; try simp only [QQ, Qax] at hb480
  refine wcf Hz ?_
  refine wp_exit ?_
  have m497 := m462.freezeR 9 rfl
  show K10 _ _
  exact hC10 _ _ ⟨_, _, _, _, _, _, _, _, _, L, by omega, hLo, Hz.only [2, 3, 4, 5, 7, 18, 19], m497.ren [(20, 20), (21, 21), (22, 22), (23, 23), (24, 9)] (by decide)⟩
 intro hb475 Hz; try simp only [QQ, Qax] at hb475
 refine gz hK37 Hz (.sk <| .sk <| .sk <| .pickF rfl rfl <| .nil) fun Az Hz => ?_
 refine wcf Hz ?_
 refine wp_exit ?_
 have m502 := m462.freezeR 9 rfl
 show K10 _ _
 exact hC10 _ _ ⟨_, _, _, _, _, _, _, _, _, L, by omega, hLo, Hz.only [2, 3, 4, 5, 7, 18, 19], m502.ren [(20, 20), (21, 21), (22, 22), (23, 23), (24, 9)] (by decide)⟩
end Go.Proofs.YtamjnimaeecmoaaGreat.K
