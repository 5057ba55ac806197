/- ExportWhich's walk. -/
import Derived.Test.YtamjnimaeecmoaaGreatExp5
import Derived.Test.YtamjnimaeecmoaaGreatExpT
import Derived.Test.YtamjnimaeecmoaaGreatG5
namespace Go.Proofs.YtamjnimaeecmoaaGreat.K
open Go.ChangeShapes Go.WideShapes Go.ChangeAt Go.RowKit
set_option linter.unusedVariables false
set_option linter.unusedSimpArgs false
theorem lo_snoc {y : VolV} {L : List (Nat × Nat)} {k m : Nat} (h : ∀ x ∈ L, x.1 < y.place.length ∧ x.2 ≤ y.ws.length) (hk : k < y.place.length) (hm : m ≤ y.ws.length) : ∀ x ∈ L ++ [(k, m)], x.1 < y.place.length ∧ x.2 ≤ y.ws.length := by
 intro x hx
 rcases List.mem_append.1 hx with h1 | h1
 · exact h x h1
 obtain rfl := List.mem_singleton.1 h1
 exact ⟨hk, hm⟩
theorem kk_at {x : Int} {d : Nat} (hx : 0 ≤ x) (hd : 0 < d) : ∃ k : Nat, x.tmod (d : Int) = (k : Int) ∧ k < d := by
 rw [Int.tmod_eq_emod_of_nonneg hx]
 have h1 := Int.emod_nonneg x (show (d : Int) ≠ 0 by omega)
 have h2 := Int.emod_lt_of_pos x (show (0 : Int) < (d : Int) by omega)
 exact ⟨(x % (d : Int)).toNat, by omega, by omega⟩
theorem whole_at {y : VolV} {n tn : Nat} {S : List (List Int)} (hS : VolS n y) (hn : n ≤ 1000) (hS9 : stL y.bl y.sz y.ws tn = S) (ht : tn ≤ 1000) : (S.length : Int) = y.bl ∧ StreamOk y.bl y.sz (-1) (tn : Int) (wholeI S S.length) := by
 have hF := hS.f hn
 have hb := hF.bl
 have hl : (S.length : Int) = y.bl := by rw [← hS9, stL_len]; omega
 have h := whole_ok hS hn hl (fun k hk => by rw [← hS9] at hk ⊢; exact stL_sz hS.1 tn k hk)
 exact ⟨hl, h.b, h.z, h.f, ⟨by omega, by omega⟩, by omega, h.l, h.i, h.len⟩
theorem app_ne {y : VolV} {Lm : List (Nat × Nat)} {j : Nat} (h : 0 < j) : Lm ++ allL y j ≠ [] := fun e => allL_ne (y := y) h (List.append_eq_nil_iff.1 e).2
theorem app_lo {y : VolV} {Lm : List (Nat × Nat)} (h : ∀ x ∈ Lm, x.1 < y.place.length ∧ x.2 ≤ y.ws.length) : ∀ x ∈ Lm ++ allL y y.place.length, x.1 < y.place.length ∧ x.2 ≤ y.ws.length := by
 intro x hx
 rcases List.mem_append.1 hx with h1 | h1
 · exact h x h1
 exact allL_lo x h1
set_option maxRecDepth 100000
set_option maxHeartbeats 4000000
theorem echunks_x (X : Cx) (y : VolV) (n : Nat) (hS : VolS n y) (hn : n ≤ 1000) (pp pn pw : Option Addr) (cp nn9 cn9 cw : Nat) (l2 : List Int) (p2 : Option Addr) (c2 : Nat) (w0 : World) (hlb2 : ∀ j, j < l2.length → 0 ≤ l2.getD j 0 ∧ l2.getD j 0 ≤ 255) (hl2 : l2.length ≤ 1000) (m0 : MemOk X w0 [(3, .dat (.slice pw (y.ws.map wrD).length cw) (.l 2 (y.ws.map wrD))), (5, .dat (.slice p2 l2.length c2) (.ns .u8 l2))] w0) :
   Calls Tryz.prog 11 #[.agg #[.int .i64 y.vo, .int .i64 y.bl, .int .i64 y.sz, .int .i64 y.pe, .slice pp y.place.length cp, .int .i64 y.to, .int .i64 y.ne, .bool y.hi, .int .i64 y.fl, .slice pn nn9 cn9, .slice pw (y.ws.map wrD).length cw], .slice p2 l2.length c2] w0 fun e w' => ∃ (L : List (Nat × Nat)) (p9 : Option Addr) (c9 : Nat), L.length = l2.length ∧ (∀ x ∈ L, x.1 < y.place.length ∧ x.2 ≤ y.ws.length) ∧ e = .returned (.slice p9 ((L).map (ckD y)).length c9) ∧ MemOk X w0 [(3, .dat (.slice pw (y.ws.map wrD).length cw) (.l 2 (y.ws.map wrD))), (5, .dat (.slice p2 l2.length c2) (.ns .u8 l2)), (9, .row (.slice p9 ((L).map (ckD y)).length c9) 28 7 ((L).map (ckD y)))] w' := by
 refine ent2 Tryz.func11 rfl Tryz.ntmps11 fun Az Hz => ?_
 have hF := hS.f hn
 have hpp := place_pos hS
 have hpt := place_top hS
 have hwl := hF.wl
 refine zsr fun K0 hK0 => ?_
 refine plz (e_box Hz m0 40 (cs := [_, _, _, _, _, _, _, _, _, _, _]) rfl rfl rfl fun g1 Az w2 Hz m2 _ _ => ?_)
 refine gz hK0 Hz (.assign rfl .nil) fun Az Hz => ?_
 refine regS Hz (.assign rfl .nil) fun Az Hz => ?_
 refine wsk fun K1 hK1 => ?_
 refine regS Hz (.assign rfl .nil) fun Az Hz => ?_
 refine wp_block ?_
 refine wp_loop_ghost (fun g a w => ∃ (i B2 : Nat) (L : List (Nat × Nat)) (p9 : Option Addr) (c9 : Nat), i ≤ l2.length ∧ g = l2.length - i ∧ L.length = i ∧ (∀ x ∈ L, x.1 < y.place.length ∧ x.2 ≤ y.ws.length) ∧ Has 38 [(1, .slice p2 l2.length c2), (2, .pointer (some ⟨B2, 0, none⟩)), (5, .slice p9 ((L).map (ckD y)).length c9), (6, .int .i64 (i : Int))] a ∧ MemOk X w0 [(3, .dat (.slice pw (y.ws.map wrD).length cw) (.l 2 (y.ws.map wrD))), (5, .dat (.slice p2 l2.length c2) (.ns .u8 l2)), (20, .box B2 33 [.int .i64 y.vo, .int .i64 y.bl, .int .i64 y.sz, .int .i64 y.pe, .slice pp y.place.length cp, .int .i64 y.to, .int .i64 y.ne, .bool y.hi, .int .i64 y.fl, .slice pn nn9 cn9, .slice pw (y.ws.map wrD).length cw]), (9, .row (.slice p9 ((L).map (ckD y)).length c9) 28 7 ((L).map (ckD y)))] w) (l2.length) ?_ ?_
 · have mz := m2.nilR 9 28 7
   exact ⟨0, _, [], _, _, Nat.zero_le _, rfl, rfl, (fun x hx => by cases hx), Hz.only [1, 2, 5, 6], mz.ren [(3, 3), (5, 5), (20, 40), (9, 9)] (by decide)⟩
 clear Hz m2
 rintro g Az w6 ⟨i, B2, L, p9, c9, hil, hg, hLl, hLo, Hz, m6⟩
 refine wsk fun K2 hK2 => ?_
 refine regS Hz (.move rfl <| .move rfl <| .len rfl U22 <| .lss rfl rfl .nil) fun Az Hz => ?_
 refine bc Hz 10 ?_ ?_
 ·
  intro hb11 Hz; try simp only [QQ, Qax] at hb11
  have hi : i < l2.length := by have := hb11; first | omega | (simp at this; omega) | (simp at this; exact this)
  refine wct Hz ?_
  refine zss (hK2 _ _ ?_)
  refine wsk fun K3 hK3 => ?_
  refine wp_block ?_
  obtain ⟨b12, o12, hp12, m12⟩ := m6.openN (i := 5) rfl (i) hi 100 rfl
  revert Hz
  cases hp12
  intro Hz
  obtain ⟨b13, o13, hp13, m13⟩ := m12.openN (i := 5) rfl (i) hi 101 rfl
  revert Hz
  cases hp13
  intro Hz
  obtain ⟨x9, hx9, hx90, hx91⟩ : ∃ x : Int, l2.getD i 0 = x ∧ 0 ≤ x ∧ x ≤ 255 := ⟨_, rfl, (hlb2 i hi).1, (hlb2 i hi).2⟩
  obtain ⟨kk, hkk9, hkk⟩ := kk_at (x := x9) (d := y.place.length) hx90 hpp
  obtain ⟨q9, hq9, hq90⟩ : ∃ q : Int, x9.tdiv 8 = q ∧ 0 ≤ q ∧ q ≤ 255 := ⟨_, rfl, by rw [Int.tdiv_eq_ediv_of_nonneg (by omega)]; omega⟩
  obtain ⟨v9, hv9, hv90⟩ := tm_at (x := q9) (d := (y.ws.length : Int) + 4) (by omega) (by omega)
  have m14 := m13.oz [3, 5, 9, 20, 100, 101]
  refine region_p 21 (B := [(3, _), (5, _), (9, _), (20, _), (100, _), (101, _)]) (m14.to ⟨il, il, il, il, il, il, trivial⟩) m14 (by kernel_rfl) (fun w15 hP15 m15 => ?_); clear m14
  refine goR hP15 [0, 1, 2, 3, 4, 5, 6, 7, 8, 9, 10, 11, 12, 13, 14, 15, 16, 17] [1, 5, 8, 14, 17] 18 0 262143 Hz (m15.to ⟨il, il, il, il, il, il, trivial⟩) (.move rfl <| .loadBR hh (i := 20) rfl rfl U33 rfl fct1 (by simp) (by dsimp only [List.drop, List.take] <;> rfl) <| .move rfl <| .move rfl <| .p (fun _ _ h_ => y_idx h_ rfl rfl U22 fct33 (i) rfl hi) <| .loadC0 hh (i := 100) rfl rfl U5 rfl <| .conv rfl U5 U3 (r := x9) (by rw [hx9]; exact IntWalk.i64_in _ (by omega)) <| .fa 4 rfl U33 <| .lb hh 20 U29 rfl rfl rfl <| .len rfl U29 <| .rem rfl rfl (by omega) (r := (kk : Int)) hkk9 <| .move rfl <| .move rfl <| .p (fun _ _ h_ => y_idx h_ rfl rfl U22 fct33 (i) rfl hi) <| .loadC0 hh (i := 101) rfl rfl U5 rfl <| .quo rfl rfl (by decide) (r := q9) (by rw [hx9, hq9]; exact IntWalk.u8_in _ (by omega)) <| .conv rfl U5 U2 (r := q9) (IntWalk.i64_in _ (by omega)) <| .loadBR hh (i := 20) rfl rfl U33 rfl fct1 (by simp) (by dsimp only [List.drop, List.take] <;> rfl) .nil) fun Az Hz => ?_
  refine so 18 ?_
  refine ecb Hz Tryz.func13 rfl m15 (rlen_y y _ _ _ _ _ _ _ _ _) fun Az w34 Hz m35 => ?_
  refine ⟨m35.to ⟨il, il, il, il, il, il, trivial⟩, ?_⟩
  refine goA hP15 [19, 20] 2 524287 2097151 Hz (m35.to ⟨il, il, il, il, il, il, trivial⟩) (.add rfl rfl (r := (y.ws.length : Int) + 4) (IntWalk.i64_in _ (by omega)) <| .rem rfl rfl (by omega) (r := v9) hv9 .nil) fun Az Hz => ?_
  refine se 21 ?_
  refine ecl Hz Tryz.func12 rfl (zchunk_x _ y kk (fnY y kk) (cnY y kk) (ckY hS hkk) hF hS.1.its.1 _ _ _ _ _ _ _ _ _ (m35.into [(3, 3)] (by decide) rfl)) ?_
  rintro e w39 ⟨m9, p39, c39, hm9, -, rfl, hm39⟩
  have mx39 := m35.back hm39 [(3, 3), (102, 9)] (by decide); clear hm39 m35
  have m39 := mx39.oz [3, 102, 5, 9, 20, 100, 101]
  refine ⟨_, rfl, ?_⟩; intro Az Hz
  refine se 22 ?_
  refine e_litR Hz m39 103 (mm := 7) rfl (.cons rfl rfl (.cons (.v _) (.cons (.v _) (.cons (.v _) (.cons (.v _) (.cons (.v _) (.cons (.v _) (.cons (m39.rd (i := 102) rfl) .nil))))))) .nil) U23 fct34 rfl rfl rfl rfl rfl fun g41 Az w42 Hz m42 => ?_
  have m44 := m42.freezeR 103 rfl
  refine se 23 ?_
  refine e_appR Hz m44 9 rfl rfl rfl (m44.rd (i := 103) rfl) U23 fct34 rfl rfl (by decide) (by simp; omega) rfl fun p43 c43 Az w45 Hz m45 => ?_
  refine goB hP15 [24] 1 16777215 33554431 Hz (.assign rfl .nil) fun Az Hz => ?_
  refine wpAnyE_done (by kernel_rfl) ?_ _
  refine hK3 _ _ ?_
  replace Hz := Hz.oz [1, 2, 5, 6]
  refine wp_region_lit ?_
  refine goCh Hz (.move rfl <| .inc (i + 1) <| .assign rfl .nil) fun Az Hz => ?_
  refine wpList_nil ?_
  show ∃ n', n' < _ ∧ _
  have hE : ((L).map (ckD y)) ++ [[D.v (.int .i64 y.vo), .v (.int .i64 (kk : Int)), .v (.int .i64 (cnY y kk : Int)), .v (.int .i64 y.sz), .v (.int .i64 (m9 : Int)), .v (.int .i64 (min y.fl (m9 : Int))), .l 1 ((chN y (fnY y kk) (cnY y kk) m9).map hD)]] = ((L ++ [(kk, m9)]).map (ckD y)) := by rw [List.map_append]; rfl
  rw [hE] at m45 Hz
  exact ⟨l2.length - (i + 1), by omega, i + 1, _, L ++ [(kk, m9)], _, _, by omega, rfl, by rw [List.length_append, hLl]; rfl, lo_snoc hLo hkk hm9, Hz.only [1, 2, 5, 6], m45.ren [(3, 3), (5, 5), (20, 20), (9, 9)] (by decide)⟩
 intro hb11 Hz; try simp only [QQ, Qax] at hb11
 obtain rfl : i = l2.length := by have := hb11; first | omega | (simp at this; omega) | (simp at this; exact this)
 refine wcf Hz ?_
 refine wp_exit ?_
 refine hK1 _ _ ?_
 refine regS Hz (.move rfl <| .assign rfl .nil) fun Az Hz => ?_
 refine rt1 Hz ?_
 exact ⟨L, _, _, hLl, hLo, rfl, m6.ren [(3, 3), (5, 5), (9, 9)] (by decide)⟩
theorem which_walk (l l2 : List Int) (pl p2 : Option Addr) (cl c2 n1 : Nat) (w0 : World) (hn1 : n1 ≤ 255) (h1 : Rd (fun _ => True) w0 (.slice pl l.length cl) (.ns .u8 l)) (hlb : ∀ j, j < l.length → 0 ≤ l.getD j 0 ∧ l.getD j 0 ≤ 255) (h2 : Rd (fun _ => True) w0 (.slice p2 l2.length c2) (.ns .u8 l2)) (hlb2 : ∀ j, j < l2.length → 0 ≤ l2.getD j 0 ∧ l2.getD j 0 ≤ 255) :
   Calls Tryz.prog 6 #[.slice pl l.length cl, .slice p2 l2.length c2, .int .u8 (n1 : Int)] w0 fun e w' => e = .returned (.bool true) ∧ Below w0.heap.size w0 w' := by
 refine ent3 Tryz.func6 rfl Tryz.ntmps6 fun Az Hz => ?_
 have m0 := (MemOk.start (fun _ => True) w0).dat 61 rfl (h2.cast (fun _ _ => free_nil (fun _ => trivial)))
 refine regS Hz (.assign rfl .nil) fun Az Hz => ?_
 refine wsk fun K0 hK0 => ?_
 refine zsr fun K1 hK1 => ?_
 refine plz (ecb Hz Tryz.func8 rfl m0 (eknown_x _) fun Az w2 Hz m3 => ?_)
 refine gz hK1 Hz (.not rfl .nil) fun Az Hz => ?_
 refine wcf Hz ?_
 refine zss (hK0 _ _ ?_)
 refine wsk fun K2 hK2 => ?_
 refine zsr fun K3 hK3 => ?_
 refine goCh Hz (.move rfl <| .len rfl U22 <| .gtr rfl rfl <| .move rfl .nil) fun Az Hz => ?_
 refine bc Hz 20 ?_ ?_
 ·
  intro hb14 Hz; try simp only [QQ, Qax] at hb14
  refine gz hK3 Hz (.sk <| .sk <| .sk <| .pickT rfl rfl <| .nil) fun Az Hz => ?_
  refine wct Hz ?_
  replace Hz := Hz.oz [0, 1, 2, 6]
  refine regS Hz (.assign rfl .nil) fun Az Hz => ?_
  refine rt1 Hz ?_
  exact ⟨by (first | rfl | simp), m3.below⟩
 intro hb14 Hz; try simp only [QQ, Qax] at hb14
 have hl60 : l.length ≤ 60 := by have := hb14; first | omega | (simp at this; omega) | (simp at this; exact this)
 refine gz hK3 Hz (.moveZ rfl <| .lenZ rfl U22 <| .gtrZ rfl rfl <| .pickF rfl rfl <| .nil) fun Az Hz => ?_
 refine bc Hz 24 ?_ ?_
 ·
  intro hb25 Hz; try simp only [QQ, Qax] at hb25
  refine wct Hz ?_
  replace Hz := Hz.oz [0, 1, 2, 6]
  refine regS Hz (.assign rfl .nil) fun Az Hz => ?_
  refine rt1 Hz ?_
  exact ⟨by (first | rfl | simp), m3.below⟩
 intro hb25 Hz; try simp only [QQ, Qax] at hb25
 have hl8 : l2.length ≤ 8 := by have := hb25; first | omega | (simp at this; omega) | (simp at this; exact this)
 refine wcf Hz ?_
 refine zss (hK2 _ _ ?_)
 replace Hz := Hz.oz [0, 1, 2, 6]
 refine zsr fun K4 hK4 => ?_
 refine goCh Hz (.move rfl .nil) fun Az Hz => ?_
 refine plz (ecl Hz Tryz.func10 rfl (svol_any l _ _ _ ((h1.now' m3 rfl).any) (by omega) hlb) ?_)
 rintro e w31 ⟨y, p131, p231, p331, d131, d231, d331, rfl, hS, hd31, he31, hf31, hb31⟩
 have m32 := m3.callF3 70 71 72 rfl rfl rfl hb31 hd31 he31 hf31
 clear hb31 hd31 he31 hf31
 obtain ⟨n, hn9⟩ : ∃ n, l.length = n := ⟨_, rfl⟩
 rw [hn9] at hS
 have hn : n ≤ 1000 := by omega
 have hF := hS.f hn
 have hpp := place_pos hS
 have hpt := place_top hS
 have hn80 : y.ws.length ≤ 60 := by have := hS.2.2.2.1; omega
 have hyb := hF.bl
 have hyz := hF.sz
 have hf0 := hF.fl0
 have hf1 := hF.fl1
 refine ⟨_, rfl, ?_⟩; intro Az Hz
 refine plz (e_alloc Hz m32 73 fct2 rfl fun g34 Az w35 Hz m35 _ _ => ?_)
 refine plz (stw Hz m35 73 fct1 fun w36 m36 _ => ?_)
 refine znl (hK4 _ _ ?_)
 refine wsk fun K5 hK5 => ?_
 refine regS Hz (.fa 7 rfl U33 <| .lb m36 73 U4 rfl rfl rfl .nil) fun Az Hz => ?_
 refine bc Hz 28 ?_ ?_
 ·
  intro hb39 Hz; try simp only [QQ, Qax] at hb39
  refine wct Hz ?_
  refine regS Hz (.assign rfl .nil) fun Az Hz => ?_
  refine rt1 Hz ?_
  exact ⟨by (first | rfl | simp), m36.below⟩
 intro hb39 Hz; try simp only [QQ, Qax] at hb39
 have hhi : y.hi = false := hb39
 refine wcf Hz ?_
 refine zss (hK5 _ _ ?_)
 refine wsk fun K6 hK6 => ?_
 obtain ⟨t9, ht9, ht0, ht1⟩ := rng_at (f := y.fl) (m := (y.ws.length : Int)) (x := (n1 : Int)) (by omega) (by omega)
 have m41 := m36.oz [61, 70, 71, 72, 73]
 refine region_p 13 (B := [(61, _), (70, _), (71, _), (72, _), (73, _)]) (m41.to ⟨il, il, il, il, il, trivial⟩) m41 (by kernel_rfl) (fun w42 hP42 m42 => ?_); clear m41
 refine goR hP42 [0, 1, 2, 3, 4, 6, 7] [1, 4, 7] 7 0 223 Hz (m42.to ⟨il, il, il, il, il, trivial⟩) (.fa 8 rfl U33 <| .lb hh 73 U2 rfl rfl rfl <| .move rfl <| .conv rfl U5 U2 (r := (n1 : Int)) (IntWalk.i64_in _ (by omega)) <| .loadBR hh (i := 73) rfl rfl U33 rfl fct1 (by simp) (by dsimp only [List.drop, List.take] <;> rfl) <| .fa 8 rfl U33 <| .lb hh 73 U2 rfl rfl rfl .nil) fun Az Hz => ?_
 refine so 5 ?_
 refine ecb Hz Tryz.func13 rfl m42 (rlen_y y _ _ _ _ _ _ _ _ _) fun Az w50 Hz m51 => ?_
 refine ⟨m51.to ⟨il, il, il, il, il, trivial⟩, ?_⟩
 refine goA hP42 [8, 9, 10, 11, 12] 5 255 8191 Hz (m51.to ⟨il, il, il, il, il, trivial⟩) (.sub rfl rfl (r := (y.ws.length : Int) - y.fl) (IntWalk.i64_in _ (by omega)) <| .add rfl rfl (r := (y.ws.length : Int) - y.fl + 1) (IntWalk.i64_in _ (by omega)) <| .rem rfl rfl (by omega) rfl <| .add rfl rfl (r := t9) (by rw [ht9]; exact IntWalk.i64_in _ (by omega)) <| .assign rfl .nil) fun Az Hz => ?_
 refine wpAnyE_done (by kernel_rfl) ?_ _
 refine hK6 _ _ ?_
 replace Hz := Hz.oz [1, 6, 7, 8]
 refine zsr fun K7 hK7 => ?_
 refine goCh Hz (.loadBR m51 (i := 73) rfl rfl U33 rfl fct1 (by simp) (by dsimp only [List.drop, List.take] <;> rfl) <| .move rfl .nil) fun Az Hz => ?_
 refine plz (ecl Hz Tryz.func11 rfl (echunks_x _ y n hS hn _ _ _ _ _ _ _ l2 _ _ _ hlb2 (by omega) (m51.into [(3, 72), (5, 61)] (by decide) rfl)) ?_)
 rintro e w63 ⟨Lm, p63, c63, hLm, hLo, rfl, hm63⟩
 have mx63 := m51.back hm63 [(72, 3), (61, 5), (74, 9)] (by decide); clear hm63 m51
 have m63 := mx63.oz [72, 61, 74, 70, 71, 73]
 refine ⟨_, rfl, ?_⟩; intro Az Hz
 refine gz hK7 Hz (.assign rfl .nil) fun Az Hz => ?_
 refine wsk fun K8 hK8 => ?_
 refine regS Hz (.assign rfl .nil) fun Az Hz => ?_
 refine wp_block ?_
 have hE0 : ((Lm).map (ckD y)) = ((Lm ++ allL y 0).map (ckD y)) := by rw [show allL y 0 = [] from rfl, List.append_nil]
 rw [hE0] at m63 Hz
 refine wp_loop_ghost (fun g a w => ∃ (i BV : Nat) (q1 q2 q3 : Option Addr) (d1 d2 d3 : Nat) (p9 : Option Addr) (c9 : Nat), i ≤ y.place.length ∧ g = y.place.length - i ∧ Has 78 [(7, .pointer (some ⟨BV, 0, none⟩)), (9, .slice p9 ((Lm ++ allL y i).map (ckD y)).length c9), (10, .int .i64 (i : Int)), (8, .int .i64 t9)] a ∧ MemOk (cx (fun _ => True) w0) w0 [(20, .box BV 33 [.int .i64 y.vo, .int .i64 y.bl, .int .i64 y.sz, .int .i64 y.pe, .slice q1 y.place.length d1, .int .i64 y.to, .int .i64 y.ne, .bool y.hi, .int .i64 y.fl, .slice q2 y.pins.length d2, .slice q3 (y.ws.map wrD).length d3]), (21, .dat (.slice q1 y.place.length d1) (.ns .i64 y.place)), (22, .dat (.slice q2 y.pins.length d2) (.ns .i64 y.pins)), (23, .dat (.slice q3 (y.ws.map wrD).length d3) (.l 2 (y.ws.map wrD))), (9, .row (.slice p9 ((Lm ++ allL y i).map (ckD y)).length c9) 28 7 ((Lm ++ allL y i).map (ckD y)))] w) (y.place.length) ?_ ?_
 · exact ⟨0, _, _, _, _, _, _, _, _, _, Nat.zero_le _, rfl, Hz.only [7, 9, 10, 8], m63.ren [(20, 73), (21, 70), (22, 71), (23, 72), (9, 74)] (by decide)⟩
 clear Hz m63
 rintro g Az w67 ⟨i, BV, q1, q2, q3, d1, d2, d3, p9, c9, hil, hg, Hz, m67⟩
 refine wsk fun K9 hK9 => ?_
 refine regS Hz (.move rfl <| .fa 4 rfl U33 <| .lb m67 20 U29 rfl rfl rfl <| .len rfl U29 <| .lss rfl rfl .nil) fun Az Hz => ?_
 refine bc Hz 48 ?_ ?_
 ·
  intro hb73 Hz; try simp only [QQ, Qax] at hb73
  have hi : i < y.place.length := by have := hb73; first | omega | (simp at this; omega) | (simp at this; exact this)
  refine wct Hz ?_
  refine zss (hK9 _ _ ?_)
  refine wsk fun K10 hK10 => ?_
  refine wp_block ?_
  refine wp_region_lit ?_
  refine goCh Hz (.move rfl <| .loadBR m67 (i := 20) rfl rfl U33 rfl fct1 (by simp) (by dsimp only [List.drop, List.take] <;> rfl) <| .move rfl .nil) fun Az Hz => ?_
  refine plz (ecl Hz Tryz.func12 rfl (eall_ck _ y n hS hn _ _ _ _ _ _ _ i 1000 _ hi (by omega) (m67.into [(3, 23)] (by decide) rfl)) ?_)
  rintro e w77 ⟨p77, c77, rfl, hm77⟩
  have mx77 := m67.back hm77 [(23, 3), (100, 9)] (by decide); clear hm77 m67
  have m77 := mx77.oz [23, 100, 9, 20, 21, 22]
  refine ⟨_, rfl, ?_⟩; intro Az Hz
  refine plz (e_litR Hz m77 101 (mm := 7) rfl (.cons rfl rfl (.cons (.v _) (.cons (.v _) (.cons (.v _) (.cons (.v _) (.cons (.v _) (.cons (.v _) (.cons (m77.rd (i := 100) rfl) .nil))))))) .nil) U23 fct34 rfl rfl rfl rfl rfl fun g79 Az w80 Hz m80 => ?_)
  have m82 := m80.freezeR 101 rfl
  refine plz (e_appR Hz m82 9 rfl rfl rfl (m82.rd (i := 101) rfl) U23 fct34 rfl rfl (by decide) (by have h9 := allL_len y i; simp at h9 ⊢; omega) rfl fun p81 c81 Az w83 Hz m83 => ?_)
  refine gz hK10 Hz (.assign rfl .nil) fun Az Hz => ?_
  replace Hz := Hz.oz [7, 9, 10, 8]
  refine wp_region_lit ?_
  refine goCh Hz (.move rfl <| .inc (i + 1) <| .assign rfl .nil) fun Az Hz => ?_
  refine wpList_nil ?_
  show ∃ n', n' < _ ∧ _
  have hE : ((Lm ++ allL y i).map (ckD y)) ++ [[D.v (.int .i64 y.vo), .v (.int .i64 (i : Int)), .v (.int .i64 (cnY y i : Int)), .v (.int .i64 y.sz), .v (.int .i64 (y.ws.length : Int)), .v (.int .i64 (min y.fl (y.ws.length : Int))), .l 1 ((chN y (fnY y i) (cnY y i) y.ws.length).map hD)]] = ((Lm ++ allL y (i + 1)).map (ckD y)) := by rw [allL_snoc, ← List.append_assoc, List.map_append (l₂ := [(i, y.ws.length)])]; rfl
  rw [hE] at m83 Hz
  exact ⟨y.place.length - (i + 1), by omega, i + 1, _, _, _, _, _, _, _, _, _, by omega, rfl, Hz.only [7, 9, 10, 8], m83.ren [(20, 20), (21, 21), (22, 22), (23, 23), (9, 9)] (by decide)⟩
 intro hb73 Hz; try simp only [QQ, Qax] at hb73
 obtain rfl : i = y.place.length := by have := hb73; first | omega | (simp at this; omega) | (simp at this; exact this)
 refine wcf Hz ?_
 refine wp_exit ?_
 refine hK8 _ _ ?_
 refine zsr fun K11 hK11 => ?_
 refine goCh Hz (.loadBR m67 (i := 20) rfl rfl U33 rfl fct1 (by simp) (by dsimp only [List.drop, List.take] <;> rfl) <| .move rfl <| .move rfl .nil) fun Az Hz => ?_
 have m95 := m67.freezeR 9 rfl
 refine plz (ecl Hz Tryz.func14 rfl (efull_n _ y n hS hn _ _ _ _ _ _ _ (Lm ++ allL y y.place.length) _ _ _ t9 _ (by rw [List.length_append, allL_len]; omega) (app_lo hLo) (.inr ⟨app_ne hpp, fun h1 h2 k hk => ⟨_, List.mem_append.2 (.inr (allL_mem hk)), by omega, by omega⟩⟩) (m95.into [(3, 23), (4, 9)] (by decide) rfl)) ?_)
 rintro e w96 ⟨ea, bla, sza, fra, ta, itsa, p96, c96, hEa, rfl, hm96⟩
 have mx96 := m95.back hm96 [(23, 3), (9, 4), (100, 9)] (by decide); clear hm96 m95
 have m96 := mx96.oz [23, 9, 100, 20, 21, 22]
 refine ⟨_, rfl, ?_⟩; intro Az Hz
 obtain ⟨tn, htn⟩ : ∃ tn : Nat, t9 = (tn : Int) := ⟨t9.toNat, by omega⟩
 obtain ⟨S, hS9⟩ : ∃ S, stL y.bl y.sz y.ws tn = S := ⟨_, rfl⟩
 obtain ⟨hSl, hso9⟩ := whole_at hS hn hS9 (by omega)
 have hra : ea = 0 ∧ bla = y.bl ∧ sza = y.sz ∧ fra = -1 ∧ ta = (tn : Int) ∧ itsa = wholeI S S.length := by
   rcases hEa with ⟨h1, -⟩ | ⟨-, h1, -⟩ | ⟨-, -, h1, -⟩ | ⟨-, -, -, h1, -⟩ | ⟨-, -, -, -, h1, h2, h3, h4, h5, h6⟩
   · rw [hhi] at h1; cases h1
   · omega
   · omega
   · exact absurd h1 (app_ne hpp)
   exact ⟨h1, h2, h3, h4, by rw [h5, htn], by rw [h6, htn, Int.toNat_natCast, hS9, show y.bl.toNat = S.length by omega]⟩
 revert Hz
 obtain ⟨ha1, ha2, ha3, ha4, ha5, rfl⟩ := hra
 intro Hz
 have hso : StreamOk bla sza fra ta (wholeI S S.length) := by rw [ha2, ha3, ha4, ha5]; exact hso9
 refine goCh Hz (.move rfl <| .extract rfl rfl <| .extract rfl rfl .nil) fun Az Hz => ?_
 refine plz (e_alloc Hz m96 101 fct38 rfl fun g101 Az w102 Hz m102 _ _ => ?_)
 refine plz (stw Hz m102 101 fct37 fun w103 m103 _ => ?_)
 refine gz hK11 Hz (.assign rfl .nil) fun Az Hz => ?_
 replace Hz := Hz.oz [7, 9, 10, 8, 11, 12]
 refine zsr fun K12 hK12 => ?_
 refine goCh Hz (.loadBR m103 (i := 20) rfl rfl U33 rfl fct1 (by simp) (by dsimp only [List.drop, List.take] <;> rfl) <| .move rfl .nil) fun Az Hz => ?_
 refine plz (ecl Hz Tryz.func23 rfl (rstate_q _ y hF hS.1.its.1 _ _ _ _ _ _ _ _ _ tn htn _ (fun b hb => (List.not_mem_nil (a := b)) hb) (by omega) (by omega) (m103.into [(3, 23)] (by decide) rfl)) ?_)
 rintro e w110 ⟨p110, c110, rfl, hm110⟩
 have mx110 := m103.back hm110 [(23, 3), (102, 9)] (by decide); clear hm110 m103
 have m110 := mx110.oz [23, 102, 9, 20, 21, 22, 100, 101]
 refine ⟨_, rfl, ?_⟩; intro Az Hz
 rw [hS9] at m110 Hz
 refine gz hK12 Hz (.move rfl <| .extract rfl rfl <| .extract rfl rfl <| .assign rfl <| .assign rfl <| .nil) fun Az Hz => ?_
 replace Hz := Hz.oz [7, 9, 10, 8, 11, 12, 13]
 refine zsr fun K13 hK13 => ?_
 refine goCh Hz (.move rfl <| .eql rfl rfl <| .move rfl .nil) fun Az Hz => ?_
 refine bc Hz 72 ?_ ?_
 rotate_left
 · intro hb _; exact absurd hb (by simp [ha1])
 clear Hz; intro _ Hz
 refine goCh Hz (.loadBRZ m110 (i := 101) rfl rfl U42 rfl fct37 (by simp) (by dsimp only [List.drop, List.take] <;> rfl) .nil) fun Az Hz => ?_
 refine stz Hz (ecl Hz Tryz.func25 rfl (rblocks_any _ _ _ _ _ S _ _ _ hso ha4 (m110.into [(3, 100)] (by decide) rfl)) ?_)
 rintro e w126 ⟨p126, c126, rfl, hm126⟩
 have mx126 := m110.back hm126 [(100, 3), (103, 9)] (by decide); clear hm126 m110
 have m126 := mx126.oz [100, 103, 9, 20, 21, 22, 23, 101, 102]
 refine ⟨_, rfl, ?_⟩; intro Az Hz
 refine goCh Hz (.moveZ rfl .nil) fun Az Hz => ?_
 refine stz Hz (ecb Hz Tryz.func24 rfl m126 (bodies_any S _ _ _ _ _ _ _ (m126.rd (i := 103) rfl).any (m126.rd (i := 102) rfl).any (by omega)) fun Az w129 Hz m130 => ?_)
 refine gz hK13 Hz (.pickT rfl rfl <| .assign rfl <| .nil) fun Az Hz => ?_
 refine rt1 Hz ?_
 exact ⟨by (first | rfl | simp), m130.below⟩
end Go.Proofs.YtamjnimaeecmoaaGreat.K
