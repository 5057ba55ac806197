/- chain: the streams of a volume of numbers. -/
import Derived.Test.YtcccomafnmdlfaaDoorCha3m
namespace Go.Proofs.YtcccomafnmdlfaaDoor.K
open Go.ChangeShapes Go.WideShapes Go.ChangeAt Go.RowKit
set_option linter.unusedVariables false
set_option linter.unusedSimpArgs false
theorem fl38cst : flatS Tryd.prog 38 [.int .i64 0, .int .i64 0, .int .i64 0, .int .i64 0, .slice none 0 0] = true := by kernel_rfl
theorem fl48cst : flatS Tryd.prog 48 [.int .i64 0, .slice none 0 0] = true := by kernel_rfl
theorem time_at {x : Int} {a n : Nat} (hx : 0 ≤ x) (ha : a ≤ n) : ∃ t : Nat, (a : Int) + x.tmod ((n : Int) - (a : Int) + 1) = (t : Int) ∧ a ≤ t ∧ t ≤ n := by
 rw [Int.tmod_eq_emod_of_nonneg hx]
 have h1 := Int.emod_nonneg x (show (n : Int) - (a : Int) + 1 ≠ 0 by omega)
 have h2 := Int.emod_lt_of_pos x (show (0 : Int) < (n : Int) - (a : Int) + 1 by omega)
 exact ⟨((a : Int) + x % ((n : Int) - (a : Int) + 1)).toNat, by omega, by omega, by omega⟩
set_option maxRecDepth 100000
set_option maxHeartbeats 4000000
theorem rstate_g (X : Cx) (y : VolV) (n : Nat) (hS : VolS n y) (hn : n ≤ 1000) (pp pn pw : Option Addr) (np cp nn cn9 cw : Nat) (fl tv : Int) (t : Nat) (htt : tv = t) (w0 : World) (hX : ∀ b, b ∉ X.bad) (ht0 : fl ≤ tv) (ht1 : t ≤ y.ws.length) (m0 : MemOk X w0 [(3, .dat (.slice pw (y.ws.map wrD).length cw) (.l 2 (y.ws.map wrD)))] w0) :
   Calls Tryd.prog 17 #[.agg #[.int .i64 y.vo, .int .i64 y.bl, .int .i64 y.sz, .int .i64 y.pe, .slice pp np cp, .int .i64 y.to, .int .i64 y.ne, .bool y.hi, .int .i64 fl, .slice pn nn cn9, .slice pw (y.ws.map wrD).length cw], .int .i64 tv] w0 fun e w' => ∃ p c, e = .returned (.tuple #[.slice p ((stL y.bl y.sz y.ws t).map bD).length c, .int .i64 0]) ∧ MemOk X w0 [(3, .dat (.slice pw (y.ws.map wrD).length cw) (.l 2 (y.ws.map wrD))), (9, .dat (.slice p ((stL y.bl y.sz y.ws t).map bD).length c) (.l 1 ((stL y.bl y.sz y.ws t).map bD)))] w' := by
 subst htt
 have hV := hS.1
 obtain ⟨v1, v2, v3, v4, v5, v6, v7, v8, v9⟩ := hV
 obtain ⟨n1, n2, n3, n4, n5, n6, n7, n8, n9, n10, n11⟩ := v1
 have hsm := hS.sm
 have hb := hS.1.dsz
 have h := rstate_any X y.vo y.bl y.sz y.pe y.to y.ne fl y.hi pp pn pw np cp nn cn9 cw y.ws t y.bl.toNat y.sz.toNat w0 hX (by omega) hS.1.its.1 (fun e he x hx => by have := (hb e he x hx).1; omega) (by omega) (by omega) ht0 ht1 m0
 rw [show ((y.bl.toNat : Nat) : Int) = y.bl by omega, show ((y.sz.toNat : Nat) : Int) = y.sz by omega] at h
 exact h
theorem streams_any (l ts : List Int) (pl pt0 : Option Addr) (cl ct0 : Nat) (w0 : World) (h1 : Rd (fun _ => True) w0 (.slice pl l.length cl) (.ns .u8 l)) (h2 : Rd (fun _ => True) w0 (.slice pt0 ts.length ct0) (.ns .u8 ts)) (hl80 : l.length ≤ 80) (hlb : ∀ j, j < l.length → 0 ≤ l.getD j 0 ∧ l.getD j 0 ≤ 255) (ht8 : ts.length ≤ 8) (htb : ∀ j, j < ts.length → 0 ≤ ts.getD j 0 ∧ ts.getD j 0 ≤ 255) :
   Calls Tryd.prog 5 #[.slice pl l.length cl, .slice pt0 ts.length ct0] w0 fun e w' => ∃ (y : VolV) (ss : List StrV) (p pp pn pw : Option Addr) (c np cp nn cn9 cw : Nat), e = .returned (.tuple #[.slice p ss.length c, .agg #[.int .i64 y.vo, .int .i64 y.bl, .int .i64 y.sz, .int .i64 y.pe, .slice pp np cp, .int .i64 y.to, .int .i64 y.ne, .bool y.hi, .int .i64 0, .slice pn nn cn9, .slice pw (y.ws.map wrD).length cw]]) ∧ VolS l.length y ∧ ss.length = ts.length ∧ SegCh y (-1) ss ∧ Rd (New w0) w' (.slice p ss.length c) (.l 5 (ss.map strD)) ∧ Rd (New w0) w' (.slice pw (y.ws.map wrD).length cw) (.l 2 (y.ws.map wrD)) ∧ Below w0.heap.size w0 w' := by
 refine ent2 Tryd.func5 rfl Tryd.ntmps5 fun Az Hz => ?_
 have m0 := MemOk.start (fun _ => False) w0
 refine zsr fun K0 hK0 => ?_
 refine goCh Hz (.assign rfl .nil) fun Az Hz => ?_
 refine plz (e_alloc Hz m0 70 fct11 rfl fun g3 Az w4 Hz m4 _ _ => ?_)
 refine znl (hK0 _ _ ?_)
 refine zsr fun K1 hK1 => ?_
 refine goCh Hz (.move rfl .nil) fun Az Hz => ?_
 refine plz (ecl Hz Tryd.func15 rfl (svol_any l _ _ _ ((h1.now' m4 rfl).any) (by omega) hlb) ?_)
 rintro e w7 ⟨y, p17, p27, p37, d17, d27, d37, rfl, hS, hd7, he7, hf7, hb7⟩
 have m8 := m4.callF3 71 72 73 rfl rfl rfl hb7 hd7 he7 hf7
 clear hb7 hd7 he7 hf7
 have hS0 := hS
 obtain ⟨hpl, hpn, hws, hwi⟩ := hS.sm
 obtain ⟨hV, hh0, hpn9, hws9, hwb9⟩ := hS0
 have hV9 := hV
 obtain ⟨v1, v2, v3, v4, v5, v6, v7, v8, v9⟩ := hV9
 have v0 := v1
 obtain ⟨n1, n2, n3, n4, n5, n6, n7, n8, n9, n10, n11⟩ := v0
 have hwo := hV.its
 refine ⟨_, rfl, ?_⟩; intro Az Hz
 refine plz (e_alloc Hz m8 74 fct11 rfl fun g10 Az w11 Hz m11 _ _ => ?_)
 refine plz (stw Hz m11 74 fct10 fun w12 m12 _ => ?_)
 refine znl (hK1 _ _ ?_)
 refine zsr fun K2 hK2 => ?_
 refine goCh Hz (.fieldAddr (off := 8) rfl U31 rfl (s := 0) (by kernel_rfl) rfl .nil) fun Az Hz => ?_
 refine plz (st1 Hz m12 74 fct14 fun w15 m15 _ => ?_)
 refine znl (hK2 _ _ ?_)
 refine regS Hz (.assign rfl .nil) fun Az Hz => ?_
 refine regS Hz (.assign rfl .nil) fun Az Hz => ?_
 refine wsk fun K3 hK3 => ?_
 refine regS Hz (.assign rfl .nil) fun Az Hz => ?_
 refine wp_block ?_
 refine wp_loop_ghost (fun g a w => ∃ (i : Nat) (out : List StrV) (B5 B6 : Nat) (pt pp pn pw p : Option Addr) (ct np cp nn cn9 cw c : Nat), i ≤ ts.length ∧ g = ts.length - i ∧ out.length = i ∧ SegCh y (-1) out ∧ Rd (fun _ => True) w0 (.slice pt ts.length ct) (.ns .u8 ts) ∧ Has 112 [(1, .slice pt ts.length ct), (5, .pointer (some ⟨B5, 0, none⟩)), (6, .pointer (some ⟨B6, 0, none⟩)), (7, .slice p (out.map strD).length c), (8, .int .i64 (endT (-1) out)), (9, .int .i64 (i : Int))] a ∧ MemOk (cn w0) w0 [(5, .box B5 31 [.int .i64 0, .int .i64 0, .int .i64 0, .int .i64 0, .slice none 0 0, .int .i64 0, .int .i64 0, .bool false, .int .i64 0, .slice none 0 0, .slice none 0 0]), (6, .box B6 31 [.int .i64 y.vo, .int .i64 y.bl, .int .i64 y.sz, .int .i64 y.pe, .slice pp np cp, .int .i64 y.to, .int .i64 y.ne, .bool y.hi, .int .i64 0, .slice pn nn cn9, .slice pw (y.ws.map wrD).length cw]), (3, .dat (.slice pw (y.ws.map wrD).length cw) (.l 2 (y.ws.map wrD))), (7, .row (.slice p (out.map strD).length c) 38 5 (out.map strD))] w) (ts.length) ?_ ?_
 · have mz := m15.nilR 7 38 5
   exact ⟨0, [], _, _, _, _, _, _, _, _, _, _, _, _, _, _, Nat.zero_le _, rfl, rfl, trivial, h2, Hz.only [1, 5, 6, 7, 8, 9], mz.ren [(5, 70), (6, 74), (3, 73), (7, 7)] (by decide)⟩
 clear Hz m15
 rintro g Az w19 ⟨i, out, B5, B6, pt, pp, pn, pw, p, ct, np, cp, nn, cn9, cw, c, hil, hg, hol, hsg, h2b, Hz, m19⟩
 refine wsk fun K4 hK4 => ?_
 refine regS Hz (.move rfl <| .move rfl <| .len rfl U22 <| .lss rfl rfl .nil) fun Az Hz => ?_
 refine bc Hz 25 ?_ ?_
 ·
  intro hb24 Hz; try simp only [QQ, Qax] at hb24
  have hi : i < ts.length := by have := hb24; first | omega | (simp at this; omega)
  have htb9 := htb i hi
  obtain ⟨hla0, hla1, hla2⟩ := hsg.end_bd (by omega) (by omega)
  obtain ⟨t, htt, hta, htw⟩ : ∃ t : Nat, (((endT (-1) out).toNat : Nat) : Int) + (ts.getD i 0).tmod ((y.ws.length : Int) - (((endT (-1) out).toNat : Nat) : Int) + 1) = (t : Int) ∧ (endT (-1) out).toNat ≤ t ∧ t ≤ y.ws.length := time_at htb9.1 (by omega)
  refine wct Hz ?_
  refine zss (hK4 _ _ ?_)
  refine wsk fun K5 hK5 => ?_
  refine wp_block ?_
  refine wsk fun K6 hK6 => ?_
  obtain ⟨gx26, ox26, hp26, hl26, hrg26⟩ := h2b.extN (i) hi
  revert Hz
  cases hp26
  intro Hz
  have m27 := m19.oz [3, 5, 6, 7]
  refine region_p 16 (B := [(3, _), (5, _), (6, _), (7, _)]) (m27.to ⟨il, il, il, il, trivial⟩) m27 (by kernel_rfl) (fun w28 hP28 m28 => ?_); clear m27
  refine goR hP28 [0, 1, 2, 3, 4, 5, 6, 7, 9, 10] [5, 7] 10 0 1791 Hz (m28.to ⟨il, il, il, il, trivial⟩) (.move rfl <| .p (fun _ _ h => y_max h rfl rfl (r := (((endT (-1) out).toNat : Nat) : Int)) (by omega)) <| .move rfl <| .move rfl <| .p (fun _ _ h => y_idx h rfl rfl U22 fct7 (i) rfl hi) <| .loadAt1 (fun _ h => (hrg26 h rfl)) (q := 0) rfl rfl rfl U5 rfl <| .conv rfl U5 U2 (IntWalk.i64_in _ (by omega)) <| .loadBR hh (i := 6) rfl rfl U31 rfl fct10 (by simp) (by dsimp only [List.drop, List.take] <;> rfl) <| .move rfl <| .p (fun _ _ h => y_max h rfl rfl (r := (((endT (-1) out).toNat : Nat) : Int)) (by omega)) .nil) fun Az Hz => ?_
  refine so 8 ?_
  refine ecb Hz Tryd.func16 rfl m28 (rlen_w _ _ _ _ _ _ _ _ _ _ _ _ _ _ _ y.ws _ _) fun Az w39 Hz m40 => ?_
  refine ⟨m40.to ⟨il, il, il, il, trivial⟩, ?_⟩
  refine goA hP28 [11, 12, 13, 14, 15] 5 2047 65535 Hz (m40.to ⟨il, il, il, il, trivial⟩) (.sub rfl rfl (r := (y.ws.length : Int) - (((endT (-1) out).toNat : Nat) : Int)) (IntWalk.i64_in _ (by omega)) <| .add rfl rfl (r := (y.ws.length : Int) - (((endT (-1) out).toNat : Nat) : Int) + 1) (IntWalk.i64_in _ (by omega)) <| .rem rfl rfl (by omega) rfl <| .add rfl rfl (r := (t : Int)) (by rw [htt]; exact IntWalk.i64_in _ (by omega)) <| .assign rfl .nil) fun Az Hz => ?_
  refine wpAnyE_done (by kernel_rfl) ?_ _
  refine hK6 _ _ ?_
  replace Hz := Hz.oz [1, 5, 6, 7, 8, 9, 31, 10]
  refine zsr fun K7 hK7 => ?_
  refine goCh Hz (.fa 1 rfl U31 <| .lb m40 6 U3 rfl rfl rfl <| .fa 2 rfl U31 <| .lb m40 6 U3 rfl rfl rfl <| .move rfl <| .move rfl <| .build rfl fct17 fl38cst rfl (by dsimp only [setL, List.set] <;> rfl) .nil) fun Az Hz => ?_
  refine plz (e_alloc Hz m40 100 fct17 rfl fun g62 Az w63 Hz m63 _ _ => ?_)
  refine plz (stw Hz m63 100 fct2 fun w64 m64 _ => ?_)
  refine znl (hK7 _ _ ?_)
  replace Hz := Hz.oz [1, 5, 6, 7, 8, 9, 31, 10, 11]
  refine zsr fun K8 hK8 => ?_
  refine goCh Hz (.loadBR m64 (i := 6) rfl rfl U31 rfl fct10 (by simp) (by dsimp only [List.drop, List.take] <;> rfl) <| .move rfl .nil) fun Az Hz => ?_
  refine plz (ecl Hz Tryd.func17 rfl (rstate_g _ y _ hS (by omega) _ _ _ _ _ _ _ _ 0 _ t rfl _ (fun b hb => (List.not_mem_nil (a := b)) hb) (by omega) htw (m64.into [(3, 3)] (by decide) rfl)) ?_)
  rintro e w70 ⟨p70, c70, rfl, hm70⟩
  have mx70 := m64.back hm70 [(3, 3), (101, 9)] (by decide); clear hm70 m64
  have m70 := mx70.oz [3, 101, 5, 6, 7, 100]
  refine ⟨_, rfl, ?_⟩; intro Az Hz
  obtain ⟨S, hS9⟩ : ∃ S, stL y.bl y.sz y.ws t = S := ⟨_, rfl⟩
  have hSl : S.length = y.bl.toNat := by rw [← hS9, stL_len]
  rw [hS9] at m70 Hz
  refine gz hK8 Hz (.move rfl <| .extract rfl rfl <| .extract rfl rfl <| .assign rfl <| .assign rfl <| .nil) fun Az Hz => ?_
  refine wsk fun K9 hK9 => ?_
  replace Hz := Hz.oz [1, 5, 6, 7, 8, 9, 31, 10, 11, 12]
  refine regS Hz (.assign rfl .nil) fun Az Hz => ?_
  refine wp_block ?_
  refine wp_loop_ghost (fun g a w => ∃ (k : Nat) (B5 B6 : Nat) (pt pp pn pw p : Option Addr) (ct np cp nn cn9 cw c : Nat) (B11 : Nat) (q9 pa : Option Addr) (c9 ca : Nat), k ≤ y.bl.toNat ∧ g = y.bl.toNat - k ∧ Rd (fun _ => True) w0 (.slice pt ts.length ct) (.ns .u8 ts) ∧ Has 112 [(1, .slice pt ts.length ct), (5, .pointer (some ⟨B5, 0, none⟩)), (6, .pointer (some ⟨B6, 0, none⟩)), (7, .slice p (out.map strD).length c), (8, .int .i64 (endT (-1) out)), (9, .int .i64 (i : Int)), (10, .int .i64 (t : Int)), (11, .pointer (some ⟨B11, 0, none⟩)), (12, .slice pa (S.map bD).length ca), (14, .int .i64 (k : Int))] a ∧ MemOk (cn w0) w0 [(5, .box B5 31 [.int .i64 0, .int .i64 0, .int .i64 0, .int .i64 0, .slice none 0 0, .int .i64 0, .int .i64 0, .bool false, .int .i64 0, .slice none 0 0, .slice none 0 0]), (6, .box B6 31 [.int .i64 y.vo, .int .i64 y.bl, .int .i64 y.sz, .int .i64 y.pe, .slice pp np cp, .int .i64 y.to, .int .i64 y.ne, .bool y.hi, .int .i64 0, .slice pn nn cn9, .slice pw (y.ws.map wrD).length cw]), (3, .dat (.slice pw (y.ws.map wrD).length cw) (.l 2 (y.ws.map wrD))), (7, .row (.slice p (out.map strD).length c) 38 5 (out.map strD)), (11, .box B11 38 [.int .i64 y.bl, .int .i64 y.sz, .int .i64 (endT (-1) out), .int .i64 (t : Int), .slice q9 ((segIt y (endT (-1) out) t k).map itD).length c9]), (22, .row (.slice q9 ((segIt y (endT (-1) out) t k).map itD).length c9) 48 2 ((segIt y (endT (-1) out) t k).map itD)), (21, .dat (.slice pa (S.map bD).length ca) (.l 1 (S.map bD)))] w) (y.bl.toNat) ?_ ?_
  · have mz := m70.nilR 22 48 2
    exact ⟨0, _, _, _, _, _, _, _, _, _, _, _, _, _, _, _, _, _, _, _, Nat.zero_le _, rfl, h2b, Hz.only [1, 5, 6, 7, 8, 9, 10, 11, 12, 14], mz.ren [(5, 5), (6, 6), (3, 3), (7, 7), (11, 100), (22, 22), (21, 101)] (by decide)⟩
  clear Hz m70
  rintro g Az w79 ⟨k, B5, B6, pt, pp, pn, pw, p, ct, np, cp, nn, cn9, cw, c, B11, q9, pa, c9, ca, hkl, hg2, h2c, Hz, m79⟩
  refine wsk fun K10 hK10 => ?_
  refine regS Hz (.move rfl <| .fa 1 rfl U31 <| .lb m79 6 U3 rfl rfl rfl <| .lss rfl rfl .nil) fun Az Hz => ?_
  refine bc Hz 59 ?_ ?_
  ·
   intro hb84 Hz; try simp only [QQ, Qax] at hb84
   have hk : k < y.bl.toNat := by have := hb84; first | omega | (simp at this; omega)
   refine wct Hz ?_
   refine zss (hK10 _ _ ?_)
   refine wsk fun K11 hK11 => ?_
   refine wp_block ?_
   refine regS Hz (.move rfl <| .lss rfl rfl <| .assign rfl .nil) fun Az Hz => ?_
   refine wsk fun K12 hK12 => ?_
   replace Hz := Hz.oz [1, 5, 6, 7, 8, 9, 10, 11, 12, 14, 15]
   refine regS Hz (.move rfl <| .c rfl (fun _ h => y_max h rfl rfl (r := (((endT (-1) out).toNat : Nat) : Int)) (by omega)) <| .assign rfl .nil) fun Az Hz => ?_
   refine wp_block ?_
   refine wp_loop_ghost (fun g a w => ∃ (j : Nat) (b : Bool) (B5 B6 : Nat) (pt pp pn pw p : Option Addr) (ct np cp nn cn9 cw c : Nat) (B11 : Nat) (q9 pa : Option Addr) (c9 ca : Nat), (endT (-1) out).toNat ≤ j ∧ j ≤ t ∧ g = t - j ∧ b = (decide ((endT (-1) out) < 0) || chgB y.ws (endT (-1) out).toNat j k) ∧ Rd (fun _ => True) w0 (.slice pt ts.length ct) (.ns .u8 ts) ∧ Has 112 [(1, .slice pt ts.length ct), (5, .pointer (some ⟨B5, 0, none⟩)), (6, .pointer (some ⟨B6, 0, none⟩)), (7, .slice p (out.map strD).length c), (8, .int .i64 (endT (-1) out)), (9, .int .i64 (i : Int)), (10, .int .i64 (t : Int)), (11, .pointer (some ⟨B11, 0, none⟩)), (12, .slice pa (S.map bD).length ca), (14, .int .i64 (k : Int)), (15, .bool b), (16, .int .i64 (j : Int))] a ∧ MemOk (cn w0) w0 [(5, .box B5 31 [.int .i64 0, .int .i64 0, .int .i64 0, .int .i64 0, .slice none 0 0, .int .i64 0, .int .i64 0, .bool false, .int .i64 0, .slice none 0 0, .slice none 0 0]), (6, .box B6 31 [.int .i64 y.vo, .int .i64 y.bl, .int .i64 y.sz, .int .i64 y.pe, .slice pp np cp, .int .i64 y.to, .int .i64 y.ne, .bool y.hi, .int .i64 0, .slice pn nn cn9, .slice pw (y.ws.map wrD).length cw]), (3, .dat (.slice pw (y.ws.map wrD).length cw) (.l 2 (y.ws.map wrD))), (7, .row (.slice p (out.map strD).length c) 38 5 (out.map strD)), (11, .box B11 38 [.int .i64 y.bl, .int .i64 y.sz, .int .i64 (endT (-1) out), .int .i64 (t : Int), .slice q9 ((segIt y (endT (-1) out) t k).map itD).length c9]), (22, .row (.slice q9 ((segIt y (endT (-1) out) t k).map itD).length c9) 48 2 ((segIt y (endT (-1) out) t k).map itD)), (21, .dat (.slice pa (S.map bD).length ca) (.l 1 (S.map bD)))] w) (t - (endT (-1) out).toNat) ?_ ?_
   · exact ⟨(endT (-1) out).toNat, _, _, _, _, _, _, _, _, _, _, _, _, _, _, _, _, _, _, _, _, Nat.le_refl _, hta, rfl, by rw [chgB_self, Bool.or_false], h2c, Hz.only [1, 5, 6, 7, 8, 9, 10, 11, 12, 14, 15, 16], m79.ren [(5, 5), (6, 6), (3, 3), (7, 7), (11, 11), (22, 22), (21, 21)] (by decide)⟩
   clear Hz m79
   rintro g Az w92 ⟨j, b, B5, B6, pt, pp, pn, pw, p, ct, np, cp, nn, cn9, cw, c, B11, q9, pa, c9, ca, hj0, hjt, hg3, hb3, h2d, Hz, m92⟩
   refine wsk fun K13 hK13 => ?_
   refine regS Hz (.move rfl <| .move rfl <| .lss rfl rfl .nil) fun Az Hz => ?_
   refine bc Hz 68 ?_ ?_
   ·
    intro hb96 Hz; try simp only [QQ, Qax] at hb96
    have hjl : j < t := by have := hb96; first | omega | (simp at this; omega)
    have hjw : j < y.ws.length := by omega
    obtain ⟨⟨xs, xl⟩, hes⟩ : ∃ e, y.ws[j]? = some e := ⟨_, List.getElem?_eq_getElem hjw⟩
    have hxl := hwi _ (List.mem_of_getElem? hes)
    dsimp only at hxl
    refine wct Hz ?_
    refine zss (hK13 _ _ ?_)
    refine wsk fun K14 hK14 => ?_
    refine wp_block ?_
    refine zsr fun K15 hK15 => ?_
    refine goCh Hz (.fa 10 rfl U31 <| .lb m92 6 U29 rfl rfl rfl <| .move rfl .nil) fun Az Hz => ?_
    obtain ⟨b104, o104, vs104, hp104, hR104, ho104, m104⟩ := m92.openR (i := 3) rfl (j) (r := [.v (.int .i64 xs), .l 2 (xl.map itD)]) (wrD_get hes) 300 rfl
    revert Hz
    cases hp104; clear m92 ho104
    rcases hR104 with _ | ⟨hd104_0, _ | ⟨hd104_1, _ | _⟩⟩
    obtain rfl := hd104_0.v_out
    clear hd104_0
    obtain ⟨p105, c105, hv105, hc105⟩ := hd104_1.l_shape; subst hv105
    intro Hz
    have m105 := m104.dat 301 rfl (hd104_1.cast (fun _ h => (free_add rfl h))); clear m104 hd104_1
    refine gz hK15 Hz (.c rfl (fun _ h => y_idx h rfl rfl U29 fct25 (j) rfl (by rw [List.length_map]; omega)) <| .fieldAddrQ 1 rfl U59 rfl (s := 0) (by kernel_rfl) rfl <| .loadC1 m105 (i := 300) (q := 1) rfl rfl rfl U36 rfl <| .assign rfl <| .nil) fun Az Hz => ?_
    replace Hz := Hz.oz [1, 5, 6, 7, 8, 9, 10, 11, 12, 14, 15, 16, 17]
    refine regS Hz (.assign rfl .nil) fun Az Hz => ?_
    refine wp_block ?_
    refine wp_loop_ghost (fun g a w => ∃ (q : Nat) (b4 : Bool) (px : Option Addr) (cx9 : Nat) (B5 B6 : Nat) (pt pp pn pw p : Option Addr) (ct np cp nn cn9 cw c : Nat) (B11 : Nat) (q9 pa : Option Addr) (c9 ca : Nat), q ≤ xl.length ∧ g = xl.length - q ∧ b4 = (b || hitB k (xl.take q)) ∧ Rd (fun _ => True) w0 (.slice pt ts.length ct) (.ns .u8 ts) ∧ Has 112 [(1, .slice pt ts.length ct), (5, .pointer (some ⟨B5, 0, none⟩)), (6, .pointer (some ⟨B6, 0, none⟩)), (7, .slice p (out.map strD).length c), (8, .int .i64 (endT (-1) out)), (9, .int .i64 (i : Int)), (10, .int .i64 (t : Int)), (11, .pointer (some ⟨B11, 0, none⟩)), (12, .slice pa (S.map bD).length ca), (14, .int .i64 (k : Int)), (15, .bool b4), (16, .int .i64 (j : Int)), (17, .slice px (xl.map itD).length cx9), (18, .int .i64 (q : Int))] a ∧ MemOk (cn w0) w0 [(5, .box B5 31 [.int .i64 0, .int .i64 0, .int .i64 0, .int .i64 0, .slice none 0 0, .int .i64 0, .int .i64 0, .bool false, .int .i64 0, .slice none 0 0, .slice none 0 0]), (6, .box B6 31 [.int .i64 y.vo, .int .i64 y.bl, .int .i64 y.sz, .int .i64 y.pe, .slice pp np cp, .int .i64 y.to, .int .i64 y.ne, .bool y.hi, .int .i64 0, .slice pn nn cn9, .slice pw (y.ws.map wrD).length cw]), (3, .dat (.slice pw (y.ws.map wrD).length cw) (.l 2 (y.ws.map wrD))), (7, .row (.slice p (out.map strD).length c) 38 5 (out.map strD)), (11, .box B11 38 [.int .i64 y.bl, .int .i64 y.sz, .int .i64 (endT (-1) out), .int .i64 (t : Int), .slice q9 ((segIt y (endT (-1) out) t k).map itD).length c9]), (22, .row (.slice q9 ((segIt y (endT (-1) out) t k).map itD).length c9) 48 2 ((segIt y (endT (-1) out) t k).map itD)), (21, .dat (.slice pa (S.map bD).length ca) (.l 1 (S.map bD))), (25, .dat (.slice px (xl.map itD).length cx9) (.l 2 (xl.map itD)))] w) (xl.length) ?_ ?_
    · exact ⟨0, _, _, _, _, _, _, _, _, _, _, _, _, _, _, _, _, _, _, _, _, _, _, Nat.zero_le _, rfl, by rw [List.take_zero]; simp [hitB], h2d, Hz.only [1, 5, 6, 7, 8, 9, 10, 11, 12, 14, 15, 16, 17, 18], m105.ren [(5, 5), (6, 6), (3, 3), (7, 7), (11, 11), (22, 22), (21, 21), (25, 301)] (by decide)⟩
    clear Hz m105
    rintro g Az w112 ⟨q, b4, px, cx9, B5, B6, pt, pp, pn, pw, p, ct, np, cp, nn, cn9, cw, c, B11, q9, pa, c9, ca, hql, hg4, hb4, h2e, Hz, m112⟩
    refine wsk fun K16 hK16 => ?_
    refine regS Hz (.move rfl <| .move rfl <| .len rfl U36 <| .lss rfl rfl .nil) fun Az Hz => ?_
    refine bc Hz 80 ?_ ?_
    ·
     intro hb117 Hz; try simp only [QQ, Qax] at hb117
     have hq : q < xl.length := by have := hb117; first | omega | (simp at this; omega)
     obtain ⟨⟨xb, xd⟩, hxs⟩ : ∃ e, xl[q]? = some e := ⟨_, List.getElem?_eq_getElem hq⟩
     refine wct Hz ?_
     refine zss (hK16 _ _ ?_)
     refine wsk fun K17 hK17 => ?_
     refine wp_block ?_
     refine wp_region_lit ?_
     refine goCh Hz (.move rfl <| .move rfl .nil) fun Az Hz => ?_
     refine bc Hz 84 ?_ ?_
     ·
      intro hb120 Hz; try simp only [QQ, Qax] at hb120
      have hbt := hb120
      refine gz hK17 Hz (.sk <| .sk <| .sk <| .sk <| .sk <| .sk <| .sk <| .pickT rfl rfl <| .assign rfl <| .nil) fun Az Hz => ?_
      replace Hz := Hz.oz [1, 5, 6, 7, 8, 9, 10, 11, 12, 14, 15, 16, 17, 18]
      refine wp_region_lit ?_
      refine goCh Hz (.move rfl <| .inc (q + 1) <| .assign rfl .nil) fun Az Hz => ?_
      refine wpList_nil ?_
      show ∃ n', n' < _ ∧ _
      exact ⟨xl.length - (q + 1), by omega, q + 1, _, _, _, _, _, _, _, _, _, _, _, _, _, _, _, _, _, _, _, _, _, _, by omega, rfl, by rw [hit_snoc hxs, ← Bool.or_assoc, ← hb4]; first | rfl | (rw [hbt]; rfl) | (rw [hbt]; simp) | simp, h2e, Hz.only [1, 5, 6, 7, 8, 9, 10, 11, 12, 14, 15, 16, 17, 18], m112.ren [(5, 5), (6, 6), (3, 3), (7, 7), (11, 11), (22, 22), (21, 21), (25, 25)] (by decide)⟩
     intro hb120 Hz; try simp only [QQ, Qax] at hb120
     have hbt := hb120
     refine goCh Hz (.moveZ rfl <| .moveZ rfl .nil) fun Az Hz => ?_
     obtain ⟨b136, o136, vs136, hp136, hR136, ho136, m136⟩ := m112.openR (i := 25) rfl (q) (r := [.v (.int .i64 xb), .ns .u8 xd]) (itD_get hxs) 400 rfl
     revert Hz
     cases hp136; clear m112 ho136
     rcases hR136 with _ | ⟨hd136_0, _ | ⟨hd136_1, _ | _⟩⟩
     obtain rfl := hd136_0.v_out
     clear hd136_0
     obtain ⟨p137, c137, hv137, hc137⟩ := hd136_1.ns_shape; subst hv137
     intro Hz
     have m137 := m136.dat 401 rfl (hd136_1.cast (fun _ h => (free_add rfl h))); clear m136 hd136_1
     refine gz hK17 Hz (.g rfl rfl rfl rfl (fun _ h => y_idx h rfl rfl U36 fct1 (q) rfl (by rw [List.length_map]; omega)) <| .fieldAddrQZ 0 rfl U48 rfl (s := 0) (by kernel_rfl) rfl <| .loadC0Z m137 (i := 400) rfl rfl U3 rfl <| .moveZ rfl <| .eqlZ rfl rfl <| .pickF rfl rfl <| .assign rfl <| .nil) fun Az Hz => ?_
     replace Hz := Hz.oz [1, 5, 6, 7, 8, 9, 10, 11, 12, 14, 15, 16, 17, 18]
     refine wp_region_lit ?_
     refine goCh Hz (.move rfl <| .inc (q + 1) <| .assign rfl .nil) fun Az Hz => ?_
     refine wpList_nil ?_
     show ∃ n', n' < _ ∧ _
     exact ⟨xl.length - (q + 1), by omega, q + 1, _, _, _, _, _, _, _, _, _, _, _, _, _, _, _, _, _, _, _, _, _, _, by omega, rfl, by rw [hit_snoc hxs, ← Bool.or_assoc, ← hb4]; first | rfl | (rw [hbt]; rfl) | (rw [hbt]; simp) | simp, h2e, Hz.only [1, 5, 6, 7, 8, 9, 10, 11, 12, 14, 15, 16, 17, 18], m137.ren [(5, 5), (6, 6), (3, 3), (7, 7), (11, 11), (22, 22), (21, 21), (25, 25)] (by decide)⟩
    intro hb117 Hz; try simp only [QQ, Qax] at hb117
    have hqe : q = xl.length := by have := hb117; first | omega | (simp at this; omega)
    have hb4e : b4 = (b || hitB k xl) := by rw [hb4, hqe, List.take_length]
    refine wcf Hz ?_
    refine wp_exit ?_
    refine hK14 _ _ ?_
    refine wp_region_lit ?_
    refine goCh Hz (.move rfl <| .inc (j + 1) <| .assign rfl .nil) fun Az Hz => ?_
    refine wpList_nil ?_
    show ∃ n', n' < _ ∧ _
    exact ⟨t - (j + 1), by omega, j + 1, _, _, _, _, _, _, _, _, _, _, _, _, _, _, _, _, _, _, _, _, by omega, by omega, rfl, by rw [chgB_snoc hj0 hes, ← Bool.or_assoc, ← hb3]; exact hb4e, h2e, Hz.only [1, 5, 6, 7, 8, 9, 10, 11, 12, 14, 15, 16], m112.ren [(5, 5), (6, 6), (3, 3), (7, 7), (11, 11), (22, 22), (21, 21)] (by decide)⟩
   intro hb96 Hz; try simp only [QQ, Qax] at hb96
   have hje : j = t := by have := hb96; first | omega | (simp at this; omega)
   refine wcf Hz ?_
   refine wp_exit ?_
   refine hK12 _ _ ?_
   refine regS Hz (.move rfl .nil) fun Az Hz => ?_
   refine bc Hz 93 ?_ ?_
   ·
    intro hb153 Hz; try simp only [QQ, Qax] at hb153
    have hyes := hb153
    rw [hje] at hb3
    rw [hb3] at hyes
    refine wct Hz ?_
    obtain ⟨b154, o154, vs154, hp154, hR154, ho154, m154⟩ := m92.openR (i := 21) rfl (k) (r := [.ns .u8 (S.getD k [])]) (bD_get (by omega)) 300 rfl
    revert Hz
    cases hp154; clear m92 ho154
    rcases hR154 with _ | ⟨hd154_0, _ | _⟩
    obtain ⟨p155, c155, hv155, hc155⟩ := hd154_0.ns_shape; subst hv155
    intro Hz
    have m155 := m154.dat 301 rfl (hd154_0.cast (fun _ h => (free_add rfl h))); clear m154 hd154_0
    have m156 := m155.oz [3, 5, 6, 7, 11, 21, 22, 300, 301]
    refine region_p 11 (B := [(3, _), (5, _), (6, _), (11, _), (21, _), (300, _), (301, _)]) (m156.to ⟨il, il, il, il, il, il, il, trivial⟩) m156 (by kernel_rfl) (fun w157 hP157 m157 => ?_); clear m156
    refine goR hP157 [0, 1, 2, 3, 4, 5, 6, 7] [1, 6] 8 0 255 Hz (m157.to ⟨il, il, il, il, il, il, il, trivial⟩) (.fa 4 rfl U38 <| .lb hh 11 U36 rfl rfl rfl <| .move rfl <| .move rfl <| .move rfl <| .p (fun _ _ h => y_idx h rfl rfl U23 fct8 (k) rfl (by rw [List.length_map]; omega)) <| .loadC0 hh (i := 300) rfl rfl U22 rfl <| .build rfl fct3 fl48cst rfl (by dsimp only [setL, List.set] <;> rfl) .nil) fun Az Hz => ?_
    refine so 8 ?_
    refine e_litR Hz m157 302 (mm := 2) rfl (.cons rfl rfl (.cons (.v _) (.cons (m157.rd (i := 301) rfl) .nil)) .nil) U36 fct24 rfl rfl rfl rfl rfl fun g166 Az w167 Hz m167 => ?_
    refine ⟨m167.to ⟨il, il, il, il, il, il, il, trivial⟩, ?_⟩
    have m169 := m167.freezeR 302 rfl
    refine so 9 ?_
    refine e_appR Hz m169 22 rfl rfl rfl (m169.rd (i := 302) rfl) U36 fct24 rfl rfl (by decide) (by have := segIt_len y (endT (-1) out) t k; rw [List.length_map]; simp; omega) rfl fun p168 c168 Az w170 Hz m170 => ?_
    refine ⟨m170.to ⟨il, il, il, il, il, il, il, trivial⟩, ?_⟩
    refine goA hP157 [10] 1 1023 2047 Hz (m170.to ⟨il, il, il, il, il, il, il, trivial⟩) (.fa 4 rfl U38 .nil) fun Az Hz => ?_
    refine se 11 ?_
    refine st1 Hz m170 11 fct19 fun w172 m172 _ => ?_
    refine wpAnyE_done (by kernel_rfl) ?_ _
    refine hK11 _ _ ?_
    replace Hz := Hz.oz [1, 5, 6, 7, 8, 9, 10, 11, 12, 14, 15, 16]
    refine wp_region_lit ?_
    refine goCh Hz (.move rfl <| .inc (k + 1) <| .assign rfl .nil) fun Az Hz => ?_
    refine wpList_nil ?_
    show ∃ n', n' < _ ∧ _
    have hE : ((segIt y (endT (-1) out) t k).map itD) ++ [[D.v (.int .i64 k), .ns .u8 (S.getD k [])]] = (segIt y (endT (-1) out) t (k + 1)).map itD := by rw [segIt_snoc_yes hyes, hS9, List.map_append]; rfl
    rw [hE] at m172
    exact ⟨y.bl.toNat - (k + 1), by omega, k + 1, _, _, _, _, _, _, _, _, _, _, _, _, _, _, _, _, _, _, _, by omega, rfl, h2d, Hz.only [1, 5, 6, 7, 8, 9, 10, 11, 12, 14], m172.ren [(5, 5), (6, 6), (3, 3), (7, 7), (11, 11), (22, 22), (21, 21)] (by decide)⟩
   intro hb153 Hz; try simp only [QQ, Qax] at hb153
   have hno := hb153
   rw [hje] at hb3
   rw [hb3] at hno
   have hE := segIt_snoc_no hno
   refine wcf Hz ?_
   refine zss (hK11 _ _ ?_)
   refine wp_region_lit ?_
   refine goCh Hz (.move rfl <| .inc (k + 1) <| .assign rfl .nil) fun Az Hz => ?_
   refine wpList_nil ?_
   show ∃ n', n' < _ ∧ _
   rw [← hE] at m92
   exact ⟨y.bl.toNat - (k + 1), by omega, k + 1, _, _, _, _, _, _, _, _, _, _, _, _, _, _, _, _, _, _, _, by omega, rfl, h2d, Hz.only [1, 5, 6, 7, 8, 9, 10, 11, 12, 14], m92.ren [(5, 5), (6, 6), (3, 3), (7, 7), (11, 11), (22, 22), (21, 21)] (by decide)⟩
  intro hb84 Hz; try simp only [QQ, Qax] at hb84
  have hke : k = y.bl.toNat := by have := hb84; first | omega | (simp at this; omega)
  revert Hz
  subst hke
  intro Hz
  refine wcf Hz ?_
  refine wp_exit ?_
  refine hK9 _ _ ?_
  refine wp_region_lit ?_
  refine goCh Hz (.move rfl <| .loadBR m79 (i := 11) rfl rfl U38 rfl fct2 (by simp) (by dsimp only [List.drop, List.take] <;> rfl) .nil) fun Az Hz => ?_
  have m183 := m79.freezeR 22 rfl
  refine plz (e_litR Hz m183 200 (mm := 5) rfl (.cons rfl rfl (.cons (.v _) (.cons (.v _) (.cons (.v _) (.cons (.v _) (.cons (m183.rd (i := 22) rfl) .nil))))) .nil) U26 fct23 rfl rfl rfl rfl rfl fun g182 Az w184 Hz m184 => ?_)
  have m186 := m184.freezeR 200 rfl
  refine plz (e_appR Hz m186 7 rfl rfl rfl (m186.rd (i := 200) rfl) U26 fct23 rfl rfl (by decide) (by rw [List.length_map]; simp; omega) rfl fun p185 c185 Az w187 Hz m187 => ?_)
  refine gz hK5 Hz (.move rfl <| .assign rfl <| .assign rfl <| .nil) fun Az Hz => ?_
  replace Hz := Hz.oz [1, 5, 6, 7, 8, 9, 10, 11, 12, 14]
  refine wp_region_lit ?_
  refine goCh Hz (.move rfl <| .inc (i + 1) <| .assign rfl .nil) fun Az Hz => ?_
  refine wpList_nil ?_
  show ∃ n', n' < _ ∧ _
  have hE : (out.map strD) ++ [[D.v (.int .i64 y.bl), .v (.int .i64 y.sz), .v (.int .i64 (endT (-1) out)), .v (.int .i64 (t : Int)), .l 2 ((segIt y (endT (-1) out) t y.bl.toNat).map itD)]] = (out ++ [seg y (endT (-1) out) t]).map strD := by rw [List.map_append]; rfl
  rw [hE] at m187 Hz
  have h8 : (t : Int) = endT (-1) (out ++ [seg y (endT (-1) out) t]) := by rw [endT_snoc]; rfl
  rw [h8] at Hz
  exact ⟨ts.length - (i + 1), by omega, i + 1, out ++ [seg y (endT (-1) out) t], _, _, _, _, _, _, _, _, _, _, _, _, _, _, by omega, rfl, by simp [hol], hsg.snoc hta htw, h2c, Hz.only [1, 5, 6, 7, 8, 9], m187.ren [(5, 5), (6, 6), (3, 3), (7, 7)] (by decide)⟩
 intro hb24 Hz; try simp only [QQ, Qax] at hb24
 have hie : i = ts.length := by have := hb24; first | omega | (simp at this; omega)
 refine wcf Hz ?_
 refine wp_exit ?_
 refine hK3 _ _ ?_
 refine wsk fun K18 hK18 => ?_
 have m195 := m19.oz [3, 5, 6, 7]
 refine region_p 3 (B := [(3, _), (5, _), (6, _)]) (m195.to ⟨il, il, il, trivial⟩) m195 (by kernel_rfl) (fun w196 hP196 m196 => ?_); clear m195
 refine goR hP196 [0, 1, 2] [1] 3 0 7 Hz (m196.to ⟨il, il, il, trivial⟩) (.move rfl <| .loadBR hh (i := 6) rfl rfl U31 rfl fct10 (by simp) (by dsimp only [List.drop, List.take] <;> rfl) <| .assign rfl .nil) fun Az Hz => ?_
 refine se 3 ?_
 refine stw Hz m196 5 fct10 fun w200 m200 _ => ?_
 refine wpAnyE_done (by kernel_rfl) ?_ _
 refine hK18 _ _ ?_
 refine rtd (retTC (fn := Tryd.f5) Hz m200 (i := 5) rfl rfl rfl rfl U31 rfl fct10 ?_)
 have m201 := m200.freezeR 7 rfl
 exact ⟨y, out, _, _, _, _, _, _, _, _, _, _, by rw [List.length_map], hS, by omega, hsg, by have h9 := m201.outF (i := 7) rfl; rwa [List.length_map] at h9, m201.outF (i := 3) rfl, m201.below⟩
end Go.Proofs.YtcccomafnmdlfaaDoor.K
