/- General laws of walks. -/
import Derived.Test.YtkehgingagggaaaGreatG26
namespace Go.Proofs.YtkehgingagggaaaGreat.K
open Go.ChangeShapes Go.WideShapes Go.ChangeAt Go.RowKit
set_option linter.unusedVariables false
set_option linter.unusedSimpArgs false
section
theorem fl32lll : flatS Tryz.prog 32 [.slice none 0 0] = true := by kernel_rfl
theorem ps76lll : placesS Tryz.prog 76 = some [(0, 1), (1, 10), (11, 1), (12, 1), (13, 5)] := by kernel_rfl
theorem puts_two {ts : List Tl} {ps : List Int} (h : PutsI ts ps) {q : Nat} (hq : q + 1 < ps.length) : ∃ (i j : Nat) (a b : Tl), ps.getD q 0 = (i : Int) ∧ ps.getD (q + 1) 0 = (j : Int) ∧ ts[i]? = some a ∧ ts[j]? = some b ∧ i < j ∧ a.c.kd = 2 ∧ a.e9 = 0 ∧ b.c.kd = 2 ∧ b.e9 = 0 := by
 have e1 : ps.getD q 0 = ps[q] := by rw [List.getD, List.getElem?_eq_getElem (by omega)]; rfl
 have e2 : ps.getD (q + 1) 0 = ps[q + 1] := by rw [List.getD, List.getElem?_eq_getElem hq]; rfl
 obtain ⟨i, a, h1, h2, h3, h4⟩ := h.2 ps[q] (List.getElem_mem _)
 obtain ⟨j, b, k1, k2, k3, k4⟩ := h.2 ps[q + 1] (List.getElem_mem _)
 have h9 := List.pairwise_iff_getElem.1 h.1 q (q + 1) (by omega) hq (by omega)
 exact ⟨i, j, a, b, by rw [e1, h1], by rw [e2, k1], h2, k2, by omega, h3, h4, k3, k4⟩
theorem set_tl {ts : List Tl} {cs : List Cm} (h : ∀ t ∈ ts, ∃ x ∈ cs, t.c = x) {j : Nat} {b : Tl} (hb : ts[j]? = some b) {r : Int} : ∀ t ∈ ts.set j { b with rl := r }, ∃ x ∈ cs, t.c = x := fun t ht => by
 rcases List.mem_or_eq_of_mem_set ht with h1 | h1
 · exact h t h1
 subst h1; exact h b (List.mem_of_getElem? hb)
theorem ordered_b (l : List Tl) (v : VolV) (b : Bool) (hb : ordB l v = b) (pl : Option Addr) (nl cl : Nat) (y1 y2 y3 : Option Addr) (z1 x1 z2 x2 nv x3 : Nat) (w0 : World) (h1 : Rd (fun _ => True) w0 (.slice pl nl cl) (.l 18 (l.map tlD))) (h3 : Rd (fun _ => True) w0 (.slice y3 nv x3) (.l 2 (v.ws.map wrD))) (hlb : ∀ t ∈ l, t.c.its.length ≤ 1000000 ∧ ∀ e ∈ t.c.its, BytesL e.2) (hvb : ∀ e ∈ v.ws, e.2.length ≤ 1000000 ∧ ∀ z ∈ e.2, BytesL z.2) (hl9 : l.length ≤ 1000) (hv9 : v.ws.length ≤ 1000000) :
   Calls Tryz.prog 38 #[.slice pl nl cl, .agg #[.int .i64 v.vo, .int .i64 v.bl, .int .i64 v.sz, .int .i64 v.pe, .slice y1 z1 x1, .int .i64 v.to, .int .i64 v.ne, .bool v.hi, .int .i64 v.fl, .slice y2 z2 x2, .slice y3 nv x3]] w0 fun e w' => e = .returned (.bool b) ∧ Below w0.heap.size w0 w' := by
 subst hb; exact ordered_x l v pl nl cl y1 y2 y3 z1 x1 z2 x2 nv x3 w0 h1 h3 hlb hvb hl9 hv9
set_option maxRecDepth 100000
set_option maxHeartbeats 4000000
theorem lies_walk (y0 : List Int) (n1 n2 : Int) (q0 : Option Addr) (g0 : Nat) (w0 : World) (hn1 : 0 ≤ n1 ∧ n1 ≤ 255) (hn2 : 0 ≤ n2 ∧ n2 ≤ 255) (h0 : Rd (fun _ => True) w0 (.slice q0 y0.length g0) (.ns .u8 y0)) (hb0 : ∀ j, j < y0.length → 0 ≤ y0.getD j 0 ∧ y0.getD j 0 ≤ 255) :
   Calls Tryz.prog 6 #[.slice q0 y0.length g0, .int .u8 n1, .int .u8 n2] w0 fun e w' => e = .returned (.bool true) ∧ Below w0.heap.size w0 w' := by
 refine ent3 Tryz.func6 rfl Tryz.ntmps6 fun Az Hz => ?_
 have m0 := MemOk.start (fun _ => False) w0
 refine regS Hz (.assign rfl .nil) fun Az Hz => ?_
 refine wsk fun K0 hK0 => ?_
 refine zsr fun K1 hK1 => ?_
 refine plz (ecb Hz Tryz.func31 rfl m0 (known26 _) fun Az w2 Hz m3 => ?_)
 refine gz hK1 Hz (.not rfl .nil) fun Az Hz => ?_
 refine wcf Hz ?_
 refine zss (hK0 _ _ ?_)
 refine wsk fun K2 hK2 => ?_
 refine regS Hz (.move rfl <| .len rfl U22 <| .gtr rfl rfl .nil) fun Az Hz => ?_
 refine bc Hz 25 ?_ ?_
 ·
  intro hb9 Hz; try simp only [QQ, Qax] at hb9
  refine wct Hz ?_
  refine regS Hz (.assign rfl .nil) fun Az Hz => ?_
  refine rt1 Hz ?_
  exact ⟨rfl, m3.below⟩
 intro hb9 Hz; try simp only [QQ, Qax] at hb9
 have hc0 : y0.length ≤ 80 := by have := hb9; first | omega | (simp at this; omega)
 refine wcf Hz ?_
 refine zss (hK2 _ _ ?_)
 refine zsr fun K3 hK3 => ?_
 refine goCh Hz (.move rfl .nil) fun Az Hz => ?_
 refine plz (ecl Hz Tryz.func10 rfl (scmds_r y0 _ _ _ ((h0.now' m3 rfl).any) (by omega) hb0) ?_)
 rintro e w13 ⟨cs, p13, c13, rfl, hcl, hcR, ho13, hb13⟩
 have m14 := m3.callR 300 hb13 (ho13.cast (fun b h => ⟨h.1.elim False.elim .inr, h.2⟩))
 refine ⟨_, rfl, ?_⟩; intro Az Hz
 refine gz hK3 Hz (.assign rfl .nil) fun Az Hz => ?_
 replace Hz := Hz.oz [1, 2, 6, 7]
 refine zsr fun K4 hK4 => ?_
 refine goCh Hz (.build rfl fct39 fl32lll rfl (by dsimp only [setL, List.set] <;> rfl) .nil) fun Az Hz => ?_
 refine plz (e_box Hz m14 301 (cs := [_]) rfl rfl rfl fun g20 Az w21 Hz m21 _ _ => ?_)
 refine gz hK4 Hz (.assign rfl .nil) fun Az Hz => ?_
 refine regS Hz (.assign rfl .nil) fun Az Hz => ?_
 refine regS Hz (.assign rfl .nil) fun Az Hz => ?_
 refine wsk fun K5 hK5 => ?_
 refine regS Hz (.assign rfl .nil) fun Az Hz => ?_
 refine wp_block ?_
 have m26 := m21.freezeR 300 rfl
 refine wp_loop_ghost (fun g a w => ∃ (k B c c8 c9 c10 : Nat) (R : List VolV) (ts : List Tl) (ps : List Int) (p p8 p9 p10 : Option Addr), k ≤ cs.length ∧ ts.length = k ∧ ps.length ≤ k ∧ (∀ t ∈ ts, ∃ x ∈ cs, t.c = x) ∧ HI ts R ∧ TmT ts ∧ PutsI ts ps ∧ (∀ y ∈ R, VolS k y) ∧ R.length ≤ k ∧ SrtV R ∧ g = cs.length - k ∧ Has 166 [(1, .int .u8 n1), (2, .int .u8 n2), (7, .slice p8 (cs.map cmD).length c8), (8, .pointer (some ⟨B, 0, none⟩)), (9, .slice p9 (ts.map tlD).length c9), (10, .slice p10 ps.length c10), (11, .int .i64 k)] a ∧ MemOk (cn w0) w0 [(1, .box B 32 [.slice p ((R).map volD).length c]), (2, .dat (.slice p ((R).map volD).length c) (.l 11 ((R).map volD))), (8, .dat (.slice p8 (cs.map cmD).length c8) (.l 10 (cs.map cmD))), (9, .row (.slice p9 (ts.map tlD).length c9) 76 18 (ts.map tlD)), (10, .num (.slice p10 ps.length c10) 3 .i64 ps)] w) (cs.length) ?_ ?_
 · have mz := ((m26.dat 2 rfl (Rd.l0 none 0 11)).nilR 9 76 18).nilN 10 3 .i64
   exact ⟨0, _, _, _, _, _, [], [], [], _, _, _, _, Nat.zero_le _, rfl, Nat.zero_le _, (fun t h => by cases h), HI.nil, TmT.nil, PutsI.nil, (fun y hy => by cases hy), Nat.zero_le _, List.Pairwise.nil, rfl, Hz.only [1, 2, 7, 8, 9, 10, 11], mz.ren [(1, 301), (2, 2), (8, 300), (9, 9), (10, 10)] (by decide)⟩
 clear Hz m26
 rintro g Az w27 ⟨k, B, c, c8, c9, c10, R, ts, ps, p, p8, p9, p10, hkl, hln, hpl, hts, hHI, hTm, hPI, hRV, hRl, hRS, hg, Hz, m27⟩
 refine wsk fun K6 hK6 => ?_
 refine regS Hz (.move rfl <| .move rfl <| .len rfl U24 <| .lss rfl rfl .nil) fun Az Hz => ?_
 refine bc Hz 33 ?_ ?_
 ·
  intro hb32 Hz; try simp only [QQ, Qax] at hb32
  have hk : k < cs.length := by have := hb32; first | omega | (simp at this; omega)
  obtain ⟨x, hes⟩ : ∃ e, cs[k]? = some e := ⟨_, List.getElem?_eq_getElem hk⟩
  have hxo := (hcR x (List.mem_of_getElem? hes)).1.ok (fun e he => ((hcR x (List.mem_of_getElem? hes)).2 e he).2)
  refine wct Hz ?_
  refine zss (hK6 _ _ ?_)
  refine wsk fun K7 hK7 => ?_
  refine wp_block ?_
  refine zsr fun K8 hK8 => ?_
  refine goCh Hz (.move rfl <| .move rfl .nil) fun Az Hz => ?_
  obtain ⟨b38, o38, vs38, hp38, hR38, ho38, m38⟩ := m27.openR (i := 8) rfl (k) (r := [.v (.int .i64 x.kd), .v (.int .i64 x.vo), .v (.int .i64 x.bl), .v (.int .i64 x.sz), .v (.int .i64 x.pe), .ns .i64 x.pl, .v (.int .i64 x.to), .v (.int .i64 x.at0), .v (.int .i64 x.ix), .l 2 (x.its.map itD)]) (cmD_get hes) 400 rfl
  revert Hz
  cases hp38; clear m27 ho38
  rcases hR38 with _ | ⟨hd38_0, _ | ⟨hd38_1, _ | ⟨hd38_2, _ | ⟨hd38_3, _ | ⟨hd38_4, _ | ⟨hd38_5, _ | ⟨hd38_6, _ | ⟨hd38_7, _ | ⟨hd38_8, _ | ⟨hd38_9, _ | _⟩⟩⟩⟩⟩⟩⟩⟩⟩⟩
  obtain rfl := hd38_0.v_out
  clear hd38_0
  obtain rfl := hd38_1.v_out
  clear hd38_1
  obtain rfl := hd38_2.v_out
  clear hd38_2
  obtain rfl := hd38_3.v_out
  clear hd38_3
  obtain rfl := hd38_4.v_out
  clear hd38_4
  obtain ⟨p39, c39, hv39, hc39⟩ := hd38_5.ns_shape; subst hv39
  intro Hz
  have m39 := m38.dat 401 rfl (hd38_5.cast (fun _ h => (free_add rfl h))); clear m38 hd38_5
  revert Hz
  obtain rfl := hd38_6.v_out
  clear hd38_6
  obtain rfl := hd38_7.v_out
  clear hd38_7
  obtain rfl := hd38_8.v_out
  clear hd38_8
  obtain ⟨p40, c40, hv40, hc40⟩ := hd38_9.l_shape; subst hv40
  intro Hz
  have m40 := m39.dat 402 rfl (hd38_9.cast (fun _ h => (free_add rfl (free_add rfl h)))); clear m39 hd38_9
  refine goCh Hz (.c rfl (fun _ h_ => y_idx h_ rfl rfl U24 fct19 (k) rfl (by simpa using hk)) <| .loadCR m40 (i := 400) rfl rfl U38 rfl fct19 .nil) fun Az Hz => ?_
  refine plz (ecl Hz Tryz.func12 rfl (rputCmd_x x.kd x.vo x.bl x.sz x.pe x.to x.at0 x.ix x.pl x.its _ _ _ _ _ _ ((m40.rd (i := 401) rfl).any) ((m40.rd (i := 402) rfl).any) hxo) ?_)
  rintro e w43 ⟨p43, c43, rfl, hd43, hb43⟩
  have m44 := m40.callF 403 rfl hb43 hd43
  refine ⟨_, rfl, ?_⟩; intro Az Hz
  refine gz hK8 Hz (.move rfl <| .extract rfl rfl <| .extract rfl rfl <| .assign rfl <| .assign rfl <| .nil) fun Az Hz => ?_
  refine wsk fun K9 hK9 => ?_
  have hC9 : ∀ (a : Act) (w : World), (∃ (L2 : List VolV) (e1 rl1 rf1 rn1 : Int) (B14 c2 c5 c6 : Nat) (p8 p2 p5 p6 : Option Addr), rApp R x = (L2, e1, rl1, rf1, rn1) ∧ Has 166 [(1, .int .u8 n1), (2, .int .u8 n2), (7, .slice p8 (cs.map cmD).length c8), (8, .pointer (some ⟨B, 0, none⟩)), (9, .slice p9 (ts.map tlD).length c9), (10, .slice p10 ps.length c10), (11, .int .i64 k), (14, .pointer (some ⟨B14, 0, none⟩))] a ∧ MemOk (cn w0) w0 [(1, .box B 32 [.slice p2 ((L2).map volD).length c2]), (2, .dat (.slice p2 ((L2).map volD).length c2) (.l 11 ((L2).map volD))), (8, .dat (.slice p8 (cs.map cmD).length c8) (.l 10 (cs.map cmD))), (9, .row (.slice p9 (ts.map tlD).length c9) 76 18 (ts.map tlD)), (10, .num (.slice p10 ps.length c10) 3 .i64 ps), (14, .box B14 76 [.int .i64 k, .int .i64 x.kd, .int .i64 x.vo, .int .i64 x.bl, .int .i64 x.sz, .int .i64 x.pe, .slice p5 x.pl.length c5, .int .i64 x.to, .int .i64 x.at0, .int .i64 x.ix, .slice p6 (x.its.map itD).length c6, .int .i64 (2 * (k : Int)), .int .i64 (2 * (k : Int) + 1), .int .i64 e1, .int .i64 rl1, .int .i64 rf1, .int .i64 rn1, .slice none 0 0]), (15, .dat (.slice p5 x.pl.length c5) (.ns .i64 x.pl)), (16, .dat (.slice p6 (x.its.map itD).length c6) (.l 2 (x.its.map itD)))] w) → K9 a w := by
    clear Hz m44
    rintro Az w51 ⟨L2, e1, rl1, rf1, rn1, B14, c2, c5, c6, p8, p2, p5, p6, hap, Hz, m51⟩
    refine hK9 _ _ ?_
    refine wsk fun K10 hK10 => ?_
    refine zsr fun K11 hK11 => ?_
    refine goCh Hz (.fieldAddr (off := 1) rfl U76 rfl (s := 9) (by kernel_rfl) rfl <| .fa 1 rfl U38 <| .lb m51 14 U3 rfl rfl rfl <| .eql rfl rfl <| .move rfl .nil) fun Az Hz => ?_
    refine bc Hz 62 ?_ ?_
    ·
     intro hb62 Hz; try simp only [QQ, Qax] at hb62
     have hp1 : x.kd = 2 := by first | exact hb62 | (simpa using hb62)
     refine gz hK11 Hz (.fieldAddrZ (off := 13) rfl U76 rfl (s := 4) (by kernel_rfl) rfl <| .faZ 13 rfl U44 <| .loadB1Z m51 (i := 14) rfl rfl rfl U42 rfl <| .eqlZ rfl rfl <| .pickT rfl rfl <| .nil) fun Az Hz => ?_
     refine bc Hz 67 ?_ ?_
     ·
      intro hb68 Hz; try simp only [QQ, Qax] at hb68
      have hput : x.kd = 2 ∧ e1 = 0 := ⟨hp1, by first | exact hb68 | (simpa using hb68)⟩
      refine wct Hz ?_
      replace Hz := Hz.oz [1, 2, 7, 8, 9, 10, 11, 14, 67]
      refine wp_region_lit ?_
      refine goCh Hz (.move rfl <| .move rfl .nil) fun Az Hz => ?_
      refine plz (e_litN Hz m51 500 (k := .i64) rfl rfl U35 fct17 rfl rfl rfl rfl fun g72 Az w73 Hz m73 => ?_)
      refine plz (e_appN Hz m73 10 rfl rfl rfl (m73.numsO (i := 500) rfl) U35 fct17 (by decide) (by rw [List.length_singleton]; omega) rfl fun p74 c74 Az w75 Hz m75 => ?_)
      refine gz hK10 Hz (.assign rfl .nil) fun Az Hz => ?_
      refine wp_region_lit ?_
      refine goCh Hz (.move rfl <| .loadBR m75 (i := 14) rfl rfl U76 rfl fct16 (by simp) (by dsimp only [List.drop, List.take] <;> rfl) .nil) fun Az Hz => ?_
      refine plz (e_litR Hz m75 501 (mm := 18) rfl (.cons rfl rfl (.cons (.v _) (.cons (.v _) (.cons (.v _) (.cons (.v _) (.cons (.v _) (.cons (.v _) (.cons (m75.rd (i := 15) rfl) (.cons (.v _) (.cons (.v _) (.cons (.v _) (.cons (m75.rd (i := 16) rfl) (.cons (.v _) (.cons (.v _) (.cons (.v _) (.cons (.v _) (.cons (.v _) (.cons (.v _) (.cons (Rd.nilN _ _ .u8 _) .nil)))))))))))))))))) .nil) U74 fct37 rfl rfl rfl rfl rfl fun g79 Az w80 Hz m80 => ?_)
      have m82 := m80.freezeR 501 rfl
      refine plz (e_appR Hz m82 9 rfl rfl rfl (m82.rd (i := 501) rfl) U74 fct37 rfl rfl (by decide) (by rw [List.length_map, List.length_singleton]; omega) rfl fun p81 c81 Az w83 Hz m83 => ?_)
      refine gz hK7 Hz (.assign rfl .nil) fun Az Hz => ?_
      replace Hz := Hz.oz [1, 2, 7, 8, 9, 10, 11, 67]
      refine wp_region_lit ?_
      refine goCh Hz (.move rfl <| .inc (k + 1) <| .assign rfl .nil) fun Az Hz => ?_
      refine wpList_nil ?_
      show ∃ n', n' < _ ∧ _
      have hE : (ts.map tlD) ++ [[.v (.int .i64 k), .v (.int .i64 x.kd), .v (.int .i64 x.vo), .v (.int .i64 x.bl), .v (.int .i64 x.sz), .v (.int .i64 x.pe), .ns .i64 x.pl, .v (.int .i64 x.to), .v (.int .i64 x.at0), .v (.int .i64 x.ix), .l 2 (x.its.map itD), .v (.int .i64 (2 * (k : Int))), .v (.int .i64 (2 * (k : Int) + 1)), .v (.int .i64 e1), .v (.int .i64 rl1), .v (.int .i64 rf1), .v (.int .i64 rn1), .ns .u8 []]] = (ts ++ [(⟨k, x, 2 * (k : Int), 2 * (k : Int) + 1, e1, rl1, rf1, rn1, []⟩ : Tl)]).map tlD := by rw [List.map_append]; rfl
      rw [hE] at m83 Hz
      obtain ⟨ha1, ha2, ha3⟩ := rApp_s (c := x) hRS hRV (fun e he => ((hcR x (List.mem_of_getElem? hes)).2 e he).2)
      rw [hap] at ha1 ha2 ha3; dsimp only at ha1 ha2 ha3
      have hH2 : HI (ts ++ [(⟨k, x, 2 * (k : Int), 2 * (k : Int) + 1, e1, rl1, rf1, rn1, []⟩ : Tl)]) L2 := hHI.step hRS hap
      have hT2 : TmT (ts ++ [(⟨k, x, 2 * (k : Int), 2 * (k : Int) + 1, e1, rl1, rf1, rn1, []⟩ : Tl)]) := hTm.snoc (by rw [hln]) (by rw [hln])
      exact ⟨cs.length - (k + 1), by omega, k + 1, _, _, _, _, _, L2, ts ++ [(⟨k, x, 2 * (k : Int), 2 * (k : Int) + 1, e1, rl1, rf1, rn1, []⟩ : Tl)], ps ++ [(k : Int)], _, _, _, _, by omega, by rw [List.length_append, hln]; rfl, by first | omega | (rw [List.length_append, List.length_singleton]; omega), (fun t ht => (List.mem_append.1 ht).elim (hts t) (fun h => ⟨x, List.mem_of_getElem? hes, by simp at h; rw [h]⟩)), hH2, hT2, (by have h9 := hPI.more (t := (⟨k, x, 2 * (k : Int), 2 * (k : Int) + 1, e1, rl1, rf1, rn1, []⟩ : Tl)) hput.1 hput.2; rw [hln] at h9; exact h9), ha1, by omega, ha3, rfl, Hz.only [1, 2, 7, 8, 9, 10, 11], m83.ren [(1, 1), (2, 2), (8, 8), (9, 9), (10, 10)] (by decide)⟩
     intro hb68 Hz; try simp only [QQ, Qax] at hb68
     refine wcf Hz ?_
     refine zss (hK10 _ _ ?_)
     replace Hz := Hz.oz [1, 2, 7, 8, 9, 10, 11, 14, 67]
     refine wp_region_lit ?_
     refine goCh Hz (.move rfl <| .loadBR m51 (i := 14) rfl rfl U76 rfl fct16 (by simp) (by dsimp only [List.drop, List.take] <;> rfl) .nil) fun Az Hz => ?_
     refine plz (e_litR Hz m51 500 (mm := 18) rfl (.cons rfl rfl (.cons (.v _) (.cons (.v _) (.cons (.v _) (.cons (.v _) (.cons (.v _) (.cons (.v _) (.cons (m51.rd (i := 15) rfl) (.cons (.v _) (.cons (.v _) (.cons (.v _) (.cons (m51.rd (i := 16) rfl) (.cons (.v _) (.cons (.v _) (.cons (.v _) (.cons (.v _) (.cons (.v _) (.cons (.v _) (.cons (Rd.nilN _ _ .u8 _) .nil)))))))))))))))))) .nil) U74 fct37 rfl rfl rfl rfl rfl fun g92 Az w93 Hz m93 => ?_)
     have m95 := m93.freezeR 500 rfl
     refine plz (e_appR Hz m95 9 rfl rfl rfl (m95.rd (i := 500) rfl) U74 fct37 rfl rfl (by decide) (by rw [List.length_map, List.length_singleton]; omega) rfl fun p94 c94 Az w96 Hz m96 => ?_)
     refine gz hK7 Hz (.assign rfl .nil) fun Az Hz => ?_
     refine wp_region_lit ?_
     refine goCh Hz (.move rfl <| .inc (k + 1) <| .assign rfl .nil) fun Az Hz => ?_
     refine wpList_nil ?_
     show ∃ n', n' < _ ∧ _
     have hE : (ts.map tlD) ++ [[.v (.int .i64 k), .v (.int .i64 x.kd), .v (.int .i64 x.vo), .v (.int .i64 x.bl), .v (.int .i64 x.sz), .v (.int .i64 x.pe), .ns .i64 x.pl, .v (.int .i64 x.to), .v (.int .i64 x.at0), .v (.int .i64 x.ix), .l 2 (x.its.map itD), .v (.int .i64 (2 * (k : Int))), .v (.int .i64 (2 * (k : Int) + 1)), .v (.int .i64 e1), .v (.int .i64 rl1), .v (.int .i64 rf1), .v (.int .i64 rn1), .ns .u8 []]] = (ts ++ [(⟨k, x, 2 * (k : Int), 2 * (k : Int) + 1, e1, rl1, rf1, rn1, []⟩ : Tl)]).map tlD := by rw [List.map_append]; rfl
     rw [hE] at m96 Hz
     obtain ⟨ha1, ha2, ha3⟩ := rApp_s (c := x) hRS hRV (fun e he => ((hcR x (List.mem_of_getElem? hes)).2 e he).2)
     rw [hap] at ha1 ha2 ha3; dsimp only at ha1 ha2 ha3
     have hH2 : HI (ts ++ [(⟨k, x, 2 * (k : Int), 2 * (k : Int) + 1, e1, rl1, rf1, rn1, []⟩ : Tl)]) L2 := hHI.step hRS hap
     have hT2 : TmT (ts ++ [(⟨k, x, 2 * (k : Int), 2 * (k : Int) + 1, e1, rl1, rf1, rn1, []⟩ : Tl)]) := hTm.snoc (by rw [hln]) (by rw [hln])
     exact ⟨cs.length - (k + 1), by omega, k + 1, _, _, _, _, _, L2, ts ++ [(⟨k, x, 2 * (k : Int), 2 * (k : Int) + 1, e1, rl1, rf1, rn1, []⟩ : Tl)], ps, _, _, _, _, by omega, by rw [List.length_append, hln]; rfl, by first | omega | (rw [List.length_append, List.length_singleton]; omega), (fun t ht => (List.mem_append.1 ht).elim (hts t) (fun h => ⟨x, List.mem_of_getElem? hes, by simp at h; rw [h]⟩)), hH2, hT2, hPI.keep, ha1, by omega, ha3, rfl, Hz.only [1, 2, 7, 8, 9, 10, 11], m96.ren [(1, 1), (2, 2), (8, 8), (9, 9), (10, 10)] (by decide)⟩
    intro hb62 Hz; try simp only [QQ, Qax] at hb62
    refine gz hK11 Hz (.sk <| .sk <| .sk <| .sk <| .pickF rfl rfl <| .nil) fun Az Hz => ?_
    refine wcf Hz ?_
    refine zss (hK10 _ _ ?_)
    replace Hz := Hz.oz [1, 2, 7, 8, 9, 10, 11, 14, 67]
    refine wp_region_lit ?_
    refine goCh Hz (.move rfl <| .loadBR m51 (i := 14) rfl rfl U76 rfl fct16 (by simp) (by dsimp only [List.drop, List.take] <;> rfl) .nil) fun Az Hz => ?_
    refine plz (e_litR Hz m51 500 (mm := 18) rfl (.cons rfl rfl (.cons (.v _) (.cons (.v _) (.cons (.v _) (.cons (.v _) (.cons (.v _) (.cons (.v _) (.cons (m51.rd (i := 15) rfl) (.cons (.v _) (.cons (.v _) (.cons (.v _) (.cons (m51.rd (i := 16) rfl) (.cons (.v _) (.cons (.v _) (.cons (.v _) (.cons (.v _) (.cons (.v _) (.cons (.v _) (.cons (Rd.nilN _ _ .u8 _) .nil)))))))))))))))))) .nil) U74 fct37 rfl rfl rfl rfl rfl fun g109 Az w110 Hz m110 => ?_)
    have m112 := m110.freezeR 500 rfl
    refine plz (e_appR Hz m112 9 rfl rfl rfl (m112.rd (i := 500) rfl) U74 fct37 rfl rfl (by decide) (by rw [List.length_map, List.length_singleton]; omega) rfl fun p111 c111 Az w113 Hz m113 => ?_)
    refine gz hK7 Hz (.assign rfl .nil) fun Az Hz => ?_
    refine wp_region_lit ?_
    refine goCh Hz (.move rfl <| .inc (k + 1) <| .assign rfl .nil) fun Az Hz => ?_
    refine wpList_nil ?_
    show ∃ n', n' < _ ∧ _
    have hE : (ts.map tlD) ++ [[.v (.int .i64 k), .v (.int .i64 x.kd), .v (.int .i64 x.vo), .v (.int .i64 x.bl), .v (.int .i64 x.sz), .v (.int .i64 x.pe), .ns .i64 x.pl, .v (.int .i64 x.to), .v (.int .i64 x.at0), .v (.int .i64 x.ix), .l 2 (x.its.map itD), .v (.int .i64 (2 * (k : Int))), .v (.int .i64 (2 * (k : Int) + 1)), .v (.int .i64 e1), .v (.int .i64 rl1), .v (.int .i64 rf1), .v (.int .i64 rn1), .ns .u8 []]] = (ts ++ [(⟨k, x, 2 * (k : Int), 2 * (k : Int) + 1, e1, rl1, rf1, rn1, []⟩ : Tl)]).map tlD := by rw [List.map_append]; rfl
    rw [hE] at m113 Hz
    obtain ⟨ha1, ha2, ha3⟩ := rApp_s (c := x) hRS hRV (fun e he => ((hcR x (List.mem_of_getElem? hes)).2 e he).2)
    rw [hap] at ha1 ha2 ha3; dsimp only at ha1 ha2 ha3
    have hH2 : HI (ts ++ [(⟨k, x, 2 * (k : Int), 2 * (k : Int) + 1, e1, rl1, rf1, rn1, []⟩ : Tl)]) L2 := hHI.step hRS hap
    have hT2 : TmT (ts ++ [(⟨k, x, 2 * (k : Int), 2 * (k : Int) + 1, e1, rl1, rf1, rn1, []⟩ : Tl)]) := hTm.snoc (by rw [hln]) (by rw [hln])
    exact ⟨cs.length - (k + 1), by omega, k + 1, _, _, _, _, _, L2, ts ++ [(⟨k, x, 2 * (k : Int), 2 * (k : Int) + 1, e1, rl1, rf1, rn1, []⟩ : Tl)], ps, _, _, _, _, by omega, by rw [List.length_append, hln]; rfl, by first | omega | (rw [List.length_append, List.length_singleton]; omega), (fun t ht => (List.mem_append.1 ht).elim (hts t) (fun h => ⟨x, List.mem_of_getElem? hes, by simp at h; rw [h]⟩)), hH2, hT2, hPI.keep, ha1, by omega, ha3, rfl, Hz.only [1, 2, 7, 8, 9, 10, 11], m113.ren [(1, 1), (2, 2), (8, 8), (9, 9), (10, 10)] (by decide)⟩
  replace Hz := Hz.oz [1, 2, 7, 8, 9, 10, 11, 12]
  obtain ⟨b119, o119, vs119, hp119, hR119, ho119, m119⟩ := m44.openR (i := 8) rfl (k) (r := [.v (.int .i64 x.kd), .v (.int .i64 x.vo), .v (.int .i64 x.bl), .v (.int .i64 x.sz), .v (.int .i64 x.pe), .ns .i64 x.pl, .v (.int .i64 x.to), .v (.int .i64 x.at0), .v (.int .i64 x.ix), .l 2 (x.its.map itD)]) (cmD_get hes) 404 rfl
  revert Hz
  cases hp119; clear m44 ho119
  rcases hR119 with _ | ⟨hd119_0, _ | ⟨hd119_1, _ | ⟨hd119_2, _ | ⟨hd119_3, _ | ⟨hd119_4, _ | ⟨hd119_5, _ | ⟨hd119_6, _ | ⟨hd119_7, _ | ⟨hd119_8, _ | ⟨hd119_9, _ | _⟩⟩⟩⟩⟩⟩⟩⟩⟩⟩
  obtain rfl := hd119_0.v_out
  clear hd119_0
  obtain rfl := hd119_1.v_out
  clear hd119_1
  obtain rfl := hd119_2.v_out
  clear hd119_2
  obtain rfl := hd119_3.v_out
  clear hd119_3
  obtain rfl := hd119_4.v_out
  clear hd119_4
  obtain ⟨p120, c120, hv120, hc120⟩ := hd119_5.ns_shape; subst hv120
  intro Hz
  have m120 := m119.dat 405 rfl (hd119_5.cast (fun _ h => (free_add rfl h))); clear m119 hd119_5
  revert Hz
  obtain rfl := hd119_6.v_out
  clear hd119_6
  obtain rfl := hd119_7.v_out
  clear hd119_7
  obtain rfl := hd119_8.v_out
  clear hd119_8
  obtain ⟨p121, c121, hv121, hc121⟩ := hd119_9.l_shape; subst hv121
  intro Hz
  have m121 := m120.dat 406 rfl (hd119_9.cast (fun _ h => (free_add rfl (free_add rfl h)))); clear m120 hd119_9
  have m122 := m121.oz [1, 2, 8, 9, 10, 400, 401, 402, 403, 404, 405, 406]
  refine region_p 16 (B := [(8, _), (9, _), (10, _), (400, _), (401, _), (402, _), (404, _), (405, _), (406, _)]) (m122.to ⟨il, il, il, il, il, il, il, il, il, trivial⟩) m122 (by kernel_rfl) (fun w123 hP123 m123 => ?_); clear m122
  refine goR hP123 [0, 1, 2, 3, 4, 5, 6, 7, 8, 9, 10, 11] [4] 12 0 4095 Hz (m123.to ⟨il, il, il, il, il, il, il, il, il, trivial⟩) (.move rfl <| .move rfl <| .move rfl <| .p (fun _ _ h_ => y_idx h_ rfl rfl U24 fct19 (k) rfl (by simpa using hk)) <| .loadCR hh (i := 404) rfl rfl U38 rfl fct19 <| .move rfl <| .mul rfl rfl (r := 2 * (k : Int)) (IntWalk.i64_in _ (by omega)) <| .move rfl <| .mul rfl rfl (r := 2 * (k : Int)) (IntWalk.i64_in _ (by omega)) <| .add rfl rfl (r := 2 * (k : Int) + 1) (IntWalk.i64_in _ (by omega)) <| .move rfl <| .move rfl .nil) fun Az Hz => ?_
  refine dtw 12 14 ?_ ?_
  ·
   refine ecl Hz Tryz.func15 rfl (rapply_e _ _ k R _ _ x.kd x.vo x.bl x.sz x.pe x.to x.at0 x.ix x.pl x.its _ _ _ hRV (by omega) (by omega) hRS.nodup hxo (m123.into [(1, 1), (2, 2), (3, 403)] (by decide) rfl)) ?_
   rintro e w136 ⟨L2, e1, rl1, rf1, rn1, p136, c136, rfl, hap, hm136⟩
   have mx136 := m123.back hm136 [(1, 1), (2, 2)] (by decide); clear hm136 m123
   have m136 := mx136.oz [1, 2, 8, 9, 10, 400, 401, 402, 404, 405, 406]
   refine ⟨_, rfl, ?_⟩; intro Az Hz
   refine ⟨fun _ => (m136.to ⟨il, il, il, il, il, il, il, il, il, trivial⟩), ?_⟩
   refine goA hP123 [13] 1 8191 16383 Hz (m136.to ⟨il, il, il, il, il, il, il, il, il, trivial⟩) (.p (fun _ _ h_ => y_buildG h_ rfl fct38 ps76lll rfl) .nil) fun Az Hz => ?_
   refine so 14 ?_
   refine e_alloc Hz m136 407 fct38 rfl fun g139 Az w140 Hz m140 _ _ => ?_
   refine ⟨m140.to ⟨il, il, il, il, il, il, il, il, il, trivial⟩, ?_⟩
   refine so 15 ?_
   refine stw Hz m140 407 fct16 fun w141 m141 _ => ?_
   refine ⟨m141.to ⟨il, il, il, il, il, il, il, il, il, trivial⟩, ?_⟩
   refine wpAnyE_done (by kernel_rfl) ?_ _
   show K9 _ _
   exact hC9 _ _ ⟨L2, e1, rl1, rf1, rn1, _, _, _, _, _, _, _, _, hap, Hz.only [1, 2, 7, 8, 9, 10, 11, 14], m141.ren [(1, 1), (2, 2), (8, 8), (9, 9), (10, 10), (14, 407), (15, 405), (16, 406)] (by decide)⟩
  refine e_alloc Hz m123 407 fct38 rfl fun g142 Az w143 Hz m143 _ _ => ?_
  refine ⟨fun _ => (m143.to ⟨il, il, il, il, il, il, il, il, il, trivial⟩), ?_⟩
  refine so 12 ?_
  refine ecl Hz Tryz.func15 rfl (rapply_e _ _ k R _ _ x.kd x.vo x.bl x.sz x.pe x.to x.at0 x.ix x.pl x.its _ _ _ hRV (by omega) (by omega) hRS.nodup hxo (m143.into [(1, 1), (2, 2), (3, 403)] (by decide) rfl)) ?_
  rintro e w144 ⟨L2, e1, rl1, rf1, rn1, p144, c144, rfl, hap, hm144⟩
  have mx144 := m143.back hm144 [(1, 1), (2, 2)] (by decide); clear hm144 m143
  have m144 := mx144.oz [1, 2, 8, 9, 10, 400, 401, 402, 404, 405, 406, 407]
  refine ⟨_, rfl, ?_⟩; intro Az Hz
  refine ⟨m144.to ⟨il, il, il, il, il, il, il, il, il, trivial⟩, ?_⟩
  refine goA hP123 [13] 1 24575 32767 Hz (m144.to ⟨il, il, il, il, il, il, il, il, il, trivial⟩) (.p (fun _ _ h_ => y_buildG h_ rfl fct38 ps76lll rfl) .nil) fun Az Hz => ?_
  refine so 15 ?_
  refine stw Hz m144 407 fct16 fun w147 m147 _ => ?_
  refine ⟨m147.to ⟨il, il, il, il, il, il, il, il, il, trivial⟩, ?_⟩
  refine wpAnyE_done (by kernel_rfl) ?_ _
  show K9 _ _
  exact hC9 _ _ ⟨L2, e1, rl1, rf1, rn1, _, _, _, _, _, _, _, _, hap, Hz.only [1, 2, 7, 8, 9, 10, 11, 14], m147.ren [(1, 1), (2, 2), (8, 8), (9, 9), (10, 10), (14, 407), (15, 405), (16, 406)] (by decide)⟩
 intro hb32 Hz; try simp only [QQ, Qax] at hb32
 refine wcf Hz ?_
 refine wp_exit ?_
 refine hK5 _ _ ?_
 refine wsk fun K12 hK12 => ?_
 refine regS Hz (.move rfl <| .len rfl U35 <| .lss rfl rfl .nil) fun Az Hz => ?_
 refine bc Hz 78 ?_ ?_
 ·
  intro hb151 Hz; try simp only [QQ, Qax] at hb151
  refine wct Hz ?_
  replace Hz := Hz.oz [1, 2, 7, 8, 9, 10, 11]
  refine regS Hz (.assign rfl .nil) fun Az Hz => ?_
  refine rt1 Hz ?_
  exact ⟨rfl, m27.below⟩
 intro hb151 Hz; try simp only [QQ, Qax] at hb151
 have hp2 : 2 ≤ ps.length := by have := hb151; first | omega | (simp at this; omega)
 obtain ⟨qq, hqe⟩ : ∃ qq : Nat, n1.tmod ((ps.length - 1 : Nat) : Int) = (qq : Int) := ⟨(n1.tmod ((ps.length - 1 : Nat) : Int)).toNat, (Int.toNat_of_nonneg (Int.tmod_nonneg _ hn1.1)).symm⟩
 have hqq : qq + 1 < ps.length := by have := Int.tmod_lt_of_pos n1 (b := ((ps.length - 1 : Nat) : Int)) (by omega); omega
 obtain ⟨yi, yj, ta, tb, hyi, hyj, hta, htb, hij, hka, ha9, hkb, hb9⟩ := puts_two hPI hqq
 have hil := (List.getElem?_eq_some_iff.1 hta).1
 have hjl := (List.getElem?_eq_some_iff.1 htb).1
 have hex : ∃ y ∈ R, y.vo = tb.c.vo := by obtain ⟨x, hx, hr⟩ := hHI.a tb (List.mem_of_getElem? htb) hb9 (by omega); exact ⟨x, hx, hr.1⟩
 refine wcf Hz ?_
 refine zss (hK12 _ _ ?_)
 replace Hz := Hz.oz [1, 2, 7, 8, 9, 10, 11]
 refine regS Hz (.move rfl <| .conv rfl U5 U3 (IntWalk.i64_in _ (by omega)) <| .move rfl <| .len rfl U35 <| .sub rfl rfl (r := ((ps.length - 1 : Nat) : Int)) (by rw [IntWalk.i64_in _ (by omega)]; omega) <| .rem rfl rfl (by omega) (r := (qq : Int)) hqe <| .inc (qq + 1) <| .assign rfl .nil) fun Az Hz => ?_
 refine wsk fun K13 hK13 => ?_
 have hC13 : ∀ (a : Act) (w : World), (∃ (B16 B17 u4 u5 u6 z4 z5 z6 : Nat) (u1 u2 u3 z1 z2 z3 : Option Addr), Has 166 [(2, .int .u8 n2), (8, .pointer (some ⟨B, 0, none⟩)), (9, .slice p9 (ts.map tlD).length c9), (10, .slice p10 ps.length c10), (15, .int .i64 ((qq + 1 : Nat) : Int)), (16, .pointer (some ⟨B16, 0, none⟩)), (17, .pointer (some ⟨B17, 0, none⟩))] a ∧ MemOk (cn w0) w0 [(1, .box B 32 [.slice p ((R).map volD).length c]), (2, .dat (.slice p ((R).map volD).length c) (.l 11 ((R).map volD))), (9, .dat (.slice p9 (ts.map tlD).length c9) (.l 18 (ts.map tlD))), (10, .dat (.slice p10 ps.length c10) (.ns .i64 ps)), (16, .box B16 76 [.int .i64 ta.id, .int .i64 ta.c.kd, .int .i64 ta.c.vo, .int .i64 ta.c.bl, .int .i64 ta.c.sz, .int .i64 ta.c.pe, .slice u1 ta.c.pl.length u4, .int .i64 ta.c.to, .int .i64 ta.c.at0, .int .i64 ta.c.ix, .slice u2 (ta.c.its.map itD).length u5, .int .i64 ta.fr, .int .i64 ta.to, .int .i64 ta.e9, .int .i64 ta.rl, .int .i64 ta.rf, .int .i64 ta.rn, .slice u3 ta.da.length u6]), (17, .box B17 76 [.int .i64 tb.id, .int .i64 tb.c.kd, .int .i64 tb.c.vo, .int .i64 tb.c.bl, .int .i64 tb.c.sz, .int .i64 tb.c.pe, .slice z1 tb.c.pl.length z4, .int .i64 tb.c.to, .int .i64 tb.c.at0, .int .i64 tb.c.ix, .slice z2 (tb.c.its.map itD).length z5, .int .i64 tb.fr, .int .i64 tb.to, .int .i64 tb.e9, .int .i64 tb.rl, .int .i64 tb.rf, .int .i64 tb.rn, .slice z3 tb.da.length z6])] w) → K13 a w := by
   clear Hz m27
   rintro Az w163 ⟨B16, B17, u4, u5, u6, z4, z5, z6, u1, u2, u3, z1, z2, z3, Hz, m163⟩
   refine hK13 _ _ ?_
   refine zsr fun K14 hK14 => ?_
   refine goCh Hz (.move rfl <| .fieldAddr (off := 1) rfl U76 rfl (s := 9) (by kernel_rfl) rfl <| .fa 2 rfl U38 <| .lb m163 17 U3 rfl rfl rfl .nil) fun Az Hz => ?_
   refine plz (ecl Hz Tryz.func19 rfl (rmVol_x _ _ R _ _ _ _ (by omega) (m163.into [(1, 1), (2, 2)] (by decide) rfl)) ?_)
   rintro e w172 ⟨v, there, pv1, pv2, pv3, dv1, dv2, dv3, rfl, hth, hno, hm172⟩
   have mx172 := m163.back hm172 [(1, 1), (2, 2), (500, 3), (501, 4), (502, 5)] (by decide); clear hm172 m163
   have m172 := mx172.oz [1, 2, 500, 501, 502, 9, 10, 16, 17]
   refine ⟨_, rfl, ?_⟩; intro Az Hz
   revert Hz
   obtain rfl : true = there := by cases there with | true => rfl | false => exact absurd hex (hno rfl).2
   intro Hz
   obtain ⟨hvR, hvv⟩ := hth rfl; clear hth hno
   have hvB := volS_B (hRV v hvR) (by omega)
   have hvw := hvB.2.2.1
   have hord : ordB ts v = true := hHI.ord hRS hvR hTm
   have hlb : ∀ l : List Tl, (∀ t ∈ l, ∃ x ∈ cs, t.c = x) → ∀ t ∈ l, t.c.its.length ≤ 1000000 ∧ ∀ e ∈ t.c.its, BytesL e.2 := fun l hl t ht => by obtain ⟨x, hx, he⟩ := hl t ht; rw [he]; exact ⟨by have := (hcR x hx).1.il; omega, fun e hm => ((hcR x hx).2 e hm).2⟩
   refine goCh Hz (.move rfl <| .extract rfl rfl <| .extract rfl rfl .nil) fun Az Hz => ?_
   refine plz (e_alloc Hz m172 503 fct14 rfl fun g177 Az w178 Hz m178 _ _ => ?_)
   refine plz (stw Hz m178 503 fct13 fun w179 m179 _ => ?_)
   refine gz hK14 Hz (.assign rfl .nil) fun Az Hz => ?_
   refine wsk fun K15 hK15 => ?_
   replace Hz := Hz.oz [2, 8, 9, 10, 15, 16, 17, 18, 19]
   refine zsr fun K16 hK16 => ?_
   refine goCh Hz (.move rfl <| .not rfl <| .move rfl <| .moveZ rfl <| .loadBRZ m179 (i := 503) rfl rfl U51 rfl fct13 (by simp) (by dsimp only [List.drop, List.take] <;> rfl) .nil) fun Az Hz => ?_
   refine stz Hz (ecb Hz Tryz.func38 rfl m179 (ordered_b ts v true hord _ _ _ _ _ _ _ _ _ _ _ _ _ ((m179.rd (i := 9) rfl).any) ((m179.rd (i := 502) rfl).any) (hlb ts hts) hvB.2.2.2 (by omega) hvB.2.2.1) fun Az w192 Hz m193 => ?_)
   refine gz hK16 Hz (.notZ rfl <| .pickF rfl rfl <| .nil) fun Az Hz => ?_
   refine wcf Hz ?_
   refine zss (hK15 _ _ ?_)
   replace Hz := Hz.oz [2, 8, 9, 10, 15, 16, 17, 18]
   refine zsr fun K17 hK17 => ?_
   refine goCh Hz (.move rfl .nil) fun Az Hz => ?_
   have m200 := m193.nilR 504 76 18
   refine plz (e_appR Hz m200 504 rfl rfl rfl (m200.rd (i := 9) rfl) U74 fct37 rfl rfl (by decide) (by simp only [List.length_map, List.length_nil]; omega) rfl fun p201 c201 Az w202 Hz m202 => ?_)
   rw [List.nil_append] at m202 Hz
   have m203 := m202.rowS 504 rfl
   refine gz hK17 Hz (.assign rfl .nil) fun Az Hz => ?_
   refine wsk fun K18 hK18 => ?_
   have hC18 : ∀ (a : Act) (w : World), (∃ (bs : List Tl) (B18 d1 d2 d3 c20 : Nat) (p1 p2 p3 p20 : Option Addr), ordB bs v = false ∧ bs.length = ts.length ∧ (∀ t ∈ bs, ∃ x ∈ cs, t.c = x) ∧ Has 166 [(18, .pointer (some ⟨B18, 0, none⟩)), (20, .slice p20 (bs.map tlD).length c20)] a ∧ MemOk (cn w0) w0 [(18, .box B18 51 [.int .i64 v.vo, .int .i64 v.bl, .int .i64 v.sz, .int .i64 v.pe, .slice p1 v.place.length d1, .int .i64 v.to, .int .i64 v.ne, .bool v.hi, .int .i64 v.fl, .slice p2 v.pins.length d2, .slice p3 (v.ws.map wrD).length d3]), (3, .dat (.slice p3 (v.ws.map wrD).length d3) (.l 2 (v.ws.map wrD))), (20, .seg (.slice p20 (bs.map tlD).length c20) 76 18 (bs.map tlD))] w) → K18 a w := by
     clear Hz m203
     rintro Az w205 ⟨bs, B18, d1, d2, d3, c20, p1, p2, p3, p20, hbs, hbl, hbc, Hz, m205⟩
     refine hK18 _ _ ?_
     refine zsr fun K19 hK19 => ?_
     refine goCh Hz (.move rfl <| .loadBR m205 (i := 18) rfl rfl U51 rfl fct13 (by simp) (by dsimp only [List.drop, List.take] <;> rfl) .nil) fun Az Hz => ?_
     refine plz (ecb Hz Tryz.func38 rfl m205 (ordered_b bs v false hbs _ _ _ _ _ _ _ _ _ _ _ _ _ (((m205.ok 20 _ rfl : Res.ok _ _ _ _ (.seg _ _ _ _)).1.rd (S' := fun _ => True) (fun _ _ _ => trivial) (fun _ _ => trivial))) ((m205.rd (i := 3) rfl).any) (hlb bs hbc) hvB.2.2.2 (by omega) hvB.2.2.1) fun Az w210 Hz m211 => ?_)
     refine gz hK19 Hz (.not rfl <| .assign rfl <| .nil) fun Az Hz => ?_
     refine rt1 Hz ?_
     exact ⟨rfl, m211.below⟩
   refine regS Hz (.move rfl <| .rem rfl rfl (by decide) rfl .nil) fun Az Hz => ?_
   refine wp_block ?_
   refine regS Hz (.eql rfl rfl <| .assign rfl .nil) fun Az Hz => ?_
   refine bc Hz 139 ?_ ?_
   ·
    intro hb219 Hz; try simp only [QQ, Qax] at hb219
    refine wct Hz ?_
    obtain ⟨b220, o220, hp220, m220⟩ := m203.openN (i := 10) rfl (qq + 1) (show qq + 1 < ps.length by omega) 505 rfl
    revert Hz
    cases hp220
    intro Hz
    obtain ⟨gs221, os221, vs221, hp221, hl221, hR221, hrg221⟩ := m220.openS (i := 504) rfl (yj) (r := [.v (.int .i64 tb.id), .v (.int .i64 tb.c.kd), .v (.int .i64 tb.c.vo), .v (.int .i64 tb.c.bl), .v (.int .i64 tb.c.sz), .v (.int .i64 tb.c.pe), .ns .i64 tb.c.pl, .v (.int .i64 tb.c.to), .v (.int .i64 tb.c.at0), .v (.int .i64 tb.c.ix), .l 2 (tb.c.its.map itD), .v (.int .i64 tb.fr), .v (.int .i64 tb.to), .v (.int .i64 tb.e9), .v (.int .i64 tb.rl), .v (.int .i64 tb.rf), .v (.int .i64 tb.rn), .ns .u8 tb.da]) (tl_get htb)
    revert Hz
    cases hp221; clear hl221 hR221 hrg221 vs221
    intro Hz
    have m222 := m220.oz [1, 2, 9, 10, 16, 17, 500, 501, 502, 503, 504, 505]
    refine region_p 11 (B := [(1, _), (2, _), (9, _), (10, _), (16, _), (17, _), (500, _), (501, _), (502, _), (503, _), (504, _), (505, _)]) (m222.to ⟨il, il, il, il, il, il, il, il, il, il, il, il, trivial⟩) m222 (by kernel_rfl) (fun w223 hP223 m223 => ?_); clear m222
    refine goR hP223 [0, 1, 2, 3, 4, 5] [4, 5] 6 0 63 Hz (m223.to ⟨il, il, il, il, il, il, il, il, il, il, il, il, trivial⟩) (.move rfl <| .move rfl <| .move rfl <| .p (fun _ _ h_ => y_idx h_ rfl rfl U35 fct15 (qq + 1) rfl (show qq + 1 < ps.length by omega)) <| .loadC0 hh (i := 505) rfl rfl U3 rfl <| .loadBR hh (i := 503) rfl rfl U51 rfl fct13 (by simp) (by dsimp only [List.drop, List.take] <;> rfl) .nil) fun Az Hz => ?_
    refine so 6 ?_
    refine ecb Hz Tryz.func39 rfl m223 (rlen_any _ _ _ _ _ _ _ _ _ _ _ _ _ _ _ _ _ _ ) fun Az w230 Hz m231 => ?_
    refine ⟨m231.to ⟨il, il, il, il, il, il, il, il, il, il, il, il, trivial⟩, ?_⟩
    refine goA hP223 [7, 8, 9, 10] 4 127 2047 Hz (m231.to ⟨il, il, il, il, il, il, il, il, il, il, il, il, trivial⟩) (.add rfl rfl (r := (v.ws.length : Int) + 1) (by rw [List.length_map]; exact IntWalk.i64_in _ (by omega)) <| .p (fun _ _ h_ => y_idx h_ rfl rfl U74 fct16 (yj) hyj (by rw [List.length_map]; exact hjl)) <| .fieldAddrQ 13 rfl U76 rfl (s := 4) (by kernel_rfl) rfl <| .fieldAddrQ 1 rfl U44 rfl (s := 0) (by kernel_rfl) rfl .nil) fun Az Hz => ?_
    refine se 11 ?_
    refine e_storeSV Hz m231 504 rfl (yj) (r := [.v (.int .i64 tb.id), .v (.int .i64 tb.c.kd), .v (.int .i64 tb.c.vo), .v (.int .i64 tb.c.bl), .v (.int .i64 tb.c.sz), .v (.int .i64 tb.c.pe), .ns .i64 tb.c.pl, .v (.int .i64 tb.c.to), .v (.int .i64 tb.c.at0), .v (.int .i64 tb.c.ix), .l 2 (tb.c.its.map itD), .v (.int .i64 tb.fr), .v (.int .i64 tb.to), .v (.int .i64 tb.e9), .v (.int .i64 tb.rl), .v (.int .i64 tb.rf), .v (.int .i64 tb.rn), .ns .u8 tb.da]) (tl_get htb) (q := 14) rfl rfl rfl rfl rfl fct18 fun w237 m237 => ?_
    have hset : ((ts.map tlD)).set yj (List.set [.v (.int .i64 tb.id), .v (.int .i64 tb.c.kd), .v (.int .i64 tb.c.vo), .v (.int .i64 tb.c.bl), .v (.int .i64 tb.c.sz), .v (.int .i64 tb.c.pe), .ns .i64 tb.c.pl, .v (.int .i64 tb.c.to), .v (.int .i64 tb.c.at0), .v (.int .i64 tb.c.ix), .l 2 (tb.c.its.map itD), .v (.int .i64 tb.fr), .v (.int .i64 tb.to), .v (.int .i64 tb.e9), .v (.int .i64 tb.rl), .v (.int .i64 tb.rf), .v (.int .i64 tb.rn), .ns .u8 tb.da] 14 (D.v (.int .i64 ((v.ws.length : Int) + 1)))) = (ts.set yj { tb with rl := ((v.ws.length : Int) + 1) }).map tlD := by rw [List.map_set]; rfl
    rw [hset] at m237
    rw [show (List.map tlD ts).length = (List.map tlD (ts.set yj { tb with rl := ((v.ws.length : Int) + 1) })).length from by simp] at Hz m237
    refine wpAnyE_done (by kernel_rfl) ?_ _
    show K18 _ _
    exact hC18 _ _ ⟨ts.set yj { tb with rl := ((v.ws.length : Int) + 1) }, _, _, _, _, _, _, _, _, _, (lie_far hTm htb hvv.symm hkb hb9 (.inr (by omega))), by rw [List.length_set], set_tl hts htb, Hz.only [18, 20], m237.ren [(18, 503), (3, 502), (20, 504)] (by decide)⟩
   intro hb219 Hz; try simp only [QQ, Qax] at hb219
   refine wcf Hz ?_
   refine regS Hz (.eql rfl rfl <| .assign rfl .nil) fun Az Hz => ?_
   refine bc Hz 152 ?_ ?_
   ·
    intro hb240 Hz; try simp only [QQ, Qax] at hb240
    refine wct Hz ?_
    replace Hz := Hz.oz [2, 8, 9, 10, 15, 16, 17, 18, 20]
    refine wp_region_lit ?_
    refine goCh Hz (.move rfl <| .move rfl <| .move rfl .nil) fun Az Hz => ?_
    obtain ⟨b245, o245, hp245, m245⟩ := m203.openN (i := 10) rfl (qq + 1) (show qq + 1 < ps.length by omega) 505 rfl
    revert Hz
    cases hp245
    intro Hz
    refine goCh Hz (.c rfl (fun _ h_ => y_idx h_ rfl rfl U35 fct15 (qq + 1) rfl (show qq + 1 < ps.length by omega)) <| .loadC0 m245 (i := 505) rfl rfl U3 rfl .nil) fun Az Hz => ?_
    obtain ⟨gs248, os248, vs248, hp248, hl248, hR248, hrg248⟩ := m245.openS (i := 504) rfl (yj) (r := [.v (.int .i64 tb.id), .v (.int .i64 tb.c.kd), .v (.int .i64 tb.c.vo), .v (.int .i64 tb.c.bl), .v (.int .i64 tb.c.sz), .v (.int .i64 tb.c.pe), .ns .i64 tb.c.pl, .v (.int .i64 tb.c.to), .v (.int .i64 tb.c.at0), .v (.int .i64 tb.c.ix), .l 2 (tb.c.its.map itD), .v (.int .i64 tb.fr), .v (.int .i64 tb.to), .v (.int .i64 tb.e9), .v (.int .i64 tb.rl), .v (.int .i64 tb.rf), .v (.int .i64 tb.rn), .ns .u8 tb.da]) (tl_get htb)
    revert Hz
    cases hp248; clear hl248 hR248 hrg248 vs248
    intro Hz
    refine goCh Hz (.c rfl (fun _ h_ => y_idx h_ rfl rfl U74 fct16 (yj) hyj (by rw [List.length_map]; exact hjl)) <| .fieldAddrQ 13 rfl U76 rfl (s := 4) (by kernel_rfl) rfl <| .fieldAddrQ 1 rfl U44 rfl (s := 0) (by kernel_rfl) rfl .nil) fun Az Hz => ?_
    refine plz (e_storeSV Hz m245 504 rfl (yj) (r := [.v (.int .i64 tb.id), .v (.int .i64 tb.c.kd), .v (.int .i64 tb.c.vo), .v (.int .i64 tb.c.bl), .v (.int .i64 tb.c.sz), .v (.int .i64 tb.c.pe), .ns .i64 tb.c.pl, .v (.int .i64 tb.c.to), .v (.int .i64 tb.c.at0), .v (.int .i64 tb.c.ix), .l 2 (tb.c.its.map itD), .v (.int .i64 tb.fr), .v (.int .i64 tb.to), .v (.int .i64 tb.e9), .v (.int .i64 tb.rl), .v (.int .i64 tb.rf), .v (.int .i64 tb.rn), .ns .u8 tb.da]) (tl_get htb) (q := 14) rfl rfl rfl rfl rfl fct18 fun w252 m252 => ?_)
    have hset : ((ts.map tlD)).set yj (List.set [.v (.int .i64 tb.id), .v (.int .i64 tb.c.kd), .v (.int .i64 tb.c.vo), .v (.int .i64 tb.c.bl), .v (.int .i64 tb.c.sz), .v (.int .i64 tb.c.pe), .ns .i64 tb.c.pl, .v (.int .i64 tb.c.to), .v (.int .i64 tb.c.at0), .v (.int .i64 tb.c.ix), .l 2 (tb.c.its.map itD), .v (.int .i64 tb.fr), .v (.int .i64 tb.to), .v (.int .i64 tb.e9), .v (.int .i64 tb.rl), .v (.int .i64 tb.rf), .v (.int .i64 tb.rn), .ns .u8 tb.da] 14 (D.v (.int .i64 0))) = (ts.set yj { tb with rl := 0 }).map tlD := by rw [List.map_set]; rfl
    rw [hset] at m252
    rw [show (List.map tlD ts).length = (List.map tlD (ts.set yj { tb with rl := 0 })).length from by simp] at Hz m252
    refine wpList_nil ?_
    show K18 _ _
    exact hC18 _ _ ⟨ts.set yj { tb with rl := 0 }, _, _, _, _, _, _, _, _, _, (lie_far hTm htb hvv.symm hkb hb9 (.inl (by omega))), by rw [List.length_set], set_tl hts htb, Hz.only [18, 20], m252.ren [(18, 503), (3, 502), (20, 504)] (by decide)⟩
   intro hb240 Hz; try simp only [QQ, Qax] at hb240
   refine wcf Hz ?_
   refine wsk fun K20 hK20 => ?_
   replace Hz := Hz.oz [2, 8, 9, 10, 15, 16, 17, 18, 20]
   refine regS Hz (.fieldAddr (off := 1) rfl U76 rfl (s := 9) (by kernel_rfl) rfl <| .fa 2 rfl U38 <| .lb m203 16 U3 rfl rfl rfl <| .fieldAddr (off := 1) rfl U76 rfl (s := 9) (by kernel_rfl) rfl <| .fa 2 rfl U38 <| .lb m203 17 U3 rfl rfl rfl <| .neq rfl rfl .nil) fun Az Hz => ?_
   refine bc Hz 127 ?_ ?_
   ·
    intro hb261 Hz; try simp only [QQ, Qax] at hb261
    refine wct Hz ?_
    replace Hz := Hz.oz [2, 8, 9, 10, 15, 16, 18, 20]
    refine regS Hz (.assign rfl .nil) fun Az Hz => ?_
    refine rt1 Hz ?_
    exact ⟨rfl, m203.below⟩
   intro hb261 Hz; try simp only [QQ, Qax] at hb261
   have hvab : ta.c.vo = tb.c.vo := by have := hb261; first | omega | (simp at this; omega)
   refine wcf Hz ?_
   refine zss (hK20 _ _ ?_)
   replace Hz := Hz.oz [2, 8, 9, 10, 15, 16, 18, 20]
   obtain ⟨b265, o265, hp265, m265⟩ := m203.openN (i := 10) rfl (qq + 1) (show qq + 1 < ps.length by omega) 505 rfl
   revert Hz
   cases hp265
   intro Hz
   obtain ⟨gs266, os266, vs266, hp266, hl266, hR266, hrg266⟩ := m265.openS (i := 504) rfl (yj) (r := [.v (.int .i64 tb.id), .v (.int .i64 tb.c.kd), .v (.int .i64 tb.c.vo), .v (.int .i64 tb.c.bl), .v (.int .i64 tb.c.sz), .v (.int .i64 tb.c.pe), .ns .i64 tb.c.pl, .v (.int .i64 tb.c.to), .v (.int .i64 tb.c.at0), .v (.int .i64 tb.c.ix), .l 2 (tb.c.its.map itD), .v (.int .i64 tb.fr), .v (.int .i64 tb.to), .v (.int .i64 tb.e9), .v (.int .i64 tb.rl), .v (.int .i64 tb.rf), .v (.int .i64 tb.rn), .ns .u8 tb.da]) (tl_get htb)
   revert Hz
   cases hp266; clear hl266 hR266 hrg266 vs266
   intro Hz
   have m267 := m265.oz [1, 2, 9, 10, 16, 17, 500, 501, 502, 503, 504, 505]
   refine region_p 11 (B := [(1, _), (2, _), (9, _), (10, _), (16, _), (17, _), (500, _), (501, _), (502, _), (503, _), (504, _), (505, _)]) (m267.to ⟨il, il, il, il, il, il, il, il, il, il, il, il, trivial⟩) m267 (by kernel_rfl) (fun w268 hP268 m268 => ?_); clear m267
   refine goR hP268 [0, 1, 2, 3, 4, 5, 6, 7, 8, 9, 10] [4, 7] 11 0 2047 Hz (m268.to ⟨il, il, il, il, il, il, il, il, il, il, il, il, trivial⟩) (.move rfl <| .move rfl <| .move rfl <| .p (fun _ _ h_ => y_idx h_ rfl rfl U35 fct15 (qq + 1) rfl (show qq + 1 < ps.length by omega)) <| .loadC0 hh (i := 505) rfl rfl U3 rfl <| .fieldAddr (off := 13) rfl U76 rfl (s := 4) (by kernel_rfl) rfl <| .fa 14 rfl U44 <| .lb hh 16 U2 rfl rfl rfl <| .p (fun _ _ h_ => y_idx h_ rfl rfl U74 fct16 (yj) hyj (by rw [List.length_map]; exact hjl)) <| .fieldAddrQ 13 rfl U76 rfl (s := 4) (by kernel_rfl) rfl <| .fieldAddrQ 1 rfl U44 rfl (s := 0) (by kernel_rfl) rfl .nil) fun Az Hz => ?_
   refine se 11 ?_
   refine e_storeSV Hz m268 504 rfl (yj) (r := [.v (.int .i64 tb.id), .v (.int .i64 tb.c.kd), .v (.int .i64 tb.c.vo), .v (.int .i64 tb.c.bl), .v (.int .i64 tb.c.sz), .v (.int .i64 tb.c.pe), .ns .i64 tb.c.pl, .v (.int .i64 tb.c.to), .v (.int .i64 tb.c.at0), .v (.int .i64 tb.c.ix), .l 2 (tb.c.its.map itD), .v (.int .i64 tb.fr), .v (.int .i64 tb.to), .v (.int .i64 tb.e9), .v (.int .i64 tb.rl), .v (.int .i64 tb.rf), .v (.int .i64 tb.rn), .ns .u8 tb.da]) (tl_get htb) (q := 14) rfl rfl rfl rfl rfl fct18 fun w280 m280 => ?_
   have hset : ((ts.map tlD)).set yj (List.set [.v (.int .i64 tb.id), .v (.int .i64 tb.c.kd), .v (.int .i64 tb.c.vo), .v (.int .i64 tb.c.bl), .v (.int .i64 tb.c.sz), .v (.int .i64 tb.c.pe), .ns .i64 tb.c.pl, .v (.int .i64 tb.c.to), .v (.int .i64 tb.c.at0), .v (.int .i64 tb.c.ix), .l 2 (tb.c.its.map itD), .v (.int .i64 tb.fr), .v (.int .i64 tb.to), .v (.int .i64 tb.e9), .v (.int .i64 tb.rl), .v (.int .i64 tb.rf), .v (.int .i64 tb.rn), .ns .u8 tb.da] 14 (D.v (.int .i64 ta.rl))) = (ts.set yj { tb with rl := ta.rl }).map tlD := by rw [List.map_set]; rfl
   rw [hset] at m280
   rw [show (List.map tlD ts).length = (List.map tlD (ts.set yj { tb with rl := ta.rl })).length from by simp] at Hz m280
   refine wpAnyE_done (by kernel_rfl) ?_ _
   show K18 _ _
   exact hC18 _ _ ⟨ts.set yj { tb with rl := ta.rl }, _, _, _, _, _, _, _, _, _, (lie_same hTm hij hta htb (hvab.trans hvv.symm) hvv.symm hka hkb ha9 hb9), by rw [List.length_set], set_tl hts htb, Hz.only [18, 20], m280.ren [(18, 503), (3, 502), (20, 504)] (by decide)⟩
 replace Hz := Hz.oz [1, 2, 7, 8, 9, 10, 11, 15]
 have m282 := m27.freezeR 9 rfl
 have m283 := m282.freezeN 10 rfl
 obtain ⟨b284, o284, hp284, m284⟩ := m283.openN (i := 10) rfl (qq) (show qq < ps.length by omega) 400 rfl
 revert Hz
 cases hp284
 intro Hz
 obtain ⟨b285, o285, vs285, hp285, hR285, ho285, m285⟩ := m284.openR (i := 9) rfl (yi) (r := [.v (.int .i64 ta.id), .v (.int .i64 ta.c.kd), .v (.int .i64 ta.c.vo), .v (.int .i64 ta.c.bl), .v (.int .i64 ta.c.sz), .v (.int .i64 ta.c.pe), .ns .i64 ta.c.pl, .v (.int .i64 ta.c.to), .v (.int .i64 ta.c.at0), .v (.int .i64 ta.c.ix), .l 2 (ta.c.its.map itD), .v (.int .i64 ta.fr), .v (.int .i64 ta.to), .v (.int .i64 ta.e9), .v (.int .i64 ta.rl), .v (.int .i64 ta.rf), .v (.int .i64 ta.rn), .ns .u8 ta.da]) (tl_get hta) 401 rfl
 revert Hz
 cases hp285; clear m284 ho285
 rcases hR285 with _ | ⟨hd285_0, _ | ⟨hd285_1, _ | ⟨hd285_2, _ | ⟨hd285_3, _ | ⟨hd285_4, _ | ⟨hd285_5, _ | ⟨hd285_6, _ | ⟨hd285_7, _ | ⟨hd285_8, _ | ⟨hd285_9, _ | ⟨hd285_10, _ | ⟨hd285_11, _ | ⟨hd285_12, _ | ⟨hd285_13, _ | ⟨hd285_14, _ | ⟨hd285_15, _ | ⟨hd285_16, _ | ⟨hd285_17, _ | _⟩⟩⟩⟩⟩⟩⟩⟩⟩⟩⟩⟩⟩⟩⟩⟩⟩⟩
 obtain rfl := hd285_0.v_out
 clear hd285_0
 obtain rfl := hd285_1.v_out
 clear hd285_1
 obtain rfl := hd285_2.v_out
 clear hd285_2
 obtain rfl := hd285_3.v_out
 clear hd285_3
 obtain rfl := hd285_4.v_out
 clear hd285_4
 obtain rfl := hd285_5.v_out
 clear hd285_5
 obtain ⟨p286, c286, hv286, hc286⟩ := hd285_6.ns_shape; subst hv286
 intro Hz
 have m286 := m285.dat 402 rfl (hd285_6.cast (fun _ h => (free_add rfl h))); clear m285 hd285_6
 revert Hz
 obtain rfl := hd285_7.v_out
 clear hd285_7
 obtain rfl := hd285_8.v_out
 clear hd285_8
 obtain rfl := hd285_9.v_out
 clear hd285_9
 obtain ⟨p287, c287, hv287, hc287⟩ := hd285_10.l_shape; subst hv287
 intro Hz
 have m287 := m286.dat 403 rfl (hd285_10.cast (fun _ h => (free_add rfl (free_add rfl h)))); clear m286 hd285_10
 revert Hz
 obtain rfl := hd285_11.v_out
 clear hd285_11
 obtain rfl := hd285_12.v_out
 clear hd285_12
 obtain rfl := hd285_13.v_out
 clear hd285_13
 obtain rfl := hd285_14.v_out
 clear hd285_14
 obtain rfl := hd285_15.v_out
 clear hd285_15
 obtain rfl := hd285_16.v_out
 clear hd285_16
 obtain ⟨p288, c288, hv288, hc288⟩ := hd285_17.ns_shape; subst hv288
 intro Hz
 have m288 := m287.dat 404 rfl (hd285_17.cast (fun _ h => (free_add rfl (free_add rfl (free_add rfl h))))); clear m287 hd285_17
 obtain ⟨b289, o289, hp289, m289⟩ := m288.openN (i := 10) rfl (qq + 1) (show qq + 1 < ps.length by omega) 405 rfl
 revert Hz
 cases hp289
 intro Hz
 obtain ⟨b290, o290, vs290, hp290, hR290, ho290, m290⟩ := m289.openR (i := 9) rfl (yj) (r := [.v (.int .i64 tb.id), .v (.int .i64 tb.c.kd), .v (.int .i64 tb.c.vo), .v (.int .i64 tb.c.bl), .v (.int .i64 tb.c.sz), .v (.int .i64 tb.c.pe), .ns .i64 tb.c.pl, .v (.int .i64 tb.c.to), .v (.int .i64 tb.c.at0), .v (.int .i64 tb.c.ix), .l 2 (tb.c.its.map itD), .v (.int .i64 tb.fr), .v (.int .i64 tb.to), .v (.int .i64 tb.e9), .v (.int .i64 tb.rl), .v (.int .i64 tb.rf), .v (.int .i64 tb.rn), .ns .u8 tb.da]) (tl_get htb) 406 rfl
 revert Hz
 cases hp290; clear m289 ho290
 rcases hR290 with _ | ⟨hd290_0, _ | ⟨hd290_1, _ | ⟨hd290_2, _ | ⟨hd290_3, _ | ⟨hd290_4, _ | ⟨hd290_5, _ | ⟨hd290_6, _ | ⟨hd290_7, _ | ⟨hd290_8, _ | ⟨hd290_9, _ | ⟨hd290_10, _ | ⟨hd290_11, _ | ⟨hd290_12, _ | ⟨hd290_13, _ | ⟨hd290_14, _ | ⟨hd290_15, _ | ⟨hd290_16, _ | ⟨hd290_17, _ | _⟩⟩⟩⟩⟩⟩⟩⟩⟩⟩⟩⟩⟩⟩⟩⟩⟩⟩
 obtain rfl := hd290_0.v_out
 clear hd290_0
 obtain rfl := hd290_1.v_out
 clear hd290_1
 obtain rfl := hd290_2.v_out
 clear hd290_2
 obtain rfl := hd290_3.v_out
 clear hd290_3
 obtain rfl := hd290_4.v_out
 clear hd290_4
 obtain rfl := hd290_5.v_out
 clear hd290_5
 obtain ⟨p291, c291, hv291, hc291⟩ := hd290_6.ns_shape; subst hv291
 intro Hz
 have m291 := m290.dat 407 rfl (hd290_6.cast (fun _ h => (free_add rfl h))); clear m290 hd290_6
 revert Hz
 obtain rfl := hd290_7.v_out
 clear hd290_7
 obtain rfl := hd290_8.v_out
 clear hd290_8
 obtain rfl := hd290_9.v_out
 clear hd290_9
 obtain ⟨p292, c292, hv292, hc292⟩ := hd290_10.l_shape; subst hv292
 intro Hz
 have m292 := m291.dat 408 rfl (hd290_10.cast (fun _ h => (free_add rfl (free_add rfl h)))); clear m291 hd290_10
 revert Hz
 obtain rfl := hd290_11.v_out
 clear hd290_11
 obtain rfl := hd290_12.v_out
 clear hd290_12
 obtain rfl := hd290_13.v_out
 clear hd290_13
 obtain rfl := hd290_14.v_out
 clear hd290_14
 obtain rfl := hd290_15.v_out
 clear hd290_15
 obtain rfl := hd290_16.v_out
 clear hd290_16
 obtain ⟨p293, c293, hv293, hc293⟩ := hd290_17.ns_shape; subst hv293
 intro Hz
 have m293 := m292.dat 409 rfl (hd290_17.cast (fun _ h => (free_add rfl (free_add rfl (free_add rfl h))))); clear m292 hd290_17
 have m294 := m293.oz [1, 2, 8, 9, 10, 400, 401, 402, 403, 404, 405, 406, 407, 408, 409]
 refine region_p 19 (B := [(1, _), (2, _), (8, _), (9, _), (10, _), (400, _), (401, _), (402, _), (403, _), (404, _), (405, _), (406, _), (407, _), (408, _), (409, _)]) (m294.to ⟨il, il, il, il, il, il, il, il, il, il, il, il, il, il, il, trivial⟩) m294 (by kernel_rfl) (fun w295 hP295 m295 => ?_); clear m294
 refine goR hP295 [0, 1, 2, 3, 4, 5, 6, 7, 8, 9, 10, 11, 12, 13, 14] [5, 7, 12, 14] 15 0 32767 Hz (m295.to ⟨il, il, il, il, il, il, il, il, il, il, il, il, il, il, il, trivial⟩) (.move rfl <| .move rfl <| .move rfl <| .sub rfl rfl (r := (qq : Int)) (by rw [IntWalk.i64_in _ (by omega)]; omega) <| .p (fun _ _ h_ => y_idx h_ rfl rfl U35 fct15 (qq) rfl (show qq < ps.length by omega)) <| .loadC0 hh (i := 400) rfl rfl U3 rfl <| .p (fun _ _ h_ => y_idx h_ rfl rfl U74 fct16 (yi) hyi (by rw [List.length_map]; exact hil)) <| .loadCR hh (i := 401) rfl rfl U76 rfl fct16 <| .move rfl <| .move rfl <| .move rfl <| .p (fun _ _ h_ => y_idx h_ rfl rfl U35 fct15 (qq + 1) rfl (show qq + 1 < ps.length by omega)) <| .loadC0 hh (i := 405) rfl rfl U3 rfl <| .p (fun _ _ h_ => y_idx h_ rfl rfl U74 fct16 (yj) hyj (by rw [List.length_map]; exact hjl)) <| .loadCR hh (i := 406) rfl rfl U76 rfl fct16 .nil) fun Az Hz => ?_
 refine dtw 15 16 ?_ ?_
 ·
  refine e_alloc Hz m295 410 fct38 rfl fun g311 Az w312 Hz m312 _ _ => ?_
  refine ⟨fun _ => (m312.to ⟨il, il, il, il, il, il, il, il, il, il, il, il, il, il, il, trivial⟩), ?_⟩
  refine so 16 ?_
  refine e_alloc Hz m312 411 fct38 rfl fun g313 Az w314 Hz m314 _ _ => ?_
  refine ⟨m314.to ⟨il, il, il, il, il, il, il, il, il, il, il, il, il, il, il, trivial⟩, ?_⟩
  refine so 17 ?_
  refine stw Hz m314 410 fct16 fun w315 m315 _ => ?_
  refine ⟨m315.to ⟨il, il, il, il, il, il, il, il, il, il, il, il, il, il, il, trivial⟩, ?_⟩
  refine so 18 ?_
  refine stw Hz m315 411 fct16 fun w316 m316 _ => ?_
  refine ⟨m316.to ⟨il, il, il, il, il, il, il, il, il, il, il, il, il, il, il, trivial⟩, ?_⟩
  refine wpAnyE_done (by kernel_rfl) ?_ _
  show K13 _ _
  exact hC13 _ _ ⟨_, _, _, _, _, _, _, _, _, _, _, _, _, _, Hz.only [2, 8, 9, 10, 15, 16, 17], m316.ren [(1, 1), (2, 2), (9, 9), (10, 10), (16, 410), (17, 411)] (by decide)⟩
 refine e_alloc Hz m295 410 fct38 rfl fun g317 Az w318 Hz m318 _ _ => ?_
 refine ⟨fun _ => (m318.to ⟨il, il, il, il, il, il, il, il, il, il, il, il, il, il, il, trivial⟩), ?_⟩
 refine so 15 ?_
 refine e_alloc Hz m318 411 fct38 rfl fun g319 Az w320 Hz m320 _ _ => ?_
 refine ⟨m320.to ⟨il, il, il, il, il, il, il, il, il, il, il, il, il, il, il, trivial⟩, ?_⟩
 refine so 17 ?_
 refine stw Hz m320 411 fct16 fun w321 m321 _ => ?_
 refine ⟨m321.to ⟨il, il, il, il, il, il, il, il, il, il, il, il, il, il, il, trivial⟩, ?_⟩
 refine so 18 ?_
 refine stw Hz m321 410 fct16 fun w322 m322 _ => ?_
 refine ⟨m322.to ⟨il, il, il, il, il, il, il, il, il, il, il, il, il, il, il, trivial⟩, ?_⟩
 refine wpAnyE_done (by kernel_rfl) ?_ _
 show K13 _ _
 exact hC13 _ _ ⟨_, _, _, _, _, _, _, _, _, _, _, _, _, _, Hz.only [2, 8, 9, 10, 15, 16, 17], m322.ren [(1, 1), (2, 2), (9, 9), (10, 10), (16, 411), (17, 410)] (by decide)⟩
end
end Go.Proofs.YtkehgingagggaaaGreat.K
