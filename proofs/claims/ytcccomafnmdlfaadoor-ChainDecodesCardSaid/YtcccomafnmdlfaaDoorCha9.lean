/- ChainDecodes' walk. -/
import Derived.Test.YtcccomafnmdlfaaDoorCha8
import Derived.Test.YtcccomafnmdlfaaDoorStr15m
namespace Go.Proofs.YtcccomafnmdlfaaDoor.K
open Go.ChangeShapes Go.WideShapes Go.ChangeAt Go.RowKit
set_option linter.unusedVariables false
set_option linter.unusedSimpArgs false
theorem SegCh.by {y : VolV} {ss : List StrV} (h : SegCh y (-1) ss) (hw : WBy y.ws) : ∀ s ∈ ss, ∀ e ∈ s.its, BytesL e.2 := fun s hs e he => by
 obtain ⟨a, t, _, _, _, rfl⟩ := h.mem (by omega) s hs
 obtain ⟨j, -, hj⟩ := List.mem_filterMap.1 he
 unfold segF at hj
 split at hj
 · obtain rfl := Option.some.inj hj; exact stL_by hw _ _ _ _
 cases hj
theorem str_len8 (bl sz fr to : Int) (its : List (Int × List Int)) : 8 ≤ (strB bl sz fr to its).length := by
 rw [strB, bodyB, headB, List.length_append, List.length_append, sealC_len, fourC_len, List.length_append]; have : magicB.length = 5 := rfl; omega
theorem bytesSet {l : List Int} {A : Nat} {v : Int} (h : BytesL l) (hv : 0 ≤ v ∧ v ≤ 255) : BytesL (l.set A v) := fun x hx => (List.mem_or_eq_of_mem_set hx).elim (h x) (fun e => e ▸ hv)
theorem gmem {α : Type} {l : List α} {d : α} {j : Nat} (h : j < l.length) : l.getD j d ∈ l := by
 rw [List.getD, List.getElem?_eq_getElem h]; exact List.getElem_mem _
theorem lD_get {L : List (List (List Int))} {k : Nat} (h : k < L.length) : (L.map (fun y : List (List Int) => [D.l 1 (y.map bD)]))[k]? = some [.l 1 ((L.getD k []).map bD)] := by simp [List.getD, h]
set_option maxRecDepth 100000
set_option maxHeartbeats 4000000
theorem decodes_walk (l ts : List Int) (raw : List (List Int)) (av xv wv : Nat) (pl pt0 pr : Option Addr) (cl ct0 cr : Nat) (w0 : World) (hT : TabOk w0) (h01 : 1 ≤ w0.heap.size) (h1 : Rd (fun _ => True) w0 (.slice pl l.length cl) (.ns .u8 l)) (h2 : Rd (fun _ => True) w0 (.slice pt0 ts.length ct0) (.ns .u8 ts)) (h3 : Rd (fun _ => True) w0 (.slice pr raw.length cr) (.l 1 (raw.map bD))) (hlb : ∀ j, j < l.length → 0 ≤ l.getD j 0 ∧ l.getD j 0 ≤ 255) (htb : ∀ j, j < ts.length → 0 ≤ ts.getD j 0 ∧ ts.getD j 0 ≤ 255) (hrby : ∀ x ∈ raw, BytesL x) (ha9 : av ≤ 65535) (hx9 : xv < 256) (hw9 : wv < 256) :
   Calls Tryd.prog 3 #[.slice pl l.length cl, .slice pt0 ts.length ct0, .slice pr raw.length cr, .int .u16 (av : Int), .int .u8 (xv : Int), .int .u8 (wv : Int)] w0 fun e w' => e = .returned (.bool true) ∧ Below w0.heap.size w0 w' := by
 refine ent6 Tryd.func3 rfl Tryd.ntmps3 fun Az Hz => ?_
 have m0 := MemOk.start (fun _ => True) w0
 refine regS Hz (.assign rfl .nil) fun Az Hz => ?_
 refine wsk fun K0 hK0 => ?_
 refine zsr fun K1 hK1 => ?_
 refine plz (ecb Hz Tryd.func4 rfl m0 (cknown_any _) fun Az w2 Hz m3 => ?_)
 refine gz hK1 Hz (.not rfl .nil) fun Az Hz => ?_
 refine wcf Hz ?_
 refine zss (hK0 _ _ ?_)
 refine wsk fun K2 hK2 => ?_
 refine zsr fun K3 hK3 => ?_
 refine goCh Hz (.move rfl <| .len rfl U22 <| .gtr rfl rfl <| .move rfl .nil) fun Az Hz => ?_
 refine bc Hz 37 ?_ ?_
 ·
  intro hb14 Hz; try simp only [QQ, Qax] at hb14
  refine gz hK3 Hz (.sk <| .sk <| .sk <| .pickT rfl rfl <| .move rfl <| .sk <| .sk <| .sk <| .pickT rfl rfl <| .nil) fun Az Hz => ?_
  refine wct Hz ?_
  replace Hz := Hz.oz [0, 1, 2, 3, 4, 5, 12, 37, 42, 46]
  refine regS Hz (.assign rfl .nil) fun Az Hz => ?_
  refine rt1 Hz ?_
  exact ⟨by first | rfl | (simp; done), m3.below⟩
 intro hb14 Hz; try simp only [QQ, Qax] at hb14
 have hl60 : l.length ≤ 60 := by have := hb14; first | omega | (simp at this; omega)
 refine goCh Hz (.moveZ rfl <| .lenZ rfl U22 <| .gtrZ rfl rfl <| .pickF rfl rfl <| .move rfl .nil) fun Az Hz => ?_
 refine bc Hz 42 ?_ ?_
 ·
  intro hb31 Hz; try simp only [QQ, Qax] at hb31
  refine gz hK3 Hz (.sk <| .sk <| .sk <| .pickT rfl rfl <| .nil) fun Az Hz => ?_
  refine wct Hz ?_
  replace Hz := Hz.oz [0, 1, 2, 3, 4, 5, 12, 37, 42, 46]
  refine regS Hz (.assign rfl .nil) fun Az Hz => ?_
  refine rt1 Hz ?_
  exact ⟨by first | rfl | (simp; done), m3.below⟩
 intro hb31 Hz; try simp only [QQ, Qax] at hb31
 have ht5 : ts.length ≤ 5 := by have := hb31; first | omega | (simp at this; omega)
 refine gz hK3 Hz (.moveZ rfl <| .lenZ rfl U23 <| .gtrZ rfl rfl <| .pickF rfl rfl <| .nil) fun Az Hz => ?_
 refine bc Hz 46 ?_ ?_
 ·
  intro hb42 Hz; try simp only [QQ, Qax] at hb42
  refine wct Hz ?_
  replace Hz := Hz.oz [0, 1, 2, 3, 4, 5, 12, 37, 42, 46]
  refine regS Hz (.assign rfl .nil) fun Az Hz => ?_
  refine rt1 Hz ?_
  exact ⟨by first | rfl | (simp; done), m3.below⟩
 intro hb42 Hz; try simp only [QQ, Qax] at hb42
 have hr4 : raw.length ≤ 4 := by have := hb42; first | omega | (simp at this; omega)
 refine wcf Hz ?_
 refine zss (hK2 _ _ ?_)
 replace Hz := Hz.oz [0, 1, 2, 3, 4, 5, 12, 37, 42, 46]
 refine zsr fun K4 hK4 => ?_
 refine goCh Hz (.move rfl <| .move rfl .nil) fun Az Hz => ?_
 refine plz (ecl Hz Tryd.func5 rfl (streams_any l ts _ _ _ _ _ ((h1.now' m3 rfl).any) ((h2.now' m3 rfl).any) (by omega) hlb (by omega) htb) ?_)
 rintro e w50 ⟨y, ss, p50, pp50, pn50, pw50, c50, np50, cp50, nn50, cn50, cw50, rfl, hS, hsl, hsg, hd50, he50, hb50⟩
 have m51 := m3.callF2 70 71 rfl rfl hb50 hd50 he50
 have hsm := hS.sm
 have hok := hsg.oks hS (by omega) (by omega)
 have hss9 : ss.length ≤ 8 := by omega
 have htot : totL ss ≤ 1000000 := by have := tot_bd (fun s hs => (hok s hs).1.len); omega
 have hby : ∀ s ∈ ss, ∀ e ∈ s.its, BytesL e.2 := hsg.by hS.2.2.2.2
 obtain ⟨bs, hbs⟩ : ∃ L, ss.map (fun v : StrV => strB v.bl v.sz v.fr v.to v.its) = L := ⟨_, rfl⟩
 have hbl : bs.length = ss.length := by rw [← hbs, List.length_map]
 have hbk : ∀ b ∈ bs, BytesL b ∧ b.length ≤ 9800 ∧ 8 ≤ b.length := fun b hb => by
   rw [← hbs] at hb
   revert Hz
   obtain ⟨s, hs, rfl⟩ := List.mem_map.1 hb
   intro Hz
   exact ⟨strBytes (hok s hs).1 (hby s hs), str_len (hok s hs).1, str_len8 _ _ _ _ _⟩
 refine ⟨_, rfl, ?_⟩; intro Az Hz
 refine goCh Hz (.move rfl <| .extract rfl rfl <| .extract rfl rfl .nil) fun Az Hz => ?_
 refine plz (e_alloc Hz m51 72 fct11 rfl fun g56 Az w57 Hz m57 _ _ => ?_)
 refine goCh Hz (.assign rfl .nil) fun Az Hz => ?_
 refine plz (stw Hz m57 72 fct10 fun w59 m59 _ => ?_)
 refine znl (hK4 _ _ ?_)
 replace Hz := Hz.oz [2, 3, 4, 5, 12, 37, 42, 46, 13]
 refine regS Hz (.assign rfl .nil) fun Az Hz => ?_
 refine wsk fun K5 hK5 => ?_
 refine regS Hz (.assign rfl .nil) fun Az Hz => ?_
 refine wp_block ?_
 refine wp_loop_ghost (fun g a w => ∃ (k : Nat) (p3 p5 : Option Addr) (c3 c5 : Nat), k ≤ ss.length ∧ g = ss.length - k ∧ Has 175 [(2, .slice pr raw.length cr), (3, .int .u16 (av : Int)), (4, .int .u8 (xv : Int)), (5, .int .u8 (wv : Int)), (13, .slice p3 ss.length c3), (15, .slice p5 (((ss.take k).map (fun v : StrV => strB v.bl v.sz v.fr v.to v.its)).map bD).length c5), (16, .int .i64 (k : Int))] a ∧ MemOk (cxt w0) w0 [(10, .dat (.slice p3 ss.length c3) (.l 5 (ss.map strD))), (9, .row (.slice p5 (((ss.take k).map (fun v : StrV => strB v.bl v.sz v.fr v.to v.its)).map bD).length c5) 22 1 (((ss.take k).map (fun v : StrV => strB v.bl v.sz v.fr v.to v.its)).map bD))] w) (ss.length) ?_ ?_
 · have mz := m59.nilR 9 22 1
   exact ⟨0, _, _, _, _, Nat.zero_le _, rfl, Hz.only [2, 3, 4, 5, 13, 15, 16], mz.ren [(10, 70), (9, 9)] (by decide)⟩
 clear Hz m59
 rintro g Az w63 ⟨k, p3, p5, c3, c5, hkl, hg, Hz, m63⟩
 refine wsk fun K6 hK6 => ?_
 refine regS Hz (.move rfl <| .move rfl <| .len rfl U26 <| .lss rfl rfl .nil) fun Az Hz => ?_
 refine bc Hz 56 ?_ ?_
 ·
  intro hb68 Hz; try simp only [QQ, Qax] at hb68
  have hk : k < ss.length := by have := hb68; first | omega | (simp at this; omega)
  obtain ⟨v0, hes0⟩ : ∃ e, ss[k]? = some e := ⟨_, List.getElem?_eq_getElem hk⟩
  refine wct Hz ?_
  refine zss (hK6 _ _ ?_)
  refine wsk fun K7 hK7 => ?_
  refine wp_block ?_
  refine zsr fun K8 hK8 => ?_
  refine goCh Hz (.move rfl <| .move rfl .nil) fun Az Hz => ?_
  obtain ⟨b74, o74, vs74, hp74, hR74, ho74, m74⟩ := m63.openR (i := 10) rfl (k) (r := [.v (.int .i64 v0.bl), .v (.int .i64 v0.sz), .v (.int .i64 v0.fr), .v (.int .i64 v0.to), .l 2 (v0.its.map itD)]) (strD_get hes0) 100 rfl
  revert Hz
  cases hp74; clear m63 ho74
  rcases hR74 with _ | ⟨hd74_0, _ | ⟨hd74_1, _ | ⟨hd74_2, _ | ⟨hd74_3, _ | ⟨hd74_4, _ | _⟩⟩⟩⟩⟩
  obtain rfl := hd74_0.v_out
  clear hd74_0
  obtain rfl := hd74_1.v_out
  clear hd74_1
  obtain rfl := hd74_2.v_out
  clear hd74_2
  obtain rfl := hd74_3.v_out
  clear hd74_3
  obtain ⟨p75, c75, hv75, hc75⟩ := hd74_4.l_shape; subst hv75
  intro Hz
  have m75 := m74.dat 101 rfl (hd74_4.cast (fun _ h => (free_add rfl h))); clear m74 hd74_4
  refine goCh Hz (.c rfl (fun _ h => y_idx h rfl rfl U26 fct2 (k) rfl hk) <| .loadCR m75 (i := 100) rfl rfl U38 rfl fct2 .nil) fun Az Hz => ?_
  refine plz (ecn Hz Tryd.func6 rfl m75 102 (rput21_yes v0.bl v0.sz v0.fr v0.to v0.its _ _ _ _ ((m75.rd (i := 101) rfl).any) (hok _ (List.mem_of_getElem? hes0)).1 (hby _ (List.mem_of_getElem? hes0))) fun p78 c78 Az w78 Hz m79 => ?_)
  refine gz hK8 Hz (.move rfl <| .extract rfl rfl <| .extract rfl rfl <| .assign rfl <| .assign rfl <| .nil) fun Az Hz => ?_
  replace Hz := Hz.oz [2, 3, 4, 5, 13, 15, 16, 17]
  refine wp_region_lit ?_
  refine goCh Hz (.move rfl <| .move rfl .nil) fun Az Hz => ?_
  have m90 := m79.freezeN 102 rfl
  refine plz (e_litR Hz m90 103 (mm := 1) rfl (.cons rfl rfl (.cons (m90.rd (i := 102) rfl) .nil) .nil) U23 fct5 rfl rfl rfl rfl rfl fun g89 Az w91 Hz m91 => ?_)
  have m93 := m91.freezeR 103 rfl
  refine plz (e_appR Hz m93 9 rfl rfl rfl (m93.rd (i := 103) rfl) U23 fct5 rfl rfl (by decide) (by rw [List.length_map, List.length_map, List.length_take]; simp; omega) rfl fun p92 c92 Az w94 Hz m94 => ?_)
  refine gz hK7 Hz (.assign rfl .nil) fun Az Hz => ?_
  refine wp_region_lit ?_
  refine goCh Hz (.move rfl <| .inc (k + 1) <| .assign rfl .nil) fun Az Hz => ?_
  refine wpList_nil ?_
  show ∃ n', n' < _ ∧ _
  have hE : (((ss.take k).map (fun v : StrV => strB v.bl v.sz v.fr v.to v.its)).map bD) ++ [[D.ns .u8 (strB v0.bl v0.sz v0.fr v0.to v0.its)]] = (((ss.take (k + 1)).map (fun v : StrV => strB v.bl v.sz v.fr v.to v.its)).map bD) := by rw [take_snoc hes0, List.map_append, List.map_append]; rfl
  rw [hE] at m94 Hz
  exact ⟨ss.length - (k + 1), by omega, k + 1, _, _, _, _, by omega, rfl, Hz.only [2, 3, 4, 5, 13, 15, 16], m94.ren [(10, 10), (9, 9)] (by decide)⟩
 intro hb68 Hz; try simp only [QQ, Qax] at hb68
 have hke : k = ss.length := by have := hb68; first | omega | (simp at this; omega)
 rw [hke, List.take_length, hbs] at m63 Hz
 refine wcf Hz ?_
 refine wp_exit ?_
 refine hK5 _ _ ?_
 refine zsr fun K9 hK9 => ?_
 refine goCh Hz (.move rfl .nil) fun Az Hz => ?_
 have m101 := m63.nilR 100 22 1
 have m103 := m101.freezeR 9 rfl
 refine plz (e_appR Hz m103 100 rfl rfl rfl (m103.rd (i := 9) rfl) U23 fct5 rfl rfl (by decide) (by simp; omega) rfl fun p102 c102 Az w104 Hz m104 => ?_)
 rw [List.nil_append] at m104 Hz
 have m105 := m104.rowS 100 rfl
 refine gz hK9 Hz (.assign rfl .nil) fun Az Hz => ?_
 refine wsk fun K10 hK10 => ?_
 have hC10 : ∀ (a : Act) (w : World), (∃ (cs : List (List Int)) (p5 p6 : Option Addr) (c5 c6 : Nat), cs.length = bs.length ∧ (∀ x ∈ cs, BytesL x ∧ x.length ≤ 9800) ∧ Has 175 [(2, .slice pr raw.length cr), (15, .slice p5 (bs.map bD).length c5), (19, .slice p6 (bs.map bD).length c6)] a ∧ MemOk (cxt w0) w0 [(9, .dat (.slice p5 (bs.map bD).length c5) (.l 1 (bs.map bD))), (11, .dat (.slice p6 (bs.map bD).length c6) (.l 1 (cs.map bD)))] w) → K10 a w := by
   clear Hz m105
   rintro Az w107 ⟨cs, p5, p6, c5, c6, hcl, hck, Hz, m107⟩
   refine hK10 _ _ ?_
   refine wsk fun K11 hK11 => ?_
   refine regS Hz (.assign rfl .nil) fun Az Hz => ?_
   refine wp_block ?_
   refine wp_loop_ghost (fun g a w => ∃ (k : Nat) (p5 p6 : Option Addr) (c5 c6 : Nat), k ≤ raw.length ∧ g = raw.length - k ∧ (∀ j, j < k → (raw.getD j []).length ≤ 60) ∧ Has 175 [(2, .slice pr raw.length cr), (15, .slice p5 (bs.map bD).length c5), (19, .slice p6 (bs.map bD).length c6), (22, .int .i64 (k : Int))] a ∧ MemOk (cxt w0) w0 [(9, .dat (.slice p5 (bs.map bD).length c5) (.l 1 (bs.map bD))), (11, .dat (.slice p6 (bs.map bD).length c6) (.l 1 (cs.map bD)))] w) (raw.length) ?_ ?_
   · exact ⟨0, _, _, _, _, Nat.zero_le _, rfl, fun j hj => absurd hj (Nat.not_lt_zero _), Hz.only [2, 15, 19, 22], m107.ren [(9, 9), (11, 11)] (by decide)⟩
   clear Hz m107
   rintro g Az w109 ⟨k, p5, p6, c5, c6, hkl, hg, hrk, Hz, m109⟩
   refine wsk fun K12 hK12 => ?_
   refine regS Hz (.move rfl <| .move rfl <| .len rfl U23 <| .lss rfl rfl .nil) fun Az Hz => ?_
   refine bc Hz 104 ?_ ?_
   ·
    intro hb114 Hz; try simp only [QQ, Qax] at hb114
    have hk : k < raw.length := by have := hb114; first | omega | (simp at this; omega)
    refine wct Hz ?_
    refine zss (hK12 _ _ ?_)
    refine wsk fun K13 hK13 => ?_
    refine wp_block ?_
    refine zsr fun K14 hK14 => ?_
    refine goCh Hz (.move rfl <| .move rfl .nil) fun Az Hz => ?_
    obtain ⟨gx120, ox120, vx120, hp120, hl120, hR120, hrg120⟩ := h3.extA (k) (r := [.ns .u8 (raw.getD k [])]) (bD_get hk)
    revert Hz
    cases hp120
    rcases hR120 with _ | ⟨hd120_0, _ | _⟩
    obtain ⟨p121, c121, hv121, hw121⟩ := hd120_0.ns_shape; subst hv121
    intro Hz
    refine gz hK14 Hz (.c rfl (fun _ h => y_idx h rfl rfl U23 fct8 (k) rfl hk) <| .loadAt1 (hrg120 m109 rfl) (q := 0) rfl rfl rfl U22 rfl <| .len rfl U22 <| .gtr rfl rfl <| .nil) fun Az Hz => ?_
    refine bc Hz 112 ?_ ?_
    ·
     intro hb126 Hz; try simp only [QQ, Qax] at hb126
     refine wct Hz ?_
     replace Hz := Hz.oz [2, 15, 19, 22]
     refine regS Hz (.assign rfl .nil) fun Az Hz => ?_
     refine rt1 Hz ?_
     exact ⟨by first | rfl | (simp; done), m109.below⟩
    intro hb126 Hz; try simp only [QQ, Qax] at hb126
    have hr60 : (raw.getD k []).length ≤ 60 := by have := hb126; first | omega | (simp at this; omega)
    refine wcf Hz ?_
    refine zss (hK13 _ _ ?_)
    replace Hz := Hz.oz [2, 15, 19, 22]
    refine wp_region_lit ?_
    refine goCh Hz (.move rfl <| .inc (k + 1) <| .assign rfl .nil) fun Az Hz => ?_
    refine wpList_nil ?_
    show ∃ n', n' < _ ∧ _
    exact ⟨raw.length - (k + 1), by omega, k + 1, _, _, _, _, by omega, rfl, (fun j hj => by rcases Nat.lt_or_ge j k with h9 | h9; (exact hrk j h9); (obtain rfl : j = k := by omega); (exact hr60)), Hz.only [2, 15, 19, 22], m109.ren [(9, 9), (11, 11)] (by decide)⟩
   intro hb114 Hz; try simp only [QQ, Qax] at hb114
   have hke : k = raw.length := by have := hb114; first | omega | (simp at this; omega)
   have hr9 : ∀ j, j < raw.length → (raw.getD j []).length ≤ 60 := by rw [← hke]; exact hrk
   refine wcf Hz ?_
   refine wp_exit ?_
   refine hK11 _ _ ?_
   refine wsk fun K15 hK15 => ?_
   refine wsk fun K16 hK16 => ?_
   have m133 := m109.oz [9, 11]
   refine region_p 15 (B := [(9, _), (11, _)]) (m133.to ⟨il, il, trivial⟩) m133 (by kernel_rfl) (fun w134 hP134 m134 => ?_); clear m133
   refine goA hP134 [0, 1, 2, 3, 5, 7, 8, 9, 10] 9 0 1967 Hz (m134.to ⟨il, il, trivial⟩) (.move rfl <| .move rfl <| .move rfl <| .move rfl <| .move rfl <| .move rfl <| .move rfl <| .len rfl U23 <| .p (fun _ _ h => y_min h rfl rfl (r := ((min 1 bs.length : Nat) : Int)) (by rw [List.length_map]; omega)) .nil) fun Az Hz => ?_
   have m144 := m134.dropR (i := 9) rfl (min 1 bs.length) (by rw [List.length_map]; omega) 300 rfl
   rw [← List.map_drop] at m144
   refine goA hP134 [11, 14] 2 1967 20399 Hz (m144.to ⟨il, il, trivial⟩) (.p (fun _ _ h => y_sliceLn h (min 1 bs.length) rfl rfl U23 fct8 rfl (by rw [List.length_map]; omega)) <| .move rfl .nil) fun Az Hz => ?_
   have m147 := m144.nilR 301 22 1
   refine so 4 ?_
   refine e_appR Hz m147 301 rfl rfl rfl (m147.rd (i := 9) rfl) U23 fct5 rfl rfl (by decide) (by simp; omega) rfl fun p148 c148 Az w149 Hz m149 => ?_
   refine ⟨m149.to ⟨il, il, trivial⟩, ?_⟩
   rw [List.nil_append] at m149 Hz
   refine so 6 ?_
   refine e_appR Hz m149 301 rfl rfl rfl (m149.old h3) U23 fct5 rfl rfl (by decide) (by simp; omega) rfl fun p150 c150 Az w151 Hz m151 => ?_
   refine ⟨m151.to ⟨il, il, trivial⟩, ?_⟩
   rw [← List.map_append] at m151 Hz
   have m153 := m151.freezeR 301 rfl
   refine so 12 ?_
   refine e_litR Hz m153 302 (mm := 1) rfl (.cons rfl rfl (.cons (m153.rd (i := 9) rfl) .nil) <| .cons rfl rfl (.cons (m153.rd (i := 11) rfl) .nil) <| .cons rfl rfl (.cons (m153.old h3) .nil) <| .cons rfl rfl (.cons (m153.rd (i := 301) rfl) .nil) <| .cons rfl rfl (.cons (m153.rd (i := 300) rfl) .nil) .nil) U39 fct6 rfl rfl rfl rfl rfl fun g152 Az w154 Hz m154 => ?_
   refine ⟨m154.to ⟨il, il, trivial⟩, ?_⟩
   refine goA hP134 [13] 1 24575 32767 Hz (m154.to ⟨il, il, trivial⟩) (.len rfl U39 .nil) fun Az Hz => ?_
   refine wpAnyE_done (by kernel_rfl) ?_ _
   refine hK16 _ _ ?_
   refine wp_block ?_
   have m156 := m154.freezeR 302 rfl
   obtain ⟨ys, hys⟩ : ∃ L, [bs, cs, raw, bs ++ raw, bs.drop (min 1 bs.length)] = L := ⟨_, rfl⟩
   have hy5 : ys.length = 5 := by rw [← hys]; rfl
   have hyk : ∀ k, k < 5 → (ys.getD k []).length ≤ 100 ∧ ∀ j, j < (ys.getD k []).length → BytesL ((ys.getD k []).getD j []) ∧ ((ys.getD k []).getD j []).length ≤ 10000 := by
     have key : ∀ y ∈ ys, y.length ≤ 100 ∧ ∀ x ∈ y, BytesL x ∧ x.length ≤ 10000 := by
       rw [← hys]
       have hrb : ∀ x ∈ raw, BytesL x ∧ x.length ≤ 10000 := fun x hx => by
         revert Hz
         obtain ⟨j, hj, rfl⟩ := List.getElem_of_mem hx
         intro Hz
         have h9 := hr9 j hj
         rw [List.getD, List.getElem?_eq_getElem hj] at h9
         exact ⟨hrby _ hx, Nat.le_trans h9 (by decide)⟩
       have hbb : ∀ x ∈ bs, BytesL x ∧ x.length ≤ 10000 := fun x hx => ⟨(hbk x hx).1, Nat.le_trans (hbk x hx).2.1 (by decide)⟩
       intro y hy
       simp only [List.mem_cons, List.not_mem_nil, or_false] at hy
       rcases hy with rfl | rfl | rfl | rfl | rfl
       · exact ⟨by omega, hbb⟩
       · exact ⟨by omega, fun x hx => ⟨(hck x hx).1, Nat.le_trans (hck x hx).2 (by decide)⟩⟩
       · exact ⟨by omega, hrb⟩
       · exact ⟨by rw [List.length_append]; omega, fun x hx => (List.mem_append.1 hx).elim (hbb x) (hrb x)⟩
       exact ⟨by rw [List.length_drop]; omega, fun x hx => hbb x (List.mem_of_mem_drop hx)⟩
     intro k hk
     have h9 := key (ys.getD k []) (by rw [List.getD, List.getElem?_eq_getElem (by omega)]; exact List.getElem_mem _)
     exact ⟨h9.1, fun j hj => h9.2 _ (gmem hj)⟩
   have m157 : MemOk (cxt w0) w0 [(9, .dat (.slice _ 5 _) (.l 1 (([bs, cs, raw, bs ++ raw, bs.drop (min 1 bs.length)] : List (List (List Int))).map (fun y : List (List Int) => [D.l 1 (y.map bD)]))))] _ := m156.ren [(9, 302)] (by decide)
   rw [hys] at m157
   refine wp_loop_ghost (fun g a w => ∃ (k : Nat) (p9 : Option Addr) (c9 : Nat), k ≤ 5 ∧ g = 5 - k ∧ Has 175 [(125, .slice p9 5 c9), (126, .int .i64 ((5 : Nat) : Int)), (127, .int .i64 (k : Int))] a ∧ MemOk (cxt w0) w0 [(9, .dat (.slice p9 5 c9) (.l 1 (ys.map (fun y : List (List Int) => [D.l 1 (y.map bD)]))))] w) (5) ?_ ?_
   · exact ⟨0, _, _, Nat.zero_le _, rfl, Hz.only [125, 126, 127], m157⟩
   clear Hz m157
   rintro g Az w158 ⟨k, p9, c9, hkl, hg, Hz, m158⟩
   refine regS Hz (.lss rfl rfl .nil) fun Az Hz => ?_
   refine wsk fun K17 hK17 => ?_
   refine bc Hz 128 ?_ ?_
   ·
    intro hb160 Hz; try simp only [QQ, Qax] at hb160
    have hk : k < 5 := by have := hb160; first | omega | (simp at this; omega)
    refine wct Hz ?_
    refine zss (hK17 _ _ ?_)
    refine wsk fun K18 hK18 => ?_
    refine wp_block ?_
    refine zsr fun K19 hK19 => ?_
    obtain ⟨b162, o162, vs162, hp162, hR162, ho162, m162⟩ := m158.openR (i := 9) rfl (k) (r := [.l 1 ((ys.getD k []).map bD)]) (lD_get (by omega)) 400 rfl
    revert Hz
    cases hp162; clear m158 ho162
    rcases hR162 with _ | ⟨hd162_0, _ | _⟩
    obtain ⟨p163, c163, hv163, hc163⟩ := hd162_0.l_shape; subst hv163
    intro Hz
    have m163 := m162.dat 401 rfl (hd162_0.cast (fun _ h => (free_add rfl h))); clear m162 hd162_0
    refine gz hK19 Hz (.c rfl (fun _ h => y_idx h rfl rfl U39 fct9 (k) rfl hk) <| .loadC0 m163 (i := 400) rfl rfl U23 rfl <| .assign rfl <| .nil) fun Az Hz => ?_
    refine zsr fun K20 hK20 => ?_
    refine goCh Hz (.move rfl .nil) fun Az Hz => ?_
    refine plz (ecl Hz Tryd.func7 rfl (pdecode_any (ys.getD k []) _ _ _ _ (hT.below m163.below h01) (Nat.le_trans h01 m163.below.size) ((m163.rd (i := 401) rfl).any) (hyk k hk).1 (hyk k hk).2) ?_)
    rintro e w169 ⟨d1, i1, e1, pa169, ca169, rfl, hD1, hd169, hb169⟩
    have m170 := m163.callF 402 rfl hb169 hd169
    refine ⟨_, rfl, ?_⟩; intro Az Hz
    refine gz hK20 Hz (.move rfl <| .extract rfl rfl <| .extract rfl rfl <| .extract rfl rfl <| .assign rfl <| .assign rfl <| .assign rfl <| .nil) fun Az Hz => ?_
    replace Hz := Hz.oz [125, 126, 127, 24, 25, 26, 27]
    refine zsr fun K21 hK21 => ?_
    refine goCh Hz (.move rfl .nil) fun Az Hz => ?_
    refine plz (ecl Hz Tryd.func8 rfl (rdecode_any _ (ys.getD k []) _ _ _ _ (by rw [List.length_map]) (hyk k hk).1 (hyk k hk).2 (m170.into [(1, 401)] (by decide) rfl)) ?_)
    rintro e w182 ⟨d2, i2, e2, pa182, ca182, rfl, hD2, hm182⟩
    have mx182 := m170.back hm182 [(401, 1), (403, 2)] (by decide); clear hm182 m170
    have m182 := mx182.oz [401, 403, 9, 400, 402]
    refine ⟨_, rfl, ?_⟩; intro Az Hz
    obtain ⟨q1, q2, q3⟩ := hD1.one hD2
    obtain ⟨hdl, hdo⟩ := hD1.ok
    have hd100 : d1.length ≤ 100 := Nat.le_trans hdl (hyk k hk).1
    clear hD2
    revert Hz
    revert Hz
    subst q1; subst q2; subst q3
    intro Hz
    intro Hz
    refine gz hK21 Hz (.move rfl <| .extract rfl rfl <| .extract rfl rfl <| .extract rfl rfl <| .assign rfl <| .assign rfl <| .assign rfl <| .nil) fun Az Hz => ?_
    refine wsk fun K22 hK22 => ?_
    replace Hz := Hz.oz [125, 126, 127, 25, 26, 27, 28, 29, 30]
    refine zsr fun K23 hK23 => ?_
    refine goCh Hz (.move rfl <| .move rfl <| .neq rfl rfl <| .move rfl .nil) fun Az Hz => ?_
    refine bc Hz 146 ?_ ?_
    · intro hb _; exact absurd hb (by simp)
    clear Hz; intro _ Hz
    refine goCh Hz (.moveZ rfl <| .moveZ rfl <| .neqZ rfl rfl <| .pickF rfl rfl <| .move rfl .nil) fun Az Hz => ?_
    refine bc Hz 151 ?_ ?_
    · intro hb _; exact absurd hb (by simp)
    clear Hz; intro _ Hz
    refine gz hK23 Hz (.moveZ rfl <| .lenZ rfl U26 <| .moveZ rfl <| .lenZ rfl U26 <| .neqZ rfl rfl <| .pickF rfl rfl <| .nil) fun Az Hz => ?_
    refine bc Hz 157 ?_ ?_
    · intro hb _; exact absurd hb (by simp)
    clear Hz; intro _ Hz
    refine wcf Hz ?_
    refine zss (hK22 _ _ ?_)
    replace Hz := Hz.oz [125, 126, 127, 25, 28]
    refine regS Hz (.assign rfl .nil) fun Az Hz => ?_
    refine wp_block ?_
    refine wp_loop_ghost (fun g a w => ∃ (j : Nat) (p9 pa pb : Option Addr) (c9 ca cb : Nat), j ≤ d1.length ∧ g = d1.length - j ∧ Has 175 [(125, .slice p9 5 c9), (126, .int .i64 ((5 : Nat) : Int)), (127, .int .i64 (k : Int)), (25, .slice pa d1.length ca), (28, .slice pb d1.length cb), (31, .int .i64 (j : Int))] a ∧ MemOk (cxt w0) w0 [(9, .dat (.slice p9 5 c9) (.l 1 (ys.map (fun y : List (List Int) => [D.l 1 (y.map bD)])))), (12, .dat (.slice pa d1.length ca) (.l 5 (d1.map strD))), (13, .dat (.slice pb d1.length cb) (.l 5 (d1.map strD)))] w) (d1.length) ?_ ?_
    · exact ⟨0, _, _, _, _, _, _, Nat.zero_le _, rfl, Hz.only [125, 126, 127, 25, 28, 31], m182.ren [(9, 9), (12, 402), (13, 403)] (by decide)⟩
    clear Hz m182
    rintro g Az w216 ⟨j, p9, pa, pb, c9, ca, cb, hjl, hg2, Hz, m216⟩
    refine wsk fun K24 hK24 => ?_
    refine regS Hz (.move rfl <| .move rfl <| .len rfl U26 <| .lss rfl rfl .nil) fun Az Hz => ?_
    refine bc Hz 161 ?_ ?_
    ·
     intro hb221 Hz; try simp only [QQ, Qax] at hb221
     have hj : j < d1.length := by have := hb221; first | omega | (simp at this; omega)
     obtain ⟨v2, hes2⟩ : ∃ e, d1[j]? = some e := ⟨_, List.getElem?_eq_getElem hj⟩
     refine wct Hz ?_
     refine zss (hK24 _ _ ?_)
     refine wsk fun K25 hK25 => ?_
     refine wp_block ?_
     refine wsk fun K26 hK26 => ?_
     obtain ⟨b222, o222, vs222, hp222, hR222, ho222, m222⟩ := m216.openR (i := 12) rfl (j) (r := [.v (.int .i64 v2.bl), .v (.int .i64 v2.sz), .v (.int .i64 v2.fr), .v (.int .i64 v2.to), .l 2 (v2.its.map itD)]) (strD_get hes2) 500 rfl
     revert Hz
     cases hp222; clear m216 ho222
     rcases hR222 with _ | ⟨hd222_0, _ | ⟨hd222_1, _ | ⟨hd222_2, _ | ⟨hd222_3, _ | ⟨hd222_4, _ | _⟩⟩⟩⟩⟩
     obtain rfl := hd222_0.v_out
     clear hd222_0
     obtain rfl := hd222_1.v_out
     clear hd222_1
     obtain rfl := hd222_2.v_out
     clear hd222_2
     obtain rfl := hd222_3.v_out
     clear hd222_3
     obtain ⟨p223, c223, hv223, hc223⟩ := hd222_4.l_shape; subst hv223
     intro Hz
     have m223 := m222.dat 501 rfl (hd222_4.cast (fun _ h => (free_add rfl h))); clear m222 hd222_4
     obtain ⟨b224, o224, vs224, hp224, hR224, ho224, m224⟩ := m223.openR (i := 13) rfl (j) (r := [.v (.int .i64 v2.bl), .v (.int .i64 v2.sz), .v (.int .i64 v2.fr), .v (.int .i64 v2.to), .l 2 (v2.its.map itD)]) (strD_get hes2) 502 rfl
     revert Hz
     cases hp224; clear m223 ho224
     rcases hR224 with _ | ⟨hd224_0, _ | ⟨hd224_1, _ | ⟨hd224_2, _ | ⟨hd224_3, _ | ⟨hd224_4, _ | _⟩⟩⟩⟩⟩
     obtain rfl := hd224_0.v_out
     clear hd224_0
     obtain rfl := hd224_1.v_out
     clear hd224_1
     obtain rfl := hd224_2.v_out
     clear hd224_2
     obtain rfl := hd224_3.v_out
     clear hd224_3
     obtain ⟨p225, c225, hv225, hc225⟩ := hd224_4.l_shape; subst hv225
     intro Hz
     have m225 := m224.dat 503 rfl (hd224_4.cast (fun _ h => (free_add rfl h))); clear m224 hd224_4
     have m226 := m225.oz [9, 12, 13, 500, 501, 502, 503]
     refine region_p 8 (B := [(9, _), (12, _), (13, _), (500, _), (501, _), (502, _), (503, _)]) (m226.to ⟨il, il, il, il, il, il, il, trivial⟩) m226 (by kernel_rfl) (fun w227 hP227 m227 => ?_); clear m226
     refine goR hP227 [0, 1, 2, 3, 4, 5, 6, 7] [3, 7] 8 0 255 Hz (m227.to ⟨il, il, il, il, il, il, il, trivial⟩) (.move rfl <| .move rfl <| .p (fun _ _ h => y_idx h rfl rfl U26 fct2 (j) rfl hj) <| .loadCR hh (i := 500) rfl rfl U38 rfl fct2 <| .move rfl <| .move rfl <| .p (fun _ _ h => y_idx h rfl rfl U26 fct2 (j) rfl hj) <| .loadCR hh (i := 502) rfl rfl U38 rfl fct2 .nil) fun Az Hz => ?_
     refine se 8 ?_
     refine ecb Hz Tryd.func9 rfl m227 (streams_same v2 _ _ _ _ _ _ _ ((m227.rd (i := 501) rfl).any) ((m227.rd (i := 503) rfl).any) (by have := (hdo _ (List.mem_of_getElem? hes2)).len; omega)) fun Az w236 Hz m237 => ?_
     refine goB hP227 [9] 1 511 1023 Hz (.not rfl .nil) fun Az Hz => ?_
     refine wpAnyE_done (by kernel_rfl) ?_ _
     refine hK26 _ _ ?_
     refine wcf Hz ?_
     refine zss (hK25 _ _ ?_)
     replace Hz := Hz.oz [125, 126, 127, 25, 28, 31]
     refine wp_region_lit ?_
     refine goCh Hz (.move rfl <| .inc (j + 1) <| .assign rfl .nil) fun Az Hz => ?_
     refine wpList_nil ?_
     show ∃ n', n' < _ ∧ _
     exact ⟨d1.length - (j + 1), by omega, j + 1, _, _, _, _, _, _, by omega, rfl, Hz.only [125, 126, 127, 25, 28, 31], m237.ren [(9, 9), (12, 12), (13, 13)] (by decide)⟩
    intro hb221 Hz; try simp only [QQ, Qax] at hb221
    refine wcf Hz ?_
    refine wp_exit ?_
    refine hK18 _ _ ?_
    refine wp_region_lit ?_
    refine goCh Hz (.inc (k + 1) <| .move rfl .nil) fun Az Hz => ?_
    refine wpList_nil ?_
    show ∃ n', n' < _ ∧ _
    exact ⟨5 - (k + 1), by omega, k + 1, _, _, by omega, rfl, Hz.only [125, 126, 127], m216.ren [(9, 9)] (by decide)⟩
   intro hb160 Hz; try simp only [QQ, Qax] at hb160
   refine wcf Hz ?_
   refine wp_exit ?_
   refine hK15 _ _ ?_
   refine regS Hz (.assign rfl .nil) fun Az Hz => ?_
   refine rt1 Hz ?_
   exact ⟨by first | rfl | (simp; done), m158.below⟩
 replace Hz := Hz.oz [2, 3, 4, 5, 13, 15, 16, 19]
 refine regS Hz (.move rfl <| .len rfl U23 <| .gtr rfl rfl .nil) fun Az Hz => ?_
 refine bc Hz 75 ?_ ?_
 ·
  intro hb251 Hz; try simp only [QQ, Qax] at hb251
  have hp : 0 < bs.length := by have := hb251; rw [List.length_map] at this; first | omega | (simp at this; omega)
  obtain ⟨J9, hK0⟩ : ∃ J9, wv % bs.length = J9 := ⟨_, rfl⟩
  have hK : wv % (bs.map bD).length = J9 := by rw [List.length_map]; exact hK0
  have hKb : J9 < bs.length := by rw [← hK0]; exact Nat.mod_lt _ hp
  have hKl : J9 < (bs.map bD).length := by rw [List.length_map]; exact hKb
  obtain ⟨bk, hbk9⟩ : ∃ L, bs.getD J9 [] = L := ⟨_, rfl⟩
  have hb9 := hbk (bs.getD J9 []) (by rw [List.getD, List.getElem?_eq_getElem hKb]; exact List.getElem_mem _)
  rw [hbk9] at hb9
  obtain ⟨hbkb, hbkl, hbk8⟩ := hb9
  obtain ⟨A, hA⟩ : ∃ A, av % bk.length = A := ⟨_, rfl⟩
  have hA1 : A < bk.length := by rw [← hA]; exact Nat.mod_lt _ (by omega)
  have hb1 : 0 ≤ bk.getD A 0 ∧ bk.getD A 0 ≤ 255 := getD_bd hbkb hA1
  have hn1 : bk.getD A 0 = (((bk.getD A 0).toNat : Nat) : Int) := by omega
  have hu1 : (bk.getD A 0).toNat < 256 := by omega
  obtain ⟨V, hV⟩ : ∃ V, (bk.getD A 0).toNat ^^^ xv = V := ⟨_, rfl⟩
  have hV9 : V < 256 := by rw [← hV]; exact Nat.xor_lt_two_pow (n := 8) hu1 (by omega)
  refine wct Hz ?_
  refine regS Hz (.move rfl <| .conv rfl U5 U3 (r := (wv : Int)) (IntWalk.i64_in _ (by omega)) <| .move rfl <| .len rfl U23 <| .rem rfl rfl (by omega) (r := (J9 : Int)) (by rw [Int.tmod_eq_emod_of_nonneg (by omega), ← hK]; simp) <| .assign rfl .nil) fun Az Hz => ?_
  replace Hz := Hz.oz [2, 3, 4, 5, 13, 15, 16, 19, 75, 20]
  refine zsr fun K27 hK27 => ?_
  refine goCh Hz (.move rfl <| .move rfl .nil) fun Az Hz => ?_
  obtain ⟨gs264, os264, vs264, hp264, hl264, hR264, hsg264⟩ := m105.openS (i := 100) rfl (J9) (r := [.ns .u8 (bs.getD J9 [])]) (bD_get hKb)
  revert Hz
  cases hp264
  rcases hR264 with _ | ⟨hd264_0, _ | _⟩
  obtain ⟨p265, c265, hv265, hw265⟩ := hd264_0.ns_shape; subst hv265
  intro Hz
  have m265 := m105.dat 101 rfl (hd264_0.cast (fun _ h => h)); clear m105 hd264_0
  refine goCh Hz (.c rfl (fun _ h => y_idx h rfl rfl U23 fct8 (J9) rfl hKl) <| .loadAt1 hsg264 (q := 0) rfl rfl rfl U22 rfl .nil) fun Az Hz => ?_
  refine plz (e_app0N Hz m265 102 rfl rfl (m265.nums (i := 101) rfl) U22 fct4 (by decide) (by rw [hbk9]; omega) rfl fun p268 c268 Az w269 Hz m269 => ?_)
  refine gz hK27 Hz (.assign rfl .nil) fun Az Hz => ?_
  refine wsk fun K28 hK28 => ?_
  skip
  rw [hbk9] at m269 Hz
  refine wp_region_lit ?_
  refine goCh Hz (.move rfl <| .move rfl <| .conv rfl U24 U3 (r := (av : Int)) (IntWalk.i64_in _ (by omega)) <| .move rfl <| .len rfl U22 <| .rem rfl rfl (by omega) (r := (A : Int)) (by rw [Int.tmod_eq_emod_of_nonneg (by omega), ← hA]; simp) .nil) fun Az Hz => ?_
  obtain ⟨g277, hpg277⟩ := m269.openO (i := 102) rfl (Nat.lt_of_le_of_lt (Nat.zero_le _) hA1)
  revert Hz
  cases hpg277
  intro Hz
  refine goCh Hz (.c rfl (fun _ h => y_idxO h rfl rfl U22 fct7 (A) rfl hA1) <| .c rfl (fun _ h => y_loadO h m269 (i := 102) rfl rfl rfl hA1 U5 rfl) <| .move rfl <| .xor rfl rfl (r := (V : Int)) (show bits .xor .u8 _ _ = _ from by rw [hn1, u8_xor_nat _ _ hu1 (by omega), hV]) .nil) fun Az Hz => ?_
  obtain ⟨g282, hpg282⟩ := m269.openO (i := 102) rfl (Nat.lt_of_le_of_lt (Nat.zero_le _) hA1)
  revert Hz
  cases hpg282
  intro Hz
  refine goCh Hz (.c rfl (fun _ h => y_idxO h rfl rfl U22 fct7 (A) rfl hA1) .nil) fun Az Hz => ?_
  refine plz (e_storeO Hz m269 102 rfl rfl rfl rfl hA1 fct7 fun w284 m284 => ?_)
  refine znl (hK28 _ _ ?_)
  replace Hz := Hz.oz [2, 3, 4, 5, 13, 15, 16, 19, 75, 20, 21]
  refine wp_region_lit ?_
  refine goCh Hz (.move rfl <| .move rfl <| .move rfl .nil) fun Az Hz => ?_
  obtain ⟨gs289, os289, vs289, hp289, hl289, hR289, hrg289⟩ := m284.openS (i := 100) rfl (J9) (r := [.ns .u8 (bs.getD J9 [])]) (bD_get hKb)
  revert Hz
  cases hp289; clear hl289 hR289 hrg289 vs289
  intro Hz
  refine goCh Hz (.c rfl (fun _ h => y_idx h rfl rfl U23 fct8 (J9) rfl hKl) .nil) fun Az Hz => ?_
  have m291 := m284.freezeN 102 rfl
  refine plz (e_storeSD Hz m291 100 rfl (J9) (r := [.ns .u8 (bs.getD J9 [])]) (bD_get hKb) (q := 0) rfl rfl rfl rfl rfl fct8 (m291.rd (i := 102) rfl) fun w292 m292 => ?_)
  refine wpList_nil ?_
  have hE9 : (bs.map bD).set J9 [.ns .u8 (bk.set A (V : Int))] = ((bs.set J9 (bk.set A (V : Int))).map bD) := by rw [List.map_set]; rfl
  have m293 := m292.freezeS 100 rfl (fun b => List.not_mem_nil)
  have m293x := m293.ren [(9, 9), (11, 100)] (by decide)
  rw [show (bs.map bD).set J9 ([D.ns .u8 (bs.getD J9 [])].set 0 (.ns .u8 (bk.set A (V : Int)))) = ((bs.set J9 (bk.set A (V : Int))).map bD) from hE9] at m293x
  show K10 _ _
  exact hC10 _ _ ⟨_, _, _, _, _, by rw [List.length_set], (fun x hx => (List.mem_or_eq_of_mem_set hx).elim (fun h => ⟨(hbk x h).1, (hbk x h).2.1⟩) (fun h => by rw [h]; exact ⟨bytesSet hbkb (by omega), by rw [List.length_set]; exact hbkl⟩)), Hz.only [2, 15, 19], m293x⟩
 intro hb251 Hz; try simp only [QQ, Qax] at hb251
 refine wcf Hz ?_
 refine wp_skip ?_
 have m294 := m105.freezeS 100 rfl (fun b => List.not_mem_nil)
 show K10 _ _
 exact hC10 _ _ ⟨bs, _, _, _, _, rfl, (fun x hx => ⟨(hbk x hx).1, (hbk x hx).2.1⟩), Hz.only [2, 15, 19], m294.ren [(9, 9), (11, 100)] (by decide)⟩
end Go.Proofs.YtcccomafnmdlfaaDoor.K
