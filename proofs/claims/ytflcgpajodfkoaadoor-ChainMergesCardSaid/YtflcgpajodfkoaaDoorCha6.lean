/- ChainMerges' walk. -/
import Derived.Test.YtflcgpajodfkoaaDoorCha6m
namespace Go.Proofs.YtflcgpajodfkoaaDoor.K
open Go.ChangeShapes Go.WideShapes Go.ChangeAt Go.RowKit
set_option linter.unusedVariables false
set_option linter.unusedSimpArgs false
set_option maxRecDepth 100000
set_option maxHeartbeats 4000000
theorem merges_walk (l ts : List Int) (bs : List Bool) (pl : Option Addr) (cl : Nat) (pt0 : Option Addr) (ct0 : Nat) (pc0 : Option Addr) (cc0 : Nat) (w0 : World) (h1 : Rd (fun _ => True) w0 (.slice pl l.length cl) (.ns .u8 l)) (hlb : ∀ j, j < l.length → 0 ≤ l.getD j 0 ∧ l.getD j 0 ≤ 255) (h2 : Rd (fun _ => True) w0 (.slice pt0 ts.length ct0) (.ns .u8 ts)) (htb : ∀ j, j < ts.length → 0 ≤ ts.getD j 0 ∧ ts.getD j 0 ≤ 255) (h3 : Rd (fun _ => True) w0 (.slice pc0 bs.length cc0) (.l 1 (bs.map boD))) :
   Calls Tryd.prog 3 #[.slice pl l.length cl, .slice pt0 ts.length ct0, .slice pc0 bs.length cc0] w0 fun e w' => e = .returned (.bool true) ∧ Below w0.heap.size w0 w' := by
 refine ent3 Tryd.func3 rfl Tryd.ntmps3 fun Az Hz => ?_
 have m0 := MemOk.start (fun _ => False) w0
 refine regS Hz (.assign rfl <| .nil) ?_
 clear Hz Az; intro Az Hz
 refine wp_seq_k (fun K0 hK0 => ?_)
 refine zsr fun K1 hK1 => ?_
 refine wpList_plain rfl (fun K hK => ?_)
 refine e_call Hz Tryd.func8 rfl rfl rfl rfl (cknown_any _) ?_
 rintro e w2 ⟨rfl, hb2⟩
 have m3 := m0.later hb2
 clear m0
 clear hb2
 refine ⟨_, rfl, ?_⟩; clear Hz Az; intro Az Hz
 refine hK _ _ ?_; clear hK
 refine goCh Hz (.not rfl .nil) ?_
 clear Hz Az; intro Az Hz
 refine znl (hK1 _ _ ?_); clear hK1
 refine wp_cond_false (Hz.ev (x := .tmp 20) rfl) ?_
 refine zss (hK0 _ _ ?_); clear hK0
 refine wp_seq_k (fun K2 hK2 => ?_)
 refine zsr fun K3 hK3 => ?_
 refine goCh Hz (.move rfl <| .len rfl U22 <| .gtr rfl rfl <| .move rfl <| .nil) ?_
 clear Hz Az; intro Az Hz
 refine bool_cases Hz (t := 24) rfl ?_ ?_
 ·
  clear Hz; intro hb14 Hz; try simp only [QQ, Qax] at hb14
  refine goCh Hz (.sk <| .sk <| .sk <| .pickT rfl rfl <| .move rfl <| .sk <| .sk <| .sk <| .pickT rfl rfl <| .move rfl <| .sk <| .sk <| .sk <| .sk <| .sk <| .pickT rfl rfl <| .nil) ?_
  clear Hz Az; intro Az Hz
  refine znl (hK3 _ _ ?_); clear hK3
  refine wp_cond_true (Hz.ev (x := .tmp 40) rfl) ?_
  replace Hz : Has 127 [(0, _), (1, _), (2, _), (6, _)] Az := Hz.only [0, 1, 2, 6]
  refine regS Hz (.assign rfl <| .nil) ?_
  clear Hz Az; intro Az Hz
  refine wp_ret ?_
  try dsimp only [Exit.then, Exit.inBlock]
  refine (ret1 (fn := Tryd.f3) Hz rfl rfl ?_)
  exact ⟨by first | rfl | (simp; done), m3.below⟩
 clear Hz; intro hb14 Hz; try simp only [QQ, Qax] at hb14
 have hl80 : l.length ≤ 80 := by have := hb14; first | omega | (simp at this; omega)
 refine goCh Hz (.moveZ rfl <| .lenZ rfl U22 <| .gtrZ rfl rfl <| .pickF rfl rfl <| .move rfl <| .nil) ?_
 clear Hz Az; intro Az Hz
 refine bool_cases Hz (t := 29) rfl ?_ ?_
 ·
  clear Hz; intro hb38 Hz; try simp only [QQ, Qax] at hb38
  refine goCh Hz (.sk <| .sk <| .sk <| .pickT rfl rfl <| .move rfl <| .sk <| .sk <| .sk <| .sk <| .sk <| .pickT rfl rfl <| .nil) ?_
  clear Hz Az; intro Az Hz
  refine znl (hK3 _ _ ?_); clear hK3
  refine wp_cond_true (Hz.ev (x := .tmp 40) rfl) ?_
  replace Hz : Has 127 [(0, _), (1, _), (2, _), (6, _)] Az := Hz.only [0, 1, 2, 6]
  refine regS Hz (.assign rfl <| .nil) ?_
  clear Hz Az; intro Az Hz
  refine wp_ret ?_
  try dsimp only [Exit.then, Exit.inBlock]
  refine (ret1 (fn := Tryd.f3) Hz rfl rfl ?_)
  exact ⟨by first | rfl | (simp; done), m3.below⟩
 clear Hz; intro hb38 Hz; try simp only [QQ, Qax] at hb38
 have ht8 : ts.length ≤ 8 := by have := hb38; first | omega | (simp at this; omega)
 refine goCh Hz (.moveZ rfl <| .lenZ rfl U22 <| .eqlZ rfl rfl <| .pickF rfl rfl <| .move rfl <| .nil) ?_
 clear Hz Az; intro Az Hz
 refine bool_cases Hz (t := 34) rfl ?_ ?_
 ·
  clear Hz; intro hb57 Hz; try simp only [QQ, Qax] at hb57
  refine goCh Hz (.sk <| .sk <| .sk <| .sk <| .sk <| .pickT rfl rfl <| .nil) ?_
  clear Hz Az; intro Az Hz
  refine znl (hK3 _ _ ?_); clear hK3
  refine wp_cond_true (Hz.ev (x := .tmp 40) rfl) ?_
  replace Hz : Has 127 [(0, _), (1, _), (2, _), (6, _)] Az := Hz.only [0, 1, 2, 6]
  refine regS Hz (.assign rfl <| .nil) ?_
  clear Hz Az; intro Az Hz
  refine wp_ret ?_
  try dsimp only [Exit.then, Exit.inBlock]
  refine (ret1 (fn := Tryd.f3) Hz rfl rfl ?_)
  exact ⟨by first | rfl | (simp; done), m3.below⟩
 clear Hz; intro hb57 Hz; try simp only [QQ, Qax] at hb57
 have ht0 : 0 < ts.length := by have := hb57; first | omega | (simp at this; omega)
 refine goCh Hz (.moveZ rfl <| .lenZ rfl U23 <| .moveZ rfl <| .lenZ rfl U22 <| .lssZ rfl rfl <| .pickF rfl rfl <| .nil) ?_
 clear Hz Az; intro Az Hz
 refine znl (hK3 _ _ ?_); clear hK3
 refine bool_cases Hz (t := 40) rfl ?_ ?_
 ·
  clear Hz; intro hb72 Hz; try simp only [QQ, Qax] at hb72
  refine wp_cond_true (Hz.ev (x := .tmp 40) rfl) ?_
  replace Hz : Has 127 [(0, _), (1, _), (2, _), (6, _)] Az := Hz.only [0, 1, 2, 6]
  refine regS Hz (.assign rfl <| .nil) ?_
  clear Hz Az; intro Az Hz
  refine wp_ret ?_
  try dsimp only [Exit.then, Exit.inBlock]
  refine (ret1 (fn := Tryd.f3) Hz rfl rfl ?_)
  exact ⟨by first | rfl | (simp; done), m3.below⟩
 clear Hz; intro hb72 Hz; try simp only [QQ, Qax] at hb72
 have hcl9 : ts.length ≤ bs.length := by have := hb72; first | omega | (simp at this; omega)
 refine wp_cond_false (Hz.ev (x := .tmp 40) rfl) ?_
 refine zss (hK2 _ _ ?_); clear hK2
 replace Hz : Has 127 [(0, _), (1, _), (2, _), (6, _)] Az := Hz.only [0, 1, 2, 6]
 refine zsr fun K4 hK4 => ?_
 refine goCh Hz (.move rfl <| .move rfl <| .nil) ?_
 clear Hz Az; intro Az Hz
 refine wpList_plain rfl (fun K hK => ?_)
 refine e_call Hz Tryd.func9 rfl rfl rfl rfl (streams_any l ts _ _ _ _ _ ((h1.now' m3 rfl).any) ((h2.now' m3 rfl).any) (by omega) hlb (by omega) htb) ?_
 rintro e w80 ⟨y, ss, p80, pp80, pn80, pw80, c80, np80, cp80, nn80, cn80, cw80, rfl, hS, hsl, hsg, hd80, he80, hb80⟩
 have m81 := m3.callF2 70 71 rfl rfl hb80 hd80 he80
 clear m3
 clear hb80 hd80 he80
 have hsm := hS.sm
 have hok := hsg.oks hS (by omega) (by omega)
 have hss9 : ss.length ≤ 8 := by omega
 have htot : totL ss ≤ 1000000 := by have := tot_bd (fun s hs => (hok s hs).1.len); omega
 obtain ⟨sl, hsll⟩ : ∃ e, ss[ss.length - 1]? = some e := ⟨_, List.getElem?_eq_getElem (by omega)⟩
 have hsle := endT_last (fr := -1) (n := ss.length - 1) (by omega) hsll
 refine ⟨_, rfl, ?_⟩; clear Hz Az; intro Az Hz
 refine hK _ _ ?_; clear hK
 refine goCh Hz (.move rfl <| .extract rfl rfl <| .extract rfl rfl <| .nil) ?_
 clear Hz Az; intro Az Hz
 refine wpList_plain rfl (fun K hK => ?_)
 refine e_alloc Hz m81 72 fct9 rfl ?_
 clear Hz Az m81; intro g86 Az w87 Hz m87 hB87 hg87
 clear hB87 hg87
 refine hK _ _ ?_; clear hK
 refine goCh Hz (.assign rfl .nil) ?_
 clear Hz Az; intro Az Hz
 refine wpList_plain rfl (fun K hK => ?_)
 refine e_storeW Hz m87 72 rfl rfl rfl rfl rfl fct7 ?_
 clear m87; intro w89 m89 hB89
 clear hB89
 refine hK _ _ ?_; clear hK
 refine znl (hK4 _ _ ?_); clear hK4
 replace Hz : Has 127 [(2, _), (6, _), (8, _), (7, _)] Az := Hz.only [2, 6, 8, 7]
 refine zsr fun K5 hK5 => ?_
 refine goCh Hz (.move rfl .nil) ?_
 clear Hz Az; intro Az Hz
 refine wpList_plain rfl (fun K hK => ?_)
 refine e_call Hz Tryd.func10 rfl rfl rfl rfl (all_yes ss _ _ _ _ ((m89.rd (i := 70) rfl).any) (by omega) (fun s hs => (hok s hs).1) (hsg.chain (by omega)) htot (fun s hs => (hok s hs).2)) ?_
 rintro e w93 ⟨sv, p93, c93, hE, hsl9, hso, rfl, hd93, hb93⟩
 obtain ⟨T, -, hTw, hTe, rfl⟩ := hE.seg hsg
 have m94 := m89.callF 73 rfl hb93 hd93
 clear m89
 clear hb93 hd93
 refine ⟨_, rfl, ?_⟩; clear Hz Az; intro Az Hz
 refine hK _ _ ?_; clear hK
 refine goCh Hz (.move rfl <| .extract rfl rfl <| .extract rfl rfl <| .nil) ?_
 clear Hz Az; intro Az Hz
 refine wpList_plain rfl (fun K hK => ?_)
 refine e_alloc Hz m94 74 fct10 rfl ?_
 clear Hz Az m94; intro g99 Az w100 Hz m100 hB100 hg100
 clear hB100 hg100
 refine hK _ _ ?_; clear hK
 refine wpList_plain rfl (fun K hK => ?_)
 refine e_storeW Hz m100 74 rfl rfl rfl rfl rfl fct8 ?_
 clear m100; intro w101 m101 hB101
 clear hB101
 refine hK _ _ ?_; clear hK
 refine goCh Hz (.assign rfl .nil) ?_
 clear Hz Az; intro Az Hz
 refine znl (hK5 _ _ ?_); clear hK5
 refine wp_seq_k (fun K6 hK6 => ?_)
 refine regS Hz (.move rfl <| .neq rfl rfl <| .nil) ?_
 clear Hz Az; intro Az Hz
 refine bool_cases Hz (t := 53) rfl ?_ ?_
 · intro hb _; exact absurd hb (by first | exact fun h => kStr h | decide | (simp; done) | (intro h; revert h; first | decide | (exact fun h => by cases h)))
 clear Hz; intro _ Hz
 refine wp_cond_false (Hz.ev (x := .tmp 53) rfl) ?_
 refine zss (hK6 _ _ ?_); clear hK6
 replace Hz : Has 127 [(2, _), (6, _), (8, _), (7, _), (9, _)] Az := Hz.only [2, 6, 8, 7, 9]
 refine regS Hz (.assign rfl <| .nil) ?_
 clear Hz Az; intro Az Hz
 refine wp_seq_k (fun K7 hK7 => ?_)
 refine regS Hz (.assign rfl <| .nil) ?_
 clear Hz Az; intro Az Hz
 refine wp_block ?_
 refine wp_loop_ghost (fun g a w => ∃ (i : Nat) (parts : List StrV) (B8 B9 : Nat) (pc pp pn pw ps px p : Option Addr) (cc np cp nn cn9 cw cs9 cx c : Nat), i ≤ ss.length ∧ g = ss.length - i ∧ SegCh y (-1) parts ∧ endT (-1) parts = endT (-1) (ss.take i) ∧ parts.length ≤ i ∧ (0 < i → 0 < parts.length) ∧ Rd (fun _ => True) w0 (.slice pc bs.length cc) (.l 1 (bs.map boD)) ∧ Has 127 [(2, .slice pc bs.length cc), (7, .slice ps ss.length cs9), (8, .pointer (some ⟨B8, 0, none⟩)), (9, .pointer (some ⟨B9, 0, none⟩)), (11, .slice p (parts.map strD).length c), (12, .int .i64 (i : Int))] a ∧ MemOk (cn w0) w0 [(8, .box B8 30 [.int .i64 y.vo, .int .i64 y.bl, .int .i64 y.sz, .int .i64 y.pe, .slice pp np cp, .int .i64 y.to, .int .i64 y.ne, .bool y.hi, .int .i64 0, .slice pn nn cn9, .slice pw (y.ws.map wrD).length cw]), (3, .dat (.slice pw (y.ws.map wrD).length cw) (.l 2 (y.ws.map wrD))), (71, .dat (.slice ps ss.length cs9) (.l 5 (ss.map strD))), (9, .box B9 35 [.int .i64 (seg y (-1) T).bl, .int .i64 (seg y (-1) T).sz, .int .i64 (seg y (-1) T).fr, .int .i64 (seg y (-1) T).to, .slice px (seg y (-1) T).its.length cx]), (22, .dat (.slice px (seg y (-1) T).its.length cx) (.l 2 ((seg y (-1) T).its.map itD))), (10, .row (.slice p (parts.map strD).length c) 35 5 (parts.map strD))] w) (ss.length) ?_ ?_
 · have mz := m101.nilR 10 35 5
   exact ⟨0, [], _, _, _, _, _, _, _, _, _, _, _, _, _, _, _, _, _, _, Nat.zero_le _, rfl, trivial, rfl, Nat.le_refl _, fun h => absurd h (Nat.lt_irrefl _), h3, Hz.only [2, 7, 8, 9, 11, 12], mz.ren [(8, 72), (3, 71), (71, 70), (9, 74), (22, 73), (10, 10)] (by decide)⟩
 clear Hz m101
 rintro g Az w109 ⟨i, parts, B8, B9, pc, pp, pn, pw, ps, px, p, cc, np, cp, nn, cn9, cw, cs9, cx, c, hil, hg, hsp, hend, hpl, hpos, h3b, Hz, m109⟩
 refine wp_seq_k (fun K8 hK8 => ?_)
 refine regS Hz (.move rfl <| .move rfl <| .len rfl U25 <| .lss rfl rfl <| .nil) ?_
 clear Hz Az; intro Az Hz
 refine bool_cases Hz (t := 57) rfl ?_ ?_
 ·
  clear Hz; intro hb114 Hz; try simp only [QQ, Qax] at hb114
  have hi : i < ss.length := by have := hb114; first | omega | (simp at this; omega)
  obtain ⟨t, ht1, ht2, hsi⟩ := hsg.get hi
  obtain ⟨cb, hcb⟩ : ∃ e, bs[i]? = some e := ⟨_, List.getElem?_eq_getElem (by omega)⟩
  have hbd := (SegCh.app.1 ((List.take_append_drop i ss).symm ▸ hsg)).1.end_bd (by omega) (by omega)
  refine wp_cond_true (Hz.ev (x := .tmp 57) rfl) ?_
  refine zss (hK8 _ _ ?_); clear hK8
  refine wp_seq_k (fun K9 hK9 => ?_)
  refine wp_block ?_
  refine wp_seq_k (fun K10 hK10 => ?_)
  refine zsr fun K11 hK11 => ?_
  refine goCh Hz (.move rfl <| .gtr rfl rfl <| .move rfl <| .nil) ?_
  clear Hz Az; intro Az Hz
  refine bool_cases Hz (t := 62) rfl ?_ ?_
  ·
   clear Hz; intro hb121 Hz; try simp only [QQ, Qax] at hb121
   have hip : 0 < i := by have := hb121; first | omega | (simp at this; omega)
   refine goCh Hz (.moveZ rfl <| .moveZ rfl <| .nil) ?_
   clear Hz Az; intro Az Hz
   obtain ⟨gx124, ox124, vx124, hp124, hl124, hR124, hrg124⟩ := h3b.extA (i) (r := [.v (.bool cb)]) (boD_get hcb)
   cases hp124; clear hl124
   rcases hR124 with _ | ⟨hd124_0, _ | _⟩
   obtain rfl := hd124_0.v_out
   clear hd124_0
   refine goCh Hz (.g rfl rfl rfl rfl (fun _ h => y_idx h rfl rfl U23 fct6 (i) rfl (by omega)) <| .loadAt1Z (hrg124 m109 rfl) (q := 0) rfl rfl rfl U4 rfl <| .pickT rfl rfl <| .nil) ?_
   clear Hz Az; intro Az Hz
   refine znl (hK11 _ _ ?_); clear hK11
   refine bool_cases Hz (t := 67) rfl ?_ ?_
   ·
    clear Hz; intro hb128 Hz; try simp only [QQ, Qax] at hb128
    obtain ⟨pi9, x9, rfl⟩ : ∃ pi9 x9, parts = pi9 ++ [x9] := ⟨_, _, (List.dropLast_concat_getLast (List.length_pos_iff.1 (hpos (by omega)))).symm⟩
    have hp9l : pi9.length + 1 ≤ 9 := by simp at hpl; omega
    obtain ⟨b9, hc9, he9, hb91, hb92, rfl, hb93⟩ := part_last hsp
    rw [hb93] at hend
    have hsi9 := hsi
    rw [← hend] at hsi9 ht1
    rw [Int.toNat_natCast] at ht1
    obtain ⟨hmg, hsn⟩ := part_next hc9 hb91 ht1 ht2
    have hko1 := seg_ok hS (by omega) he9 hb91 hb92 (.inl rfl)
    have hko2 := seg_ok hS (by omega) (fr := (b9 : Int)) (t := t) (by omega) (by simpa using ht1) ht2 (.inl rfl)
    refine wp_cond_true (Hz.ev (x := .tmp 67) rfl) ?_
    refine wp_seq_k (fun K12 hK12 => ?_)
    replace Hz : Has 127 [(2, _), (7, _), (8, _), (9, _), (11, _), (12, _)] Az := Hz.only [2, 7, 8, 9, 11, 12]
    obtain ⟨gr131, cr131, hp131, m131⟩ := m109.openC (i := 10) rfl (Nat.lt_of_le_of_lt (Nat.zero_le _) (lt_snoc9 _ _))
    cases hp131; clear m109
    obtain ⟨vs132, hc132, hR132⟩ := m131.eltC (i := 10) rfl (pi9.length) (r := [.v (.int .i64 (seg y (endT (-1) pi9) b9).bl), .v (.int .i64 (seg y (endT (-1) pi9) b9).sz), .v (.int .i64 (seg y (endT (-1) pi9) b9).fr), .v (.int .i64 (seg y (endT (-1) pi9) b9).to), .l 2 ((seg y (endT (-1) pi9) b9).its.map itD)]) (strD_get (last_get _ _))
    rcases hR132 with _ | ⟨hd132_0, _ | ⟨hd132_1, _ | ⟨hd132_2, _ | ⟨hd132_3, _ | ⟨hd132_4, _ | _⟩⟩⟩⟩⟩
    obtain rfl := hd132_0.v_out
    clear hd132_0
    obtain rfl := hd132_1.v_out
    clear hd132_1
    obtain rfl := hd132_2.v_out
    clear hd132_2
    obtain rfl := hd132_3.v_out
    clear hd132_3
    obtain ⟨p133, c133, hv133, hw133⟩ := hd132_4.l_shape; subst hv133
    have m133 := m131.dat 100 rfl (hd132_4.cast (fun _ h => h)); clear m131 hd132_4
    obtain ⟨b134, o134, vs134, hp134, hR134, ho134, m134⟩ := m133.openR (i := 71) rfl (i) (r := [.v (.int .i64 (seg y (b9 : Int) t).bl), .v (.int .i64 (seg y (b9 : Int) t).sz), .v (.int .i64 (seg y (b9 : Int) t).fr), .v (.int .i64 (seg y (b9 : Int) t).to), .l 2 ((seg y (b9 : Int) t).its.map itD)]) (strD_get hsi9) 101 rfl
    cases hp134; clear m133 ho134
    rcases hR134 with _ | ⟨hd134_0, _ | ⟨hd134_1, _ | ⟨hd134_2, _ | ⟨hd134_3, _ | ⟨hd134_4, _ | _⟩⟩⟩⟩⟩
    obtain rfl := hd134_0.v_out
    clear hd134_0
    obtain rfl := hd134_1.v_out
    clear hd134_1
    obtain rfl := hd134_2.v_out
    clear hd134_2
    obtain rfl := hd134_3.v_out
    clear hd134_3
    obtain ⟨p135, c135, hv135, hc135⟩ := hd134_4.l_shape; subst hv135
    have m135 := m134.dat 102 rfl (hd134_4.cast (fun _ h => (free_add rfl h))); clear m134 hd134_4
    have m136 : MemOk _ _ [(3, _), (8, _), (9, _), (10, _), (22, _), (71, _), (100, _), (101, _), (102, _)] _ := m135.only [3, 8, 9, 10, 22, 71, 100, 101, 102]; clear m135
    refine region_p 15 (B := [(3, _), (8, _), (9, _), (10, _), (22, _), (71, _), (100, _), (101, _), (102, _)]) (m136.to ⟨il, il, il, il, il, il, il, il, il, trivial⟩) m136 (by kernel_rfl) (fun w137 hP137 m137 => ?_); clear m136
    refine goR hP137 [0, 1, 2, 3, 4, 5, 6, 7, 8, 9] [5, 9] 10 0 1023 Hz (m137.to ⟨il, il, il, il, il, il, il, il, il, trivial⟩) (.move rfl <| .move rfl <| .len rfl U25 <| .sub rfl rfl (r := (pi9.length : Int)) (by rw [List.length_map, List.length_append, List.length_singleton, IntWalk.i64_in _ (by omega)]; omega) <| .p (fun _ _ h => y_idx h rfl rfl U25 fct8 (pi9.length) rfl (lt_snoc9 _ _)) <| .c (fun _ hW _ h => y_loadRC h hW (i := 10) rfl (pi9.length) hc132 rfl U35 rfl fct8) <| .move rfl <| .move rfl <| .p (fun _ _ h => y_idx h rfl rfl U25 fct8 (i) rfl hi) <| .loadCR hh (i := 101) rfl rfl U35 rfl fct8 <| .nil) ?_
    clear Hz Az; intro Az Hz
    refine d_two 10 14 rfl rfl (by kernel_rfl) rfl rfl (fun K hK => ?_) (fun K hK => ?_)
    ·
     refine e_call Hz Tryd.func11 rfl rfl rfl rfl (merge_yes (seg y (endT (-1) pi9) b9) (seg y (b9 : Int) t) _ _ _ _ _ _ _ ((m137.rd (i := 100) rfl).any) ((m137.rd (i := 102) rfl).any) hko1.1 hko2.1 hko1.2 hko2.2 ⟨rfl, rfl, rfl⟩) ?_
     rintro e w148 ⟨p148, c148, rfl, hd148, hb148⟩
     rw [hmg] at hd148 ⊢
     have m149 := m137.callF 103 rfl hb148 hd148
     clear m137
     clear hb148 hd148
     refine ⟨_, rfl, ?_⟩; clear Hz Az; intro Az Hz
     refine hK _ _ (fun _ => (m149.to ⟨il, il, il, il, il, il, il, il, il, trivial⟩)) ?_; clear hK K
     refine goA hP137 [11, 12, 13] 3 2047 16383 Hz (m149.to ⟨il, il, il, il, il, il, il, il, il, trivial⟩) (.move rfl <| .extract rfl rfl <| .extract rfl rfl <| .nil) ?_
     clear Hz Az; intro Az Hz
     refine stepE_only 14 rfl (by kernel_rfl) rfl (fun K hK => ?_)
     refine e_alloc Hz m149 104 fct10 rfl ?_
     clear Hz Az m149; intro g154 Az w155 Hz m155 hB155 hg155
     clear hB155 hg155
     refine hK _ _ (m155.to ⟨il, il, il, il, il, il, il, il, il, trivial⟩) ?_; clear hK K
     refine stepE_end 15 rfl (by kernel_rfl) rfl (by rfl) (fun K hK => ?_)
     refine e_storeW Hz m155 104 rfl rfl rfl rfl rfl fct8 ?_
     clear m155; intro w156 m156 hB156
     clear hB156
     refine hK _ _ ?_; clear hK
     refine goB hP137 [16] 1 65535 131071 Hz (.assign rfl <| .nil) ?_
     clear Hz Az; intro Az Hz
     refine wpAnyE_done (by kernel_rfl) ?_ _
     refine hK12 _ _ ?_; clear hK12
     refine wp_seq_k (fun K13 hK13 => ?_)
     replace Hz : Has 127 [(2, _), (7, _), (8, _), (9, _), (11, _), (12, _), (13, _), (14, _)] Az := Hz.only [2, 7, 8, 9, 11, 12, 13, 14]
     refine regS Hz (.move rfl <| .neq rfl rfl <| .nil) ?_
     clear Hz Az; intro Az Hz
     refine bool_cases Hz (t := 83) rfl ?_ ?_
     · intro hb _; exact absurd hb (by first | exact fun h => kStr h | decide | (simp; done) | (intro h; revert h; first | decide | (exact fun h => by cases h)))
     clear Hz; intro _ Hz
     refine wp_cond_false (Hz.ev (x := .tmp 83) rfl) ?_
     refine zss (hK13 _ _ ?_); clear hK13
     refine zsr fun K14 hK14 => ?_
     refine goCh Hz (.move rfl <| .move rfl <| .len rfl U25 <| .sub rfl rfl (r := (pi9.length : Int)) (by rw [List.length_map, List.length_append, List.length_singleton, IntWalk.i64_in _ (by omega)]; omega) <| .loadBR m156 (i := 104) rfl rfl U35 rfl fct8 (by simp) (by dsimp only [List.drop, List.take] <;> rfl) <| .nil) ?_
     clear Hz Az; intro Az Hz
     have m173 := m156.closeC 10 rfl; clear m156
     obtain ⟨gr174, cr174, hp174, _⟩ := m173.openC (i := 10) rfl (Nat.lt_of_le_of_lt (Nat.zero_le _) (lt_snoc9 _ _)); cases hp174
     refine goCh Hz (.c rfl (fun _ h => y_idx h rfl rfl U25 fct8 (pi9.length) rfl (lt_snoc9 _ _)) .nil) ?_
     clear Hz Az; intro Az Hz
     refine wpList_plain rfl (fun K hK => ?_)
     refine e_storeRW Hz m173 10 rfl (pi9.length) (lt_snoc9 _ _) rfl rfl rfl rfl rfl fct8 (.cons (.v _) (.cons (.v _) (.cons (.v _) (.cons (.v _) (.cons (m173.rd (i := 103) rfl) .nil))))) ?_
     clear m173; intro w176 m176
     refine hK _ _ ?_; clear hK
     refine znl (hK14 _ _ ?_); clear hK14
     refine wp_exit ?_
     refine hK9 _ _ ?_; clear hK9
     replace Hz : Has 127 [(2, _), (7, _), (8, _), (9, _), (11, _), (12, _)] Az := Hz.only [2, 7, 8, 9, 11, 12]
     refine wp_region_lit ?_
     refine goCh Hz (.move rfl <| .add rfl rfl (r := ((i + 1 : Nat) : Int)) (by rw [IntWalk.i64_in _ (by omega)]; omega) <| .assign rfl <| .nil) ?_
     clear Hz Az; intro Az Hz
     refine wpList_nil ?_
     show ∃ n', n' < _ ∧ _
     have hE : ((pi9 ++ [seg y (endT (-1) pi9) b9]).map strD).set pi9.length [.v (.int .i64 (seg y (endT (-1) pi9) t).bl), .v (.int .i64 (seg y (endT (-1) pi9) t).sz), .v (.int .i64 (seg y (endT (-1) pi9) t).fr), .v (.int .i64 (seg y (endT (-1) pi9) t).to), .l 2 ((seg y (endT (-1) pi9) t).its.map itD)] = (pi9 ++ [seg y (endT (-1) pi9) t]).map strD := set_last
     rw [hE] at m176
     have hln : ((pi9 ++ [seg y (endT (-1) pi9) b9]).map strD).length = ((pi9 ++ [seg y (endT (-1) pi9) t]).map strD).length := by simp
     rw [hln] at m176 Hz
     exact ⟨ss.length - (i + 1), by omega, i + 1, pi9 ++ [seg y (endT (-1) pi9) t], _, _, _, _, _, _, _, _, _, _, _, _, _, _, _, _, _, _, by omega, rfl, hsn, by rw [endT_next hsi, endT_snoc]; rfl, by simp at hpl ⊢; omega, fun _ => by simp, h3b, Hz.only [2, 7, 8, 9, 11, 12], m176.ren [(8, 8), (3, 3), (71, 71), (9, 9), (22, 22), (10, 10)] (by decide)⟩
    refine e_alloc Hz m137 103 fct10 rfl ?_
    clear Hz Az m137; intro g181 Az w182 Hz m182 hB182 hg182
    clear hB182 hg182
    refine hK _ _ (fun _ => (m182.to ⟨il, il, il, il, il, il, il, il, il, trivial⟩)) ?_; clear hK K
    refine stepE_only 10 rfl (by kernel_rfl) rfl (fun K hK => ?_)
    refine e_call Hz Tryd.func11 rfl rfl rfl rfl (merge_yes (seg y (endT (-1) pi9) b9) (seg y (b9 : Int) t) _ _ _ _ _ _ _ ((m182.rd (i := 100) rfl).any) ((m182.rd (i := 102) rfl).any) hko1.1 hko2.1 hko1.2 hko2.2 ⟨rfl, rfl, rfl⟩) ?_
    rintro e w183 ⟨p183, c183, rfl, hd183, hb183⟩
    rw [hmg] at hd183 ⊢
    have m184 := m182.callF 104 rfl hb183 hd183
    clear m182
    clear hb183 hd183
    refine ⟨_, rfl, ?_⟩; clear Hz Az; intro Az Hz
    refine hK _ _ (m184.to ⟨il, il, il, il, il, il, il, il, il, trivial⟩) ?_; clear hK K
    refine goA hP137 [11, 12, 13] 3 18431 32767 Hz (m184.to ⟨il, il, il, il, il, il, il, il, il, trivial⟩) (.move rfl <| .extract rfl rfl <| .extract rfl rfl <| .nil) ?_
    clear Hz Az; intro Az Hz
    refine stepE_end 15 rfl (by kernel_rfl) rfl (by rfl) (fun K hK => ?_)
    refine e_storeW Hz m184 103 rfl rfl rfl rfl rfl fct8 ?_
    clear m184; intro w189 m189 hB189
    clear hB189
    refine hK _ _ ?_; clear hK
    refine goB hP137 [16] 1 65535 131071 Hz (.assign rfl <| .nil) ?_
    clear Hz Az; intro Az Hz
    refine wpAnyE_done (by kernel_rfl) ?_ _
    refine hK12 _ _ ?_; clear hK12
    refine wp_seq_k (fun K15 hK15 => ?_)
    replace Hz : Has 127 [(2, _), (7, _), (8, _), (9, _), (11, _), (12, _), (13, _), (14, _)] Az := Hz.only [2, 7, 8, 9, 11, 12, 13, 14]
    refine regS Hz (.move rfl <| .neq rfl rfl <| .nil) ?_
    clear Hz Az; intro Az Hz
    refine bool_cases Hz (t := 83) rfl ?_ ?_
    · intro hb _; exact absurd hb (by first | exact fun h => kStr h | decide | (simp; done) | (intro h; revert h; first | decide | (exact fun h => by cases h)))
    clear Hz; intro _ Hz
    refine wp_cond_false (Hz.ev (x := .tmp 83) rfl) ?_
    refine zss (hK15 _ _ ?_); clear hK15
    refine zsr fun K16 hK16 => ?_
    refine goCh Hz (.move rfl <| .move rfl <| .len rfl U25 <| .sub rfl rfl (r := (pi9.length : Int)) (by rw [List.length_map, List.length_append, List.length_singleton, IntWalk.i64_in _ (by omega)]; omega) <| .loadBR m189 (i := 103) rfl rfl U35 rfl fct8 (by simp) (by dsimp only [List.drop, List.take] <;> rfl) <| .nil) ?_
    clear Hz Az; intro Az Hz
    have m206 := m189.closeC 10 rfl; clear m189
    obtain ⟨gr207, cr207, hp207, _⟩ := m206.openC (i := 10) rfl (Nat.lt_of_le_of_lt (Nat.zero_le _) (lt_snoc9 _ _)); cases hp207
    refine goCh Hz (.c rfl (fun _ h => y_idx h rfl rfl U25 fct8 (pi9.length) rfl (lt_snoc9 _ _)) .nil) ?_
    clear Hz Az; intro Az Hz
    refine wpList_plain rfl (fun K hK => ?_)
    refine e_storeRW Hz m206 10 rfl (pi9.length) (lt_snoc9 _ _) rfl rfl rfl rfl rfl fct8 (.cons (.v _) (.cons (.v _) (.cons (.v _) (.cons (.v _) (.cons (m206.rd (i := 104) rfl) .nil))))) ?_
    clear m206; intro w209 m209
    refine hK _ _ ?_; clear hK
    refine znl (hK16 _ _ ?_); clear hK16
    refine wp_exit ?_
    refine hK9 _ _ ?_; clear hK9
    replace Hz : Has 127 [(2, _), (7, _), (8, _), (9, _), (11, _), (12, _)] Az := Hz.only [2, 7, 8, 9, 11, 12]
    refine wp_region_lit ?_
    refine goCh Hz (.move rfl <| .add rfl rfl (r := ((i + 1 : Nat) : Int)) (by rw [IntWalk.i64_in _ (by omega)]; omega) <| .assign rfl <| .nil) ?_
    clear Hz Az; intro Az Hz
    refine wpList_nil ?_
    show ∃ n', n' < _ ∧ _
    have hE : ((pi9 ++ [seg y (endT (-1) pi9) b9]).map strD).set pi9.length [.v (.int .i64 (seg y (endT (-1) pi9) t).bl), .v (.int .i64 (seg y (endT (-1) pi9) t).sz), .v (.int .i64 (seg y (endT (-1) pi9) t).fr), .v (.int .i64 (seg y (endT (-1) pi9) t).to), .l 2 ((seg y (endT (-1) pi9) t).its.map itD)] = (pi9 ++ [seg y (endT (-1) pi9) t]).map strD := set_last
    rw [hE] at m209
    have hln : ((pi9 ++ [seg y (endT (-1) pi9) b9]).map strD).length = ((pi9 ++ [seg y (endT (-1) pi9) t]).map strD).length := by simp
    rw [hln] at m209 Hz
    exact ⟨ss.length - (i + 1), by omega, i + 1, pi9 ++ [seg y (endT (-1) pi9) t], _, _, _, _, _, _, _, _, _, _, _, _, _, _, _, _, _, _, by omega, rfl, hsn, by rw [endT_next hsi, endT_snoc]; rfl, by simp at hpl ⊢; omega, fun _ => by simp, h3b, Hz.only [2, 7, 8, 9, 11, 12], m209.ren [(8, 8), (3, 3), (71, 71), (9, 9), (22, 22), (10, 10)] (by decide)⟩
   clear Hz; intro hb128 Hz; try simp only [QQ, Qax] at hb128
   refine wp_cond_false (Hz.ev (x := .tmp 67) rfl) ?_
   refine zss (hK10 _ _ ?_); clear hK10
   replace Hz : Has 127 [(2, _), (7, _), (8, _), (9, _), (11, _), (12, _)] Az := Hz.only [2, 7, 8, 9, 11, 12]
   refine wp_region_lit ?_
   refine goCh Hz (.move rfl <| .move rfl <| .move rfl <| .nil) ?_
   clear Hz Az; intro Az Hz
   obtain ⟨b218, o218, vs218, hp218, hR218, ho218, m218⟩ := m109.openR (i := 71) rfl (i) (r := [.v (.int .i64 (seg y (endT (-1) (ss.take i)) t).bl), .v (.int .i64 (seg y (endT (-1) (ss.take i)) t).sz), .v (.int .i64 (seg y (endT (-1) (ss.take i)) t).fr), .v (.int .i64 (seg y (endT (-1) (ss.take i)) t).to), .l 2 ((seg y (endT (-1) (ss.take i)) t).its.map itD)]) (strD_get hsi) 100 rfl
   cases hp218; clear m109 ho218
   rcases hR218 with _ | ⟨hd218_0, _ | ⟨hd218_1, _ | ⟨hd218_2, _ | ⟨hd218_3, _ | ⟨hd218_4, _ | _⟩⟩⟩⟩⟩
   obtain rfl := hd218_0.v_out
   clear hd218_0
   obtain rfl := hd218_1.v_out
   clear hd218_1
   obtain rfl := hd218_2.v_out
   clear hd218_2
   obtain rfl := hd218_3.v_out
   clear hd218_3
   obtain ⟨p219, c219, hv219, hc219⟩ := hd218_4.l_shape; subst hv219
   have m219 := m218.dat 101 rfl (hd218_4.cast (fun _ h => (free_add rfl h))); clear m218 hd218_4
   refine goCh Hz (.c rfl (fun _ h => y_idx h rfl rfl U25 fct8 (i) rfl hi) <| .loadCR m219 (i := 100) rfl rfl U35 rfl fct8 <| .nil) ?_
   clear Hz Az; intro Az Hz
   refine wpList_plain rfl (fun K hK => ?_)
   refine e_litR Hz m219 102 (mm := 5) rfl (.cons rfl rfl (.cons (.v _) (.cons (.v _) (.cons (.v _) (.cons (.v _) (.cons (m219.rd (i := 101) rfl) .nil))))) <| .nil) U25 fct5 rfl rfl rfl rfl rfl ?_
   clear Hz Az m219; intro g222 Az w223 Hz m223
   refine hK _ _ ?_; clear hK
   have m225 := m223.freezeR 102 rfl; clear m223
   refine wpList_plain rfl (fun K hK => ?_)
   refine e_appR Hz m225 10 rfl rfl rfl (m225.rd (i := 102) rfl) U25 fct5 rfl rfl (by decide) (by simp; omega) rfl ?_
   clear Hz Az m225; intro p224 c224 Az w226 Hz m226
   refine hK _ _ ?_; clear hK
   refine goCh Hz (.assign rfl .nil) ?_
   clear Hz Az; intro Az Hz
   refine znl (hK9 _ _ ?_); clear hK9
   replace Hz : Has 127 [(2, _), (7, _), (8, _), (9, _), (11, _), (12, _)] Az := Hz.only [2, 7, 8, 9, 11, 12]
   refine wp_region_lit ?_
   refine goCh Hz (.move rfl <| .add rfl rfl (r := ((i + 1 : Nat) : Int)) (by rw [IntWalk.i64_in _ (by omega)]; omega) <| .assign rfl <| .nil) ?_
   clear Hz Az; intro Az Hz
   refine wpList_nil ?_
   show ∃ n', n' < _ ∧ _
   have hE : (parts.map strD) ++ [[.v (.int .i64 (seg y (endT (-1) (ss.take i)) t).bl), .v (.int .i64 (seg y (endT (-1) (ss.take i)) t).sz), .v (.int .i64 (seg y (endT (-1) (ss.take i)) t).fr), .v (.int .i64 (seg y (endT (-1) (ss.take i)) t).to), .l 2 ((seg y (endT (-1) (ss.take i)) t).its.map itD)]] = (parts ++ [seg y (endT (-1) (ss.take i)) t]).map strD := by rw [List.map_append]; rfl
   rw [hE] at m226 Hz
   exact ⟨ss.length - (i + 1), by omega, i + 1, parts ++ [seg y (endT (-1) (ss.take i)) t], _, _, _, _, _, _, _, _, _, _, _, _, _, _, _, _, _, _, by omega, rfl, (by have h9 := hsp.snoc (t := t) (by rw [hend]; exact ht1) ht2; rwa [hend] at h9), by rw [endT_next hsi, endT_snoc]; rfl, by simp; omega, fun _ => by simp, h3b, Hz.only [2, 7, 8, 9, 11, 12], m226.ren [(8, 8), (3, 3), (71, 71), (9, 9), (22, 22), (10, 10)] (by decide)⟩
  clear Hz; intro hb121 Hz; try simp only [QQ, Qax] at hb121
  refine goCh Hz (.sk <| .sk <| .sk <| .sk <| .pickF rfl rfl <| .nil) ?_
  clear Hz Az; intro Az Hz
  refine znl (hK11 _ _ ?_); clear hK11
  refine wp_cond_false (Hz.ev (x := .tmp 67) rfl) ?_
  refine zss (hK10 _ _ ?_); clear hK10
  replace Hz : Has 127 [(2, _), (7, _), (8, _), (9, _), (11, _), (12, _)] Az := Hz.only [2, 7, 8, 9, 11, 12]
  refine wp_region_lit ?_
  refine goCh Hz (.move rfl <| .move rfl <| .move rfl <| .nil) ?_
  clear Hz Az; intro Az Hz
  obtain ⟨b241, o241, vs241, hp241, hR241, ho241, m241⟩ := m109.openR (i := 71) rfl (i) (r := [.v (.int .i64 (seg y (endT (-1) (ss.take i)) t).bl), .v (.int .i64 (seg y (endT (-1) (ss.take i)) t).sz), .v (.int .i64 (seg y (endT (-1) (ss.take i)) t).fr), .v (.int .i64 (seg y (endT (-1) (ss.take i)) t).to), .l 2 ((seg y (endT (-1) (ss.take i)) t).its.map itD)]) (strD_get hsi) 100 rfl
  cases hp241; clear m109 ho241
  rcases hR241 with _ | ⟨hd241_0, _ | ⟨hd241_1, _ | ⟨hd241_2, _ | ⟨hd241_3, _ | ⟨hd241_4, _ | _⟩⟩⟩⟩⟩
  obtain rfl := hd241_0.v_out
  clear hd241_0
  obtain rfl := hd241_1.v_out
  clear hd241_1
  obtain rfl := hd241_2.v_out
  clear hd241_2
  obtain rfl := hd241_3.v_out
  clear hd241_3
  obtain ⟨p242, c242, hv242, hc242⟩ := hd241_4.l_shape; subst hv242
  have m242 := m241.dat 101 rfl (hd241_4.cast (fun _ h => (free_add rfl h))); clear m241 hd241_4
  refine goCh Hz (.c rfl (fun _ h => y_idx h rfl rfl U25 fct8 (i) rfl hi) <| .loadCR m242 (i := 100) rfl rfl U35 rfl fct8 <| .nil) ?_
  clear Hz Az; intro Az Hz
  refine wpList_plain rfl (fun K hK => ?_)
  refine e_litR Hz m242 102 (mm := 5) rfl (.cons rfl rfl (.cons (.v _) (.cons (.v _) (.cons (.v _) (.cons (.v _) (.cons (m242.rd (i := 101) rfl) .nil))))) <| .nil) U25 fct5 rfl rfl rfl rfl rfl ?_
  clear Hz Az m242; intro g245 Az w246 Hz m246
  refine hK _ _ ?_; clear hK
  have m248 := m246.freezeR 102 rfl; clear m246
  refine wpList_plain rfl (fun K hK => ?_)
  refine e_appR Hz m248 10 rfl rfl rfl (m248.rd (i := 102) rfl) U25 fct5 rfl rfl (by decide) (by simp; omega) rfl ?_
  clear Hz Az m248; intro p247 c247 Az w249 Hz m249
  refine hK _ _ ?_; clear hK
  refine goCh Hz (.assign rfl .nil) ?_
  clear Hz Az; intro Az Hz
  refine znl (hK9 _ _ ?_); clear hK9
  replace Hz : Has 127 [(2, _), (7, _), (8, _), (9, _), (11, _), (12, _)] Az := Hz.only [2, 7, 8, 9, 11, 12]
  refine wp_region_lit ?_
  refine goCh Hz (.move rfl <| .add rfl rfl (r := ((i + 1 : Nat) : Int)) (by rw [IntWalk.i64_in _ (by omega)]; omega) <| .assign rfl <| .nil) ?_
  clear Hz Az; intro Az Hz
  refine wpList_nil ?_
  show ∃ n', n' < _ ∧ _
  have hE : (parts.map strD) ++ [[.v (.int .i64 (seg y (endT (-1) (ss.take i)) t).bl), .v (.int .i64 (seg y (endT (-1) (ss.take i)) t).sz), .v (.int .i64 (seg y (endT (-1) (ss.take i)) t).fr), .v (.int .i64 (seg y (endT (-1) (ss.take i)) t).to), .l 2 ((seg y (endT (-1) (ss.take i)) t).its.map itD)]] = (parts ++ [seg y (endT (-1) (ss.take i)) t]).map strD := by rw [List.map_append]; rfl
  rw [hE] at m249 Hz
  exact ⟨ss.length - (i + 1), by omega, i + 1, parts ++ [seg y (endT (-1) (ss.take i)) t], _, _, _, _, _, _, _, _, _, _, _, _, _, _, _, _, _, _, by omega, rfl, (by have h9 := hsp.snoc (t := t) (by rw [hend]; exact ht1) ht2; rwa [hend] at h9), by rw [endT_next hsi, endT_snoc]; rfl, by simp; omega, fun _ => by simp, h3b, Hz.only [2, 7, 8, 9, 11, 12], m249.ren [(8, 8), (3, 3), (71, 71), (9, 9), (22, 22), (10, 10)] (by decide)⟩
 clear Hz; intro hb114 Hz; try simp only [QQ, Qax] at hb114
 have hie : i = ss.length := by have := hb114; first | omega | (simp at this; omega)
 have hokp := hsp.oks hS (by omega) (by omega)
 have hkx := seg_ok hS (by omega) (fr := -1) (t := T) (by omega) (by simp) hTw (.inl rfl)
 refine wp_cond_false (Hz.ev (x := .tmp 57) rfl) ?_
 refine wp_exit ?_
 refine hK7 _ _ ?_; clear hK7
 refine zsr fun K17 hK17 => ?_
 refine goCh Hz (.move rfl .nil) ?_
 clear Hz Az; intro Az Hz
 have m257 := m109.freezeR 10 rfl; clear m109
 refine wpList_plain rfl (fun K hK => ?_)
 refine e_call Hz Tryd.func10 rfl rfl rfl rfl (all_yes parts _ _ _ _ ((m257.rd (i := 10) rfl).any) (by omega) (fun s hs => (hokp s hs).1) (hsp.chain (hpos (by omega))) (by have := tot_bd (fun s hs => (hokp s hs).1.len); omega) (fun s hs => (hokp s hs).2)) ?_
 rintro e w258 ⟨sv, p258, c258, hE2, hsl9, hso, rfl, hd258, hb258⟩
 obtain ⟨T2, -, hT2w, hT2e, rfl⟩ := hE2.seg hsp
 obtain rfl : T = T2 := by rw [hend, endT_full hie] at hT2e; omega
 have m259 := m257.callF 100 rfl hb258 hd258
 clear m257
 clear hb258 hd258
 refine ⟨_, rfl, ?_⟩; clear Hz Az; intro Az Hz
 refine hK _ _ ?_; clear hK
 refine goCh Hz (.move rfl <| .extract rfl rfl <| .extract rfl rfl <| .nil) ?_
 clear Hz Az; intro Az Hz
 refine wpList_plain rfl (fun K hK => ?_)
 refine e_alloc Hz m259 101 fct10 rfl ?_
 clear Hz Az m259; intro g264 Az w265 Hz m265 hB265 hg265
 clear hB265 hg265
 refine hK _ _ ?_; clear hK
 refine wpList_plain rfl (fun K hK => ?_)
 refine e_storeW Hz m265 101 rfl rfl rfl rfl rfl fct8 ?_
 clear m265; intro w266 m266 hB266
 clear hB266
 refine hK _ _ ?_; clear hK
 refine goCh Hz (.assign rfl .nil) ?_
 clear Hz Az; intro Az Hz
 refine znl (hK17 _ _ ?_); clear hK17
 refine wp_seq_k (fun K18 hK18 => ?_)
 replace Hz : Has 127 [(2, _), (7, _), (8, _), (9, _), (11, _), (12, _), (15, _), (16, _)] Az := Hz.only [2, 7, 8, 9, 11, 12, 15, 16]
 obtain ⟨b269, o269, vs269, hp269, hR269, ho269, m269⟩ := m266.openR (i := 71) rfl ((ss.length - 1)) (r := [.v (.int .i64 sl.bl), .v (.int .i64 sl.sz), .v (.int .i64 sl.fr), .v (.int .i64 sl.to), .l 2 (sl.its.map itD)]) (strD_get hsll) 102 rfl
 cases hp269; clear m266 ho269
 rcases hR269 with _ | ⟨hd269_0, _ | ⟨hd269_1, _ | ⟨hd269_2, _ | ⟨hd269_3, _ | ⟨hd269_4, _ | _⟩⟩⟩⟩⟩
 obtain rfl := hd269_0.v_out
 clear hd269_0
 obtain rfl := hd269_1.v_out
 clear hd269_1
 obtain rfl := hd269_2.v_out
 clear hd269_2
 obtain rfl := hd269_3.v_out
 clear hd269_3
 obtain ⟨p270, c270, hv270, hc270⟩ := hd269_4.l_shape; subst hv270
 have m270 := m269.dat 103 rfl (hd269_4.cast (fun _ h => (free_add rfl h))); clear m269 hd269_4
 have m271 : MemOk _ _ [(3, _), (8, _), (9, _), (10, _), (22, _), (71, _), (100, _), (101, _), (102, _), (103, _)] _ := m270.only [3, 8, 9, 10, 22, 71, 100, 101, 102, 103]; clear m270
 refine region_p 14 (B := [(3, _), (8, _), (9, _), (10, _), (22, _), (71, _), (100, _), (101, _), (102, _), (103, _)]) (m271.to ⟨il, il, il, il, il, il, il, il, il, il, trivial⟩) m271 (by kernel_rfl) (fun w272 hP272 m272 => ?_); clear m271
 refine goR hP272 [0, 1, 2, 3, 4, 5, 6, 7] [0, 7] 8 0 255 Hz (m272.to ⟨il, il, il, il, il, il, il, il, il, il, trivial⟩) (.loadBR hh (i := 8) rfl rfl U30 rfl fct7 (by simp) (by dsimp only [List.drop, List.take] <;> rfl) <| .move rfl <| .move rfl <| .len rfl U25 <| .sub rfl rfl (r := ((ss.length - 1 : Nat) : Int)) (by rw [IntWalk.i64_in _ (by omega)]; omega) <| .p (fun _ _ h => y_idx h rfl rfl U25 fct8 ((ss.length - 1)) rfl (by omega)) <| .fieldAddrQ 3 rfl U35 rfl (s := 0) (by kernel_rfl) rfl <| .loadC1 hh (i := 102) (q := 3) rfl rfl rfl U2 rfl <| .nil) ?_
 clear Hz Az; intro Az Hz
 refine stepE_only 8 rfl (by kernel_rfl) rfl (fun K hK => ?_)
 refine e_call Hz Tryd.func12 rfl rfl rfl rfl (rstate_g _ y _ hS (by omega) _ _ _ _ _ _ _ _ 0 _ T (by rw [← hsle, hTe]) _ (fun b hb => (List.not_mem_nil (a := b)) hb) (by first | omega | (simp only [seg]; omega)) hTw (m272.into [(3, 3)] (by decide) rfl)) ?_
 rintro e w281 ⟨p281, c281, rfl, hm281⟩
 have mx281 := m272.back hm281 [(3, 3), (104, 9)] (by decide); clear hm281 m272
 have m281 : MemOk _ _ [(3, _), (104, _), (8, _), (9, _), (10, _), (22, _), (71, _), (100, _), (101, _), (102, _), (103, _)] _ := mx281.only [3, 104, 8, 9, 10, 22, 71, 100, 101, 102, 103]; clear mx281
 refine ⟨_, rfl, ?_⟩; clear Hz Az; intro Az Hz
 refine hK _ _ (m281.to ⟨il, il, il, il, il, il, il, il, il, il, trivial⟩) ?_; clear hK K
 refine goA hP272 [9, 10, 11, 12, 13] 5 511 16383 Hz (m281.to ⟨il, il, il, il, il, il, il, il, il, il, trivial⟩) (.move rfl <| .extract rfl rfl <| .extract rfl rfl <| .assign rfl <| .assign rfl <| .nil) ?_
 clear Hz Az; intro Az Hz
 refine wpAnyE_done (by kernel_rfl) ?_ _
 refine hK18 _ _ ?_; clear hK18
 replace Hz : Has 127 [(2, _), (7, _), (8, _), (9, _), (11, _), (12, _), (15, _), (16, _), (17, _)] Az := Hz.only [2, 7, 8, 9, 11, 12, 15, 16, 17]
 refine zsr fun K19 hK19 => ?_
 refine goCh Hz (.move rfl <| .eql rfl rfl <| .move rfl <| .nil) ?_
 clear Hz Az; intro Az Hz
 refine bool_cases Hz (t := 116) rfl ?_ ?_
 rotate_left
 · intro hb _; exact absurd hb (by first | exact fun h => kStr h | decide | (simp; done) | (intro h; revert h; first | decide | (exact fun h => by cases h)))
 clear Hz; intro _ Hz
 refine goCh Hz (.loadBRZ m281 (i := 101) rfl rfl U35 rfl fct8 (by simp) (by dsimp only [List.drop, List.take] <;> rfl) <| .loadBRZ m281 (i := 9) rfl rfl U35 rfl fct8 (by simp) (by dsimp only [List.drop, List.take] <;> rfl) <| .nil) ?_
 clear Hz Az; intro Az Hz
 refine st_ge Hz rfl rfl rfl rfl (fun K hK => ?_)
 refine e_call Hz Tryd.func13 rfl rfl rfl rfl (streams_same (seg y (-1) T) _ _ _ _ _ _ _ ((m281.rd (i := 100) rfl).any) ((m281.rd (i := 22) rfl).any) (by have := hkx.1.len; omega)) ?_
 rintro e w298 ⟨rfl, hb298⟩
 have m299 := m281.later hb298
 clear m281
 clear hb298
 refine ⟨_, rfl, ?_⟩; clear Hz Az; intro Az Hz
 refine hK _ _ ?_; clear hK
 refine goCh Hz (.pickT rfl rfl <| .move rfl <| .loadBRZ m299 (i := 9) rfl rfl U35 rfl fct8 (by simp) (by dsimp only [List.drop, List.take] <;> rfl) <| .nil) ?_
 clear Hz Az; intro Az Hz
 refine st_ge Hz rfl rfl rfl rfl (fun K hK => ?_)
 refine e_call Hz Tryd.func15 rfl rfl rfl rfl (blocks_yes (seg y (-1) T) _ _ _ _ ((m299.rd (i := 22) rfl).any) hkx.1 hkx.2 (show (-1 : Int) < 0 by decide)) ?_
 rintro e w304 ⟨p304, c304, rfl, hd304, hb304⟩
 rw [seg_blocks hS (by decide)] at hd304
 have m305 := m299.callF 105 rfl hb304 hd304
 clear m299
 clear hb304 hd304
 refine ⟨_, rfl, ?_⟩; clear Hz Az; intro Az Hz
 refine hK _ _ ?_; clear hK
 refine goCh Hz (.moveZ rfl .nil) ?_
 clear Hz Az; intro Az Hz
 refine st_ge Hz rfl rfl rfl rfl (fun K hK => ?_)
 refine e_call Hz Tryd.func14 rfl rfl rfl rfl (bodies_any (stL y.bl y.sz y.ws T) _ _ _ _ _ _ _ ((m305.rd (i := 105) rfl).any) ((m305.rd (i := 104) rfl).any) (by rw [stL_len]; have := hkx.1.b; omega)) ?_
 rintro e w308 ⟨rfl, hb308⟩
 have m309 := m305.later hb308
 clear m305
 clear hb308
 refine ⟨_, rfl, ?_⟩; clear Hz Az; intro Az Hz
 refine hK _ _ ?_; clear hK
 refine goCh Hz (.pickT rfl rfl <| .assign rfl <| .nil) ?_
 clear Hz Az; intro Az Hz
 refine znl (hK19 _ _ ?_); clear hK19
 refine wp_ret ?_
 try dsimp only [Exit.then, Exit.inBlock]
 refine (ret1 (fn := Tryd.f3) Hz rfl rfl ?_)
 exact ⟨by first | rfl | (simp; done), m309.below⟩
end Go.Proofs.YtflcgpajodfkoaaDoor.K
