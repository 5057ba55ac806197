/- ChainBreaks' walk. -/
import Derived.Test.YtflcgpajodfkoaaDoorCha5m
namespace Go.Proofs.YtflcgpajodfkoaaDoor.K
open Go.ChangeShapes Go.WideShapes Go.ChangeAt Go.RowKit
set_option linter.unusedVariables false
set_option linter.unusedSimpArgs false
set_option maxRecDepth 100000
set_option maxHeartbeats 4000000
theorem breaks_walk (l ts : List Int) (pl : Option Addr) (cl : Nat) (pt0 : Option Addr) (ct0 : Nat) (o9 : Int) (w0 : World) (h1 : Rd (fun _ => True) w0 (.slice pl l.length cl) (.ns .u8 l)) (hlb : ∀ j, j < l.length → 0 ≤ l.getD j 0 ∧ l.getD j 0 ≤ 255) (h2 : Rd (fun _ => True) w0 (.slice pt0 ts.length ct0) (.ns .u8 ts)) (htb : ∀ j, j < ts.length → 0 ≤ ts.getD j 0 ∧ ts.getD j 0 ≤ 255) (ho9 : 0 ≤ o9 ∧ o9 ≤ 255) :
   Calls Tryd.prog 5 #[.slice pl l.length cl, .slice pt0 ts.length ct0, .int .u8 o9] w0 fun e w' => e = .returned (.bool true) ∧ Below w0.heap.size w0 w' := by
 refine ent3 Tryd.func5 rfl Tryd.ntmps5 fun Az Hz => ?_
 have m0 := MemOk.start (fun _ => False) w0
 refine regS Hz (.assign rfl <| .nil) ?_
 clear Hz Az; intro Az Hz
 refine wp_seq_k (fun K0 hK0 => ?_)
 refine sr fun K1 hK1 => ?_
 refine wpList_plain rfl (fun K hK => ?_)
 refine e_call Hz Tryd.func8 rfl rfl rfl rfl (cknown_any _) ?_
 rintro e w2 ⟨rfl, hb2⟩
 have m3 := m0.later hb2
 clear m0
 clear hb2
 refine ⟨_, rfl, ?_⟩; clear Hz Az; intro Az Hz
 refine hK _ _ ?_; clear hK
 refine goCh Hz (.not rfl .nil) ?_
 clear Hz Az; intro Az Hz
 refine nl (hK1 _ _ ?_); clear hK1
 refine wp_cond_false (Hz.ev (x := .tmp 17) rfl) ?_
 refine ss (hK0 _ _ ?_); clear hK0
 refine wp_seq_k (fun K2 hK2 => ?_)
 refine sr fun K3 hK3 => ?_
 refine goCh Hz (.move rfl <| .len rfl U22 <| .gtr rfl rfl <| .move rfl <| .nil) ?_
 clear Hz Az; intro Az Hz
 refine bool_cases Hz (t := 21) rfl ?_ ?_
 ·
  clear Hz; intro hb14 Hz; try simp only [QQ, Qax] at hb14
  refine goCh Hz (.sk <| .sk <| .sk <| .pickT rfl rfl <| .move rfl <| .sk <| .sk <| .sk <| .pickT rfl rfl <| .nil) ?_
  clear Hz Az; intro Az Hz
  refine nl (hK3 _ _ ?_); clear hK3
  refine wp_cond_true (Hz.ev (x := .tmp 30) rfl) ?_
  replace Hz : Has 105 [(0, _), (1, _), (2, _), (6, _)] Az := Hz.only [0, 1, 2, 6]
  refine regS Hz (.assign rfl <| .nil) ?_
  clear Hz Az; intro Az Hz
  refine wp_ret ?_
  try dsimp only [Exit.then, Exit.inBlock]
  refine (ret1 (fn := Tryd.f5) Hz rfl rfl ?_)
  exact ⟨by first | rfl | (simp; done) | (simp [hf9]; done), m3.below⟩
 clear Hz; intro hb14 Hz; try simp only [QQ, Qax] at hb14
 have hl80 : l.length ≤ 80 := by have := hb14; first | omega | (simp at this; omega)
 refine goCh Hz (.moveZ rfl <| .lenZ rfl U22 <| .gtrZ rfl rfl <| .pickF rfl rfl <| .move rfl <| .nil) ?_
 clear Hz Az; intro Az Hz
 refine bool_cases Hz (t := 26) rfl ?_ ?_
 ·
  clear Hz; intro hb31 Hz; try simp only [QQ, Qax] at hb31
  refine goCh Hz (.sk <| .sk <| .sk <| .pickT rfl rfl <| .nil) ?_
  clear Hz Az; intro Az Hz
  refine nl (hK3 _ _ ?_); clear hK3
  refine wp_cond_true (Hz.ev (x := .tmp 30) rfl) ?_
  replace Hz : Has 105 [(0, _), (1, _), (2, _), (6, _)] Az := Hz.only [0, 1, 2, 6]
  refine regS Hz (.assign rfl <| .nil) ?_
  clear Hz Az; intro Az Hz
  refine wp_ret ?_
  try dsimp only [Exit.then, Exit.inBlock]
  refine (ret1 (fn := Tryd.f5) Hz rfl rfl ?_)
  exact ⟨by first | rfl | (simp; done) | (simp [hf9]; done), m3.below⟩
 clear Hz; intro hb31 Hz; try simp only [QQ, Qax] at hb31
 have ht8 : ts.length ≤ 8 := by have := hb31; first | omega | (simp at this; omega)
 refine goCh Hz (.moveZ rfl <| .lenZ rfl U22 <| .lssZ rfl rfl <| .pickF rfl rfl <| .nil) ?_
 clear Hz Az; intro Az Hz
 refine nl (hK3 _ _ ?_); clear hK3
 refine bool_cases Hz (t := 30) rfl ?_ ?_
 ·
  clear Hz; intro hb42 Hz; try simp only [QQ, Qax] at hb42
  refine wp_cond_true (Hz.ev (x := .tmp 30) rfl) ?_
  replace Hz : Has 105 [(0, _), (1, _), (2, _), (6, _)] Az := Hz.only [0, 1, 2, 6]
  refine regS Hz (.assign rfl <| .nil) ?_
  clear Hz Az; intro Az Hz
  refine wp_ret ?_
  try dsimp only [Exit.then, Exit.inBlock]
  refine (ret1 (fn := Tryd.f5) Hz rfl rfl ?_)
  exact ⟨by first | rfl | (simp; done) | (simp [hf9]; done), m3.below⟩
 clear Hz; intro hb42 Hz; try simp only [QQ, Qax] at hb42
 have ht2 : 2 ≤ ts.length := by have := hb42; first | omega | (simp at this; omega)
 refine wp_cond_false (Hz.ev (x := .tmp 30) rfl) ?_
 refine ss (hK2 _ _ ?_); clear hK2
 replace Hz : Has 105 [(0, _), (1, _), (2, _), (6, _)] Az := Hz.only [0, 1, 2, 6]
 refine sr fun K4 hK4 => ?_
 refine goCh Hz (.move rfl <| .move rfl <| .nil) ?_
 clear Hz Az; intro Az Hz
 refine wpList_plain rfl (fun K hK => ?_)
 refine e_call Hz Tryd.func9 rfl rfl rfl rfl (streams_any l ts _ _ _ _ _ ((h1.now' m3 rfl).any) ((h2.now' m3 rfl).any) (by omega) hlb (by omega) htb) ?_
 rintro e w50 ⟨y, ss, p50, pp50, pn50, pw50, c50, np50, cp50, nn50, cn50, cw50, rfl, hS, hsl, hsg, hd50, he50, hb50⟩
 have m51 := m3.callF2 70 71 rfl rfl hb50 hd50 he50
 clear m3
 clear hb50 hd50 he50
 have hsm := hS.sm
 have hok := hsg.oks hS (by omega) (by omega)
 have hss9 : ss.length ≤ 8 := by omega
 have htot : totL ss ≤ 1000000 := by have := tot_bd (fun s hs => (hok s hs).1.len); omega
 obtain ⟨kq, hkq, hkl⟩ := tmod_natC (a := o9) (n := ss.length) ho9.1 (by omega)
 obtain ⟨sk, hsk⟩ : ∃ e, ss[kq]? = some e := ⟨_, List.getElem?_eq_getElem hkl⟩
 obtain ⟨s0v, hs0⟩ : ∃ e, ss[0]? = some e := ⟨_, List.getElem?_eq_getElem (by omega)⟩
 refine ⟨_, rfl, ?_⟩; clear Hz Az; intro Az Hz
 refine hK _ _ ?_; clear hK
 refine goCh Hz (.move rfl <| .extract rfl rfl <| .extract rfl rfl <| .nil) ?_
 clear Hz Az; intro Az Hz
 refine wpList_plain rfl (fun K hK => ?_)
 refine e_alloc Hz m51 72 fct12 rfl ?_
 clear Hz Az m51; intro g56 Az w57 Hz m57 hB57 hg57
 clear hB57 hg57
 refine hK _ _ ?_; clear hK
 refine goCh Hz (.assign rfl .nil) ?_
 clear Hz Az; intro Az Hz
 refine wpList_plain rfl (fun K hK => ?_)
 refine e_storeW Hz m57 72 rfl rfl rfl rfl rfl fct10 ?_
 clear m57; intro w59 m59 hB59
 clear hB59
 refine hK _ _ ?_; clear hK
 refine nl (hK4 _ _ ?_); clear hK4
 replace Hz : Has 105 [(2, _), (6, _), (7, _)] Az := Hz.only [2, 6, 7]
 refine regS Hz (.move rfl <| .conv rfl U5 U3 (IntWalk.i64_in _ (by omega)) <| .move rfl <| .len rfl U25 <| .rem rfl rfl (by omega) (r := (kq : Int)) hkq <| .assign rfl <| .nil) ?_
 clear Hz Az; intro Az Hz
 refine wp_seq_k (fun K5 hK5 => ?_)
 replace Hz : Has 105 [(6, _), (7, _), (9, _)] Az := Hz.only [6, 7, 9]
 have m68 : MemOk _ _ [(70, _), (71, _), (72, _)] _ := m59.only [70, 71, 72]; clear m59
 refine region_p 10 (B := [(70, _), (71, _), (72, _)]) (m68.to ⟨il, il, il, trivial⟩) m68 (by kernel_rfl) (fun w69 hP69 m69 => ?_); clear m68
 refine goA hP69 [0, 1] 2 0 3 Hz (m69.to ⟨il, il, il, trivial⟩) (.move rfl <| .move rfl <| .nil) ?_
 clear Hz Az; intro Az Hz
 have hcap73 := Rd.capL (m69.rd (i := 70) rfl)
 have m72 := m69.takeR (i := 70) rfl kq (by rw [List.length_map]; omega) 73 rfl; clear m69
 refine goA hP69 [2, 4, 5, 6] 4 3 119 Hz (m72.to ⟨il, il, il, trivial⟩) (.p (fun _ _ h => y_sliceHn h kq rfl rfl U25 fct7 rfl (by rw [List.length_map] at hcap73; omega)) <| .move rfl <| .move rfl <| .add rfl rfl (IntWalk.i64_in _ (by omega)) <| .nil) ?_
 clear Hz Az; intro Az Hz
 have m78 := m72.dropR (i := 70) rfl (kq + 1) (by rw [List.length_map]; omega) 74 rfl; clear m72
 refine goA hP69 [7] 1 119 247 Hz (m78.to ⟨il, il, il, trivial⟩) (.p (fun _ _ h => y_sliceLn h (kq + 1) rfl rfl U25 fct7 rfl (by omega)) <| .nil) ?_
 clear Hz Az; intro Az Hz
 have m80 := m78.nilR 75 35 5
 clear m78
 refine stepE_only 3 rfl (by kernel_rfl) rfl (fun K hK => ?_)
 refine e_appR Hz m80 75 rfl rfl rfl (m80.rd (i := 73) rfl) U25 fct20 rfl rfl (by decide) (by simp; omega) rfl ?_
 clear Hz Az m80; intro p81 c81 Az w82 Hz m82
 refine hK _ _ (m82.to ⟨il, il, il, trivial⟩) ?_; clear hK K
 refine stepE_only 8 rfl (by kernel_rfl) rfl (fun K hK => ?_)
 refine e_appR Hz m82 75 rfl rfl rfl (m82.rd (i := 74) rfl) U25 fct20 rfl rfl (by decide) (by simp; omega) rfl ?_
 clear Hz Az m82; intro p83 c83 Az w84 Hz m84
 refine hK _ _ (m84.to ⟨il, il, il, trivial⟩) ?_; clear hK K
 refine goA hP69 [9] 1 511 1023 Hz (m84.to ⟨il, il, il, trivial⟩) (.assign rfl <| .nil) ?_
 clear Hz Az; intro Az Hz
 refine wpAnyE_done (by kernel_rfl) ?_ _
 refine hK5 _ _ ?_; clear hK5
 refine wp_seq_k (fun K6 hK6 => ?_)
 rcases rest_cases hsg (by omega) hsk with ⟨hC, hk9⟩ | ⟨hC, hk9, hp9, hf9⟩ | ⟨hC, hk9, hn9⟩
 ·
  replace Hz : Has 105 [(6, _), (7, _), (9, _), (10, _)] Az := Hz.only [6, 7, 9, 10]
  refine wp_region_lit ?_
  refine goCh Hz (.move rfl .nil) ?_
  clear Hz Az; intro Az Hz
  have m88 := m84.freezeR 75 rfl; clear m84
  have hE : ([] ++ (ss.map strD).take kq) ++ (ss.map strD).drop (kq + 1) = (restV ss kq).map strD := by rw [List.nil_append, List.map_append, List.map_take, List.map_drop]
  rw [hE] at m88 Hz
  refine wpList_plain rfl (fun K hK => ?_)
  refine e_call Hz Tryd.func10 rfl rfl rfl rfl (all_yes (restV ss kq) _ _ _ _ ((m88.rd (i := 75) rfl).any) (by have := rest_len ss kq; omega) (fun s hs => (hok s (rest_mem hs)).1) hC (by have := tot_bd (l := restV ss kq) (fun s hs => (hok s (rest_mem hs)).1.len); have := rest_len ss kq; omega) (fun s hs => (hok s (rest_mem hs)).2)) ?_
  rintro e w89 ⟨sv, p89, c89, hE9, hsl9, hso, rfl, hd89, hb89⟩
  have m90 := m88.callF 76 rfl hb89 hd89
  clear m88
  clear hb89 hd89
  refine ⟨_, rfl, ?_⟩; clear Hz Az; intro Az Hz
  refine hK _ _ ?_; clear hK
  refine goCh Hz (.move rfl <| .extract rfl rfl <| .extract rfl rfl <| .nil) ?_
  clear Hz Az; intro Az Hz
  refine wpList_plain rfl (fun K hK => ?_)
  refine e_alloc Hz m90 77 fct21 rfl ?_
  clear Hz Az m90; intro g95 Az w96 Hz m96 hB96 hg96
  clear hB96 hg96
  refine hK _ _ ?_; clear hK
  refine wpList_plain rfl (fun K hK => ?_)
  refine e_storeW Hz m96 77 rfl rfl rfl rfl rfl fct7 ?_
  clear m96; intro w97 m97 hB97
  clear hB97
  refine hK _ _ ?_; clear hK
  refine goCh Hz (.assign rfl .nil) ?_
  clear Hz Az; intro Az Hz
  refine nl (hK6 _ _ ?_); clear hK6
  refine wp_seq_k (fun K7 hK7 => ?_)
  replace Hz : Has 105 [(6, _), (7, _), (9, _), (12, _)] Az := Hz.only [6, 7, 9, 12]
  obtain ⟨b100, o100, vs100, hp100, hR100, ho100, m100⟩ := m97.openR (i := 70) rfl (kq) (r := [.v (.int .i64 sk.bl), .v (.int .i64 sk.sz), .v (.int .i64 sk.fr), .v (.int .i64 sk.to), .l 2 (sk.its.map itD)]) (strD_get hsk) 78 rfl
  cases hp100; clear m97 ho100
  rcases hR100 with _ | ⟨hd100_0, _ | ⟨hd100_1, _ | ⟨hd100_2, _ | ⟨hd100_3, _ | ⟨hd100_4, _ | _⟩⟩⟩⟩⟩
  obtain rfl := hd100_0.v_out
  clear hd100_0
  obtain rfl := hd100_1.v_out
  clear hd100_1
  obtain rfl := hd100_2.v_out
  clear hd100_2
  obtain rfl := hd100_3.v_out
  clear hd100_3
  obtain ⟨p101, c101, hv101, hc101⟩ := hd100_4.l_shape; subst hv101
  have m101 := m100.dat 79 rfl (hd100_4.cast (fun _ h => (free_add rfl h))); clear m100 hd100_4
  obtain ⟨b102, o102, vs102, hp102, hR102, ho102, m102⟩ := m101.openR (i := 70) rfl (kq) (r := [.v (.int .i64 sk.bl), .v (.int .i64 sk.sz), .v (.int .i64 sk.fr), .v (.int .i64 sk.to), .l 2 (sk.its.map itD)]) (strD_get hsk) 80 rfl
  cases hp102; clear m101 ho102
  rcases hR102 with _ | ⟨hd102_0, _ | ⟨hd102_1, _ | ⟨hd102_2, _ | ⟨hd102_3, _ | ⟨hd102_4, _ | _⟩⟩⟩⟩⟩
  obtain rfl := hd102_0.v_out
  clear hd102_0
  obtain rfl := hd102_1.v_out
  clear hd102_1
  obtain rfl := hd102_2.v_out
  clear hd102_2
  obtain rfl := hd102_3.v_out
  clear hd102_3
  obtain ⟨p103, c103, hv103, hc103⟩ := hd102_4.l_shape; subst hv103
  have m103 := m102.dat 81 rfl (hd102_4.cast (fun _ h => (free_add rfl h))); clear m102 hd102_4
  have m104 : MemOk _ _ [(70, _), (71, _), (72, _), (73, _), (74, _), (75, _), (76, _), (77, _), (78, _), (79, _), (80, _), (81, _)] _ := m103.only [70, 71, 72, 73, 74, 75, 76, 77, 78, 79, 80, 81]; clear m103
  refine region_p 23 (B := [(70, _), (71, _), (72, _), (73, _), (74, _), (75, _), (76, _), (77, _), (78, _), (79, _), (80, _), (81, _)]) (m104.to ⟨il, il, il, il, il, il, il, il, il, il, il, il, trivial⟩) m104 (by kernel_rfl) (fun w105 hP105 m105 => ?_); clear m104
  refine goA hP105 [0, 1, 2, 3, 4, 5] 6 0 63 Hz (m105.to ⟨il, il, il, il, il, il, il, il, il, il, il, il, trivial⟩) (.move rfl <| .move rfl <| .len rfl U25 <| .sub rfl rfl (IntWalk.i64_in _ (by omega)) <| .eql rfl rfl <| .move rfl <| .nil) ?_
  clear Hz Az; intro Az Hz
  refine bool_cases Hz (t := 61) rfl ?_ ?_
  rotate_left
  · intro hb _; exact absurd hb (by simp; omega)
  clear Hz; intro _ Hz
  refine goA hP105 [6, 7, 8, 9, 10, 11, 12, 13, 14, 15, 16, 17, 18, 19, 20, 21, 22] 17 63 8388607 Hz (m105.to ⟨il, il, il, il, il, il, il, il, il, il, il, il, trivial⟩) (.s <| .s <| .s <| .u <| .u <| .u <| .u <| .u <| .u <| .u <| .u <| .u <| .u <| .u <| .s <| .pickT rfl rfl <| .assign rfl <| .nil) ?_
  clear Hz Az; intro Az Hz
  refine wpAnyE_done (by kernel_rfl) ?_ _
  refine hK7 _ _ ?_; clear hK7
  refine wp_seq_k (fun K8 hK8 => ?_)
  replace Hz : Has 105 [(6, _), (7, _), (12, _), (13, _)] Az := Hz.only [6, 7, 12, 13]
  obtain ⟨b131, o131, vs131, hp131, hR131, ho131, m131⟩ := m105.openR (i := 70) rfl (0) (r := [.v (.int .i64 s0v.bl), .v (.int .i64 s0v.sz), .v (.int .i64 s0v.fr), .v (.int .i64 s0v.to), .l 2 (s0v.its.map itD)]) (strD_get hs0) 82 rfl
  cases hp131; clear m105 ho131
  rcases hR131 with _ | ⟨hd131_0, _ | ⟨hd131_1, _ | ⟨hd131_2, _ | ⟨hd131_3, _ | ⟨hd131_4, _ | _⟩⟩⟩⟩⟩
  obtain rfl := hd131_0.v_out
  clear hd131_0
  obtain rfl := hd131_1.v_out
  clear hd131_1
  obtain rfl := hd131_2.v_out
  clear hd131_2
  obtain rfl := hd131_3.v_out
  clear hd131_3
  obtain ⟨p132, c132, hv132, hc132⟩ := hd131_4.l_shape; subst hv132
  have m132 := m131.dat 83 rfl (hd131_4.cast (fun _ h => (free_add rfl h))); clear m131 hd131_4
  have m133 : MemOk _ _ [(70, _), (71, _), (72, _), (73, _), (74, _), (75, _), (76, _), (77, _), (78, _), (79, _), (80, _), (81, _), (82, _), (83, _)] _ := m132.only [70, 71, 72, 73, 74, 75, 76, 77, 78, 79, 80, 81, 82, 83]; clear m132
  refine region_p 12 (B := [(70, _), (71, _), (72, _), (73, _), (74, _), (75, _), (76, _), (77, _), (78, _), (79, _), (80, _), (81, _), (82, _), (83, _)]) (m133.to ⟨il, il, il, il, il, il, il, il, il, il, il, il, il, il, trivial⟩) m133 (by kernel_rfl) (fun w134 hP134 m134 => ?_); clear m133
  refine goR hP134 [0, 2, 3, 4] [4] 4 0 29 Hz (m134.to ⟨il, il, il, il, il, il, il, il, il, il, il, il, il, il, trivial⟩) (.move rfl <| .move rfl <| .p (fun _ _ h => y_idx h rfl rfl U25 fct7 (0) rfl (by omega)) <| .loadCR hh (i := 82) rfl rfl U35 rfl fct7 <| .nil) ?_
  clear Hz Az; intro Az Hz
  refine d_three 1 5 11 rfl rfl rfl (by kernel_rfl) rfl rfl rfl (fun K hK => ?_) (fun K hK => ?_) (fun K hK => ?_)
  ·
   have m139 := m134.nilR 84 35 5
   clear m134
   refine e_appR Hz m139 84 rfl rfl rfl (m139.rd (i := 70) rfl) U25 fct20 rfl rfl (by decide) (by simp; omega) rfl ?_
   clear Hz Az m139; intro p140 c140 Az w141 Hz m141
   refine hK _ _ (fun _ => (m141.to ⟨il, il, il, il, il, il, il, il, il, il, il, il, il, il, trivial⟩)) ?_; clear hK K
   refine d_two 5 11 rfl rfl (by kernel_rfl) rfl rfl (fun K hK => ?_) (fun K hK => ?_)
   ·
    refine e_litR Hz m141 85 (mm := 5) rfl (.cons rfl rfl (.cons (.v _) (.cons (.v _) (.cons (.v _) (.cons (.v _) (.cons (m141.rd (i := 83) rfl) .nil))))) <| .nil) U25 fct20 rfl rfl rfl rfl rfl ?_
    clear Hz Az m141; intro g142 Az w143 Hz m143
    refine hK _ _ (fun _ => (m143.to ⟨il, il, il, il, il, il, il, il, il, il, il, il, il, il, trivial⟩)) ?_; clear hK K
    refine d_two 6 11 rfl rfl (by kernel_rfl) rfl rfl (fun K hK => ?_) (fun K hK => ?_)
    ·
     have m145 := m143.freezeR 85 rfl; clear m143
     refine e_appR Hz m145 84 rfl rfl rfl (m145.rd (i := 85) rfl) U25 fct20 rfl rfl (by decide) (by simp; omega) rfl ?_
     clear Hz Az m145; intro p144 c144 Az w146 Hz m146
     refine hK _ _ (fun _ => (m146.to ⟨il, il, il, il, il, il, il, il, il, il, il, il, il, il, trivial⟩)) ?_; clear hK K
     refine d_two 7 11 rfl rfl (by kernel_rfl) rfl rfl (fun K hK => ?_) (fun K hK => ?_)
     ·
      have m147 := m146.freezeR 84 rfl; clear m146
      have hE2 : ([] ++ (ss.map strD)) ++ [[.v (.int .i64 s0v.bl), .v (.int .i64 s0v.sz), .v (.int .i64 s0v.fr), .v (.int .i64 s0v.to), .l 2 (s0v.its.map itD)]] = (ss ++ [s0v]).map strD := by rw [List.nil_append, List.map_append]; rfl
      rw [hE2] at m147 Hz
      refine e_call Hz Tryd.func10 rfl rfl rfl rfl (all_no (ss ++ [s0v]) _ _ _ _ ((m147.rd (i := 84) rfl).any) (by simp; omega) (fun s hs => (hok s (by rcases List.mem_append.1 hs with h9 | h9; (exact h9); (rw [List.mem_singleton.1 h9]; exact List.mem_of_getElem? hs0))).1) (twice_no hsg (by omega) hs0)) ?_
      rintro e w148 ⟨rfl, hb148⟩
      have m149 := m147.later hb148
      clear m147
      clear hb148
      refine ⟨_, rfl, ?_⟩; clear Hz Az; intro Az Hz
      refine hK _ _ (fun _ => (m149.to ⟨il, il, il, il, il, il, il, il, il, il, il, il, il, il, trivial⟩)) ?_; clear hK K
      refine goA hP134 [8, 9, 10] 3 255 2047 Hz (m149.to ⟨il, il, il, il, il, il, il, il, il, il, il, il, il, il, trivial⟩) (.move rfl <| .extract rfl rfl <| .extract rfl rfl <| .nil) ?_
      clear Hz Az; intro Az Hz
      refine stepE_only 11 rfl (by kernel_rfl) rfl (fun K hK => ?_)
      refine e_alloc Hz m149 86 fct21 rfl ?_
      clear Hz Az m149; intro g154 Az w155 Hz m155 hB155 hg155
      clear hB155 hg155
      refine hK _ _ (m155.to ⟨il, il, il, il, il, il, il, il, il, il, il, il, il, il, trivial⟩) ?_; clear hK K
      refine stepE_end 12 rfl (by kernel_rfl) rfl (by rfl) (fun K hK => ?_)
      refine e_storeW Hz m155 86 rfl rfl rfl rfl rfl fct7 ?_
      clear m155; intro w156 m156 hB156
      clear hB156
      refine hK _ _ ?_; clear hK
      refine goB hP134 [13] 1 8191 16383 Hz (.assign rfl <| .nil) ?_
      clear Hz Az; intro Az Hz
      refine wpAnyE_done (by kernel_rfl) ?_ _
      refine hK8 _ _ ?_; clear hK8
      replace Hz : Has 105 [(6, _), (12, _), (13, _), (15, _)] Az := Hz.only [6, 12, 13, 15]
      refine sr fun K9 hK9 => ?_
      refine goCh Hz (.move rfl <| .eql rfl rfl <| .move rfl <| .eqlB rfl rfl U4 <| .move rfl <| .nil) ?_
      clear Hz Az; intro Az Hz
      refine bool_cases Hz (t := 93) rfl ?_ ?_
      rotate_left
      · intro hb _; exact absurd hb (by first | (simp; done) | (simp [hf9]; done) | (simp; omega))
      clear Hz; intro _ Hz
      refine goCh Hz (.moveZ rfl <| .eqlZ rfl rfl <| .pickT rfl rfl <| .move rfl <| .nil) ?_
      clear Hz Az; intro Az Hz
      refine bool_cases Hz (t := 97) rfl ?_ ?_
      rotate_left
      · intro hb _; exact absurd hb (by first | (simp; done) | (simp [hf9]; done) | (simp; omega))
      clear Hz; intro _ Hz
      refine goCh Hz (.moveZ rfl <| .eqlZ rfl rfl <| .moveZ rfl <| .nil) ?_
      clear Hz Az; intro Az Hz
      refine bool_cases Hz (t := 100) rfl ?_ ?_
      rotate_left
      · intro hb _; exact absurd hb (by first | (simp; done) | (simp [hf9]; done) | (simp; omega))
      clear Hz; intro _ Hz
      refine goCh Hz (.sk <| .sk <| .pickTZ rfl rfl <| .pickT rfl rfl <| .assign rfl <| .nil) ?_
      clear Hz Az; intro Az Hz
      refine nl (hK9 _ _ ?_); clear hK9
      refine wp_ret ?_
      try dsimp only [Exit.then, Exit.inBlock]
      refine (ret1 (fn := Tryd.f5) Hz rfl rfl ?_)
      exact ⟨by first | rfl | (simp; done) | (simp [hf9]; done), m156.below⟩
     refine e_alloc Hz m146 86 fct21 rfl ?_
     clear Hz Az m146; intro g184 Az w185 Hz m185 hB185 hg185
     clear hB185 hg185
     refine hK _ _ (fun _ => (m185.to ⟨il, il, il, il, il, il, il, il, il, il, il, il, il, il, trivial⟩)) ?_; clear hK K
     have m186 := m185.freezeR 84 rfl; clear m185
     have hE2 : ([] ++ (ss.map strD)) ++ [[.v (.int .i64 s0v.bl), .v (.int .i64 s0v.sz), .v (.int .i64 s0v.fr), .v (.int .i64 s0v.to), .l 2 (s0v.its.map itD)]] = (ss ++ [s0v]).map strD := by rw [List.nil_append, List.map_append]; rfl
     rw [hE2] at m186 Hz
     refine stepE_only 7 rfl (by kernel_rfl) rfl (fun K hK => ?_)
     refine e_call Hz Tryd.func10 rfl rfl rfl rfl (all_no (ss ++ [s0v]) _ _ _ _ ((m186.rd (i := 84) rfl).any) (by simp; omega) (fun s hs => (hok s (by rcases List.mem_append.1 hs with h9 | h9; (exact h9); (rw [List.mem_singleton.1 h9]; exact List.mem_of_getElem? hs0))).1) (twice_no hsg (by omega) hs0)) ?_
     rintro e w187 ⟨rfl, hb187⟩
     have m188 := m186.later hb187
     clear m186
     clear hb187
     refine ⟨_, rfl, ?_⟩; clear Hz Az; intro Az Hz
     refine hK _ _ (m188.to ⟨il, il, il, il, il, il, il, il, il, il, il, il, il, il, trivial⟩) ?_; clear hK K
     refine goA hP134 [8, 9, 10] 3 2303 4095 Hz (m188.to ⟨il, il, il, il, il, il, il, il, il, il, il, il, il, il, trivial⟩) (.move rfl <| .extract rfl rfl <| .extract rfl rfl <| .nil) ?_
     clear Hz Az; intro Az Hz
     refine stepE_end 12 rfl (by kernel_rfl) rfl (by rfl) (fun K hK => ?_)
     refine e_storeW Hz m188 86 rfl rfl rfl rfl rfl fct7 ?_
     clear m188; intro w193 m193 hB193
     clear hB193
     refine hK _ _ ?_; clear hK
     refine goB hP134 [13] 1 8191 16383 Hz (.assign rfl <| .nil) ?_
     clear Hz Az; intro Az Hz
     refine wpAnyE_done (by kernel_rfl) ?_ _
     refine hK8 _ _ ?_; clear hK8
     replace Hz : Has 105 [(6, _), (12, _), (13, _), (15, _)] Az := Hz.only [6, 12, 13, 15]
     refine sr fun K10 hK10 => ?_
     refine goCh Hz (.move rfl <| .eql rfl rfl <| .move rfl <| .eqlB rfl rfl U4 <| .move rfl <| .nil) ?_
     clear Hz Az; intro Az Hz
     refine bool_cases Hz (t := 93) rfl ?_ ?_
     rotate_left
     · intro hb _; exact absurd hb (by first | (simp; done) | (simp [hf9]; done) | (simp; omega))
     clear Hz; intro _ Hz
     refine goCh Hz (.moveZ rfl <| .eqlZ rfl rfl <| .pickT rfl rfl <| .move rfl <| .nil) ?_
     clear Hz Az; intro Az Hz
     refine bool_cases Hz (t := 97) rfl ?_ ?_
     rotate_left
     · intro hb _; exact absurd hb (by first | (simp; done) | (simp [hf9]; done) | (simp; omega))
     clear Hz; intro _ Hz
     refine goCh Hz (.moveZ rfl <| .eqlZ rfl rfl <| .moveZ rfl <| .nil) ?_
     clear Hz Az; intro Az Hz
     refine bool_cases Hz (t := 100) rfl ?_ ?_
     rotate_left
     · intro hb _; exact absurd hb (by first | (simp; done) | (simp [hf9]; done) | (simp; omega))
     clear Hz; intro _ Hz
     refine goCh Hz (.sk <| .sk <| .pickTZ rfl rfl <| .pickT rfl rfl <| .assign rfl <| .nil) ?_
     clear Hz Az; intro Az Hz
     refine nl (hK10 _ _ ?_); clear hK10
     refine wp_ret ?_
     try dsimp only [Exit.then, Exit.inBlock]
     refine (ret1 (fn := Tryd.f5) Hz rfl rfl ?_)
     exact ⟨by first | rfl | (simp; done) | (simp [hf9]; done), m193.below⟩
    refine e_alloc Hz m143 86 fct21 rfl ?_
    clear Hz Az m143; intro g221 Az w222 Hz m222 hB222 hg222
    clear hB222 hg222
    refine hK _ _ (fun _ => (m222.to ⟨il, il, il, il, il, il, il, il, il, il, il, il, il, il, trivial⟩)) ?_; clear hK K
    have m224 := m222.freezeR 85 rfl; clear m222
    refine stepE_only 6 rfl (by kernel_rfl) rfl (fun K hK => ?_)
    refine e_appR Hz m224 84 rfl rfl rfl (m224.rd (i := 85) rfl) U25 fct20 rfl rfl (by decide) (by simp; omega) rfl ?_
    clear Hz Az m224; intro p223 c223 Az w225 Hz m225
    refine hK _ _ (m225.to ⟨il, il, il, il, il, il, il, il, il, il, il, il, il, il, trivial⟩) ?_; clear hK K
    have m226 := m225.freezeR 84 rfl; clear m225
    have hE2 : ([] ++ (ss.map strD)) ++ [[.v (.int .i64 s0v.bl), .v (.int .i64 s0v.sz), .v (.int .i64 s0v.fr), .v (.int .i64 s0v.to), .l 2 (s0v.its.map itD)]] = (ss ++ [s0v]).map strD := by rw [List.nil_append, List.map_append]; rfl
    rw [hE2] at m226 Hz
    refine stepE_only 7 rfl (by kernel_rfl) rfl (fun K hK => ?_)
    refine e_call Hz Tryd.func10 rfl rfl rfl rfl (all_no (ss ++ [s0v]) _ _ _ _ ((m226.rd (i := 84) rfl).any) (by simp; omega) (fun s hs => (hok s (by rcases List.mem_append.1 hs with h9 | h9; (exact h9); (rw [List.mem_singleton.1 h9]; exact List.mem_of_getElem? hs0))).1) (twice_no hsg (by omega) hs0)) ?_
    rintro e w227 ⟨rfl, hb227⟩
    have m228 := m226.later hb227
    clear m226
    clear hb227
    refine ⟨_, rfl, ?_⟩; clear Hz Az; intro Az Hz
    refine hK _ _ (m228.to ⟨il, il, il, il, il, il, il, il, il, il, il, il, il, il, trivial⟩) ?_; clear hK K
    refine goA hP134 [8, 9, 10] 3 2303 4095 Hz (m228.to ⟨il, il, il, il, il, il, il, il, il, il, il, il, il, il, trivial⟩) (.move rfl <| .extract rfl rfl <| .extract rfl rfl <| .nil) ?_
    clear Hz Az; intro Az Hz
    refine stepE_end 12 rfl (by kernel_rfl) rfl (by rfl) (fun K hK => ?_)
    refine e_storeW Hz m228 86 rfl rfl rfl rfl rfl fct7 ?_
    clear m228; intro w233 m233 hB233
    clear hB233
    refine hK _ _ ?_; clear hK
    refine goB hP134 [13] 1 8191 16383 Hz (.assign rfl <| .nil) ?_
    clear Hz Az; intro Az Hz
    refine wpAnyE_done (by kernel_rfl) ?_ _
    refine hK8 _ _ ?_; clear hK8
    replace Hz : Has 105 [(6, _), (12, _), (13, _), (15, _)] Az := Hz.only [6, 12, 13, 15]
    refine sr fun K11 hK11 => ?_
    refine goCh Hz (.move rfl <| .eql rfl rfl <| .move rfl <| .eqlB rfl rfl U4 <| .move rfl <| .nil) ?_
    clear Hz Az; intro Az Hz
    refine bool_cases Hz (t := 93) rfl ?_ ?_
    rotate_left
    · intro hb _; exact absurd hb (by first | (simp; done) | (simp [hf9]; done) | (simp; omega))
    clear Hz; intro _ Hz
    refine goCh Hz (.moveZ rfl <| .eqlZ rfl rfl <| .pickT rfl rfl <| .move rfl <| .nil) ?_
    clear Hz Az; intro Az Hz
    refine bool_cases Hz (t := 97) rfl ?_ ?_
    rotate_left
    · intro hb _; exact absurd hb (by first | (simp; done) | (simp [hf9]; done) | (simp; omega))
    clear Hz; intro _ Hz
    refine goCh Hz (.moveZ rfl <| .eqlZ rfl rfl <| .moveZ rfl <| .nil) ?_
    clear Hz Az; intro Az Hz
    refine bool_cases Hz (t := 100) rfl ?_ ?_
    rotate_left
    · intro hb _; exact absurd hb (by first | (simp; done) | (simp [hf9]; done) | (simp; omega))
    clear Hz; intro _ Hz
    refine goCh Hz (.sk <| .sk <| .pickTZ rfl rfl <| .pickT rfl rfl <| .assign rfl <| .nil) ?_
    clear Hz Az; intro Az Hz
    refine nl (hK11 _ _ ?_); clear hK11
    refine wp_ret ?_
    try dsimp only [Exit.then, Exit.inBlock]
    refine (ret1 (fn := Tryd.f5) Hz rfl rfl ?_)
    exact ⟨by first | rfl | (simp; done) | (simp [hf9]; done), m233.below⟩
   refine e_alloc Hz m141 85 fct21 rfl ?_
   clear Hz Az m141; intro g261 Az w262 Hz m262 hB262 hg262
   clear hB262 hg262
   refine hK _ _ (fun _ => (m262.to ⟨il, il, il, il, il, il, il, il, il, il, il, il, il, il, trivial⟩)) ?_; clear hK K
   refine stepE_only 5 rfl (by kernel_rfl) rfl (fun K hK => ?_)
   refine e_litR Hz m262 86 (mm := 5) rfl (.cons rfl rfl (.cons (.v _) (.cons (.v _) (.cons (.v _) (.cons (.v _) (.cons (m262.rd (i := 83) rfl) .nil))))) <| .nil) U25 fct20 rfl rfl rfl rfl rfl ?_
   clear Hz Az m262; intro g263 Az w264 Hz m264
   refine hK _ _ (m264.to ⟨il, il, il, il, il, il, il, il, il, il, il, il, il, il, trivial⟩) ?_; clear hK K
   have m266 := m264.freezeR 86 rfl; clear m264
   refine stepE_only 6 rfl (by kernel_rfl) rfl (fun K hK => ?_)
   refine e_appR Hz m266 84 rfl rfl rfl (m266.rd (i := 86) rfl) U25 fct20 rfl rfl (by decide) (by simp; omega) rfl ?_
   clear Hz Az m266; intro p265 c265 Az w267 Hz m267
   refine hK _ _ (m267.to ⟨il, il, il, il, il, il, il, il, il, il, il, il, il, il, trivial⟩) ?_; clear hK K
   have m268 := m267.freezeR 84 rfl; clear m267
   have hE2 : ([] ++ (ss.map strD)) ++ [[.v (.int .i64 s0v.bl), .v (.int .i64 s0v.sz), .v (.int .i64 s0v.fr), .v (.int .i64 s0v.to), .l 2 (s0v.its.map itD)]] = (ss ++ [s0v]).map strD := by rw [List.nil_append, List.map_append]; rfl
   rw [hE2] at m268 Hz
   refine stepE_only 7 rfl (by kernel_rfl) rfl (fun K hK => ?_)
   refine e_call Hz Tryd.func10 rfl rfl rfl rfl (all_no (ss ++ [s0v]) _ _ _ _ ((m268.rd (i := 84) rfl).any) (by simp; omega) (fun s hs => (hok s (by rcases List.mem_append.1 hs with h9 | h9; (exact h9); (rw [List.mem_singleton.1 h9]; exact List.mem_of_getElem? hs0))).1) (twice_no hsg (by omega) hs0)) ?_
   rintro e w269 ⟨rfl, hb269⟩
   have m270 := m268.later hb269
   clear m268
   clear hb269
   refine ⟨_, rfl, ?_⟩; clear Hz Az; intro Az Hz
   refine hK _ _ (m270.to ⟨il, il, il, il, il, il, il, il, il, il, il, il, il, il, trivial⟩) ?_; clear hK K
   refine goA hP134 [8, 9, 10] 3 2303 4095 Hz (m270.to ⟨il, il, il, il, il, il, il, il, il, il, il, il, il, il, trivial⟩) (.move rfl <| .extract rfl rfl <| .extract rfl rfl <| .nil) ?_
   clear Hz Az; intro Az Hz
   refine stepE_end 12 rfl (by kernel_rfl) rfl (by rfl) (fun K hK => ?_)
   refine e_storeW Hz m270 85 rfl rfl rfl rfl rfl fct7 ?_
   clear m270; intro w275 m275 hB275
   clear hB275
   refine hK _ _ ?_; clear hK
   refine goB hP134 [13] 1 8191 16383 Hz (.assign rfl <| .nil) ?_
   clear Hz Az; intro Az Hz
   refine wpAnyE_done (by kernel_rfl) ?_ _
   refine hK8 _ _ ?_; clear hK8
   replace Hz : Has 105 [(6, _), (12, _), (13, _), (15, _)] Az := Hz.only [6, 12, 13, 15]
   refine sr fun K12 hK12 => ?_
   refine goCh Hz (.move rfl <| .eql rfl rfl <| .move rfl <| .eqlB rfl rfl U4 <| .move rfl <| .nil) ?_
   clear Hz Az; intro Az Hz
   refine bool_cases Hz (t := 93) rfl ?_ ?_
   rotate_left
   · intro hb _; exact absurd hb (by first | (simp; done) | (simp [hf9]; done) | (simp; omega))
   clear Hz; intro _ Hz
   refine goCh Hz (.moveZ rfl <| .eqlZ rfl rfl <| .pickT rfl rfl <| .move rfl <| .nil) ?_
   clear Hz Az; intro Az Hz
   refine bool_cases Hz (t := 97) rfl ?_ ?_
   rotate_left
   · intro hb _; exact absurd hb (by first | (simp; done) | (simp [hf9]; done) | (simp; omega))
   clear Hz; intro _ Hz
   refine goCh Hz (.moveZ rfl <| .eqlZ rfl rfl <| .moveZ rfl <| .nil) ?_
   clear Hz Az; intro Az Hz
   refine bool_cases Hz (t := 100) rfl ?_ ?_
   rotate_left
   · intro hb _; exact absurd hb (by first | (simp; done) | (simp [hf9]; done) | (simp; omega))
   clear Hz; intro _ Hz
   refine goCh Hz (.sk <| .sk <| .pickTZ rfl rfl <| .pickT rfl rfl <| .assign rfl <| .nil) ?_
   clear Hz Az; intro Az Hz
   refine nl (hK12 _ _ ?_); clear hK12
   refine wp_ret ?_
   try dsimp only [Exit.then, Exit.inBlock]
   refine (ret1 (fn := Tryd.f5) Hz rfl rfl ?_)
   exact ⟨by first | rfl | (simp; done) | (simp [hf9]; done), m275.below⟩
  ·
   refine e_litR Hz m134 84 (mm := 5) rfl (.cons rfl rfl (.cons (.v _) (.cons (.v _) (.cons (.v _) (.cons (.v _) (.cons (m134.rd (i := 83) rfl) .nil))))) <| .nil) U25 fct20 rfl rfl rfl rfl rfl ?_
   clear Hz Az m134; intro g303 Az w304 Hz m304
   refine hK _ _ (fun _ => (m304.to ⟨il, il, il, il, il, il, il, il, il, il, il, il, il, il, trivial⟩)) ?_; clear hK K
   refine d_two 1 11 rfl rfl (by kernel_rfl) rfl rfl (fun K hK => ?_) (fun K hK => ?_)
   ·
    have m305 := m304.nilR 85 35 5
    clear m304
    refine e_appR Hz m305 85 rfl rfl rfl (m305.rd (i := 70) rfl) U25 fct20 rfl rfl (by decide) (by simp; omega) rfl ?_
    clear Hz Az m305; intro p306 c306 Az w307 Hz m307
    refine hK _ _ (fun _ => (m307.to ⟨il, il, il, il, il, il, il, il, il, il, il, il, il, il, trivial⟩)) ?_; clear hK K
    refine d_two 6 11 rfl rfl (by kernel_rfl) rfl rfl (fun K hK => ?_) (fun K hK => ?_)
    ·
     have m309 := m307.freezeR 84 rfl; clear m307
     refine e_appR Hz m309 85 rfl rfl rfl (m309.rd (i := 84) rfl) U25 fct20 rfl rfl (by decide) (by simp; omega) rfl ?_
     clear Hz Az m309; intro p308 c308 Az w310 Hz m310
     refine hK _ _ (fun _ => (m310.to ⟨il, il, il, il, il, il, il, il, il, il, il, il, il, il, trivial⟩)) ?_; clear hK K
     refine d_two 7 11 rfl rfl (by kernel_rfl) rfl rfl (fun K hK => ?_) (fun K hK => ?_)
     ·
      have m311 := m310.freezeR 85 rfl; clear m310
      have hE2 : ([] ++ (ss.map strD)) ++ [[.v (.int .i64 s0v.bl), .v (.int .i64 s0v.sz), .v (.int .i64 s0v.fr), .v (.int .i64 s0v.to), .l 2 (s0v.its.map itD)]] = (ss ++ [s0v]).map strD := by rw [List.nil_append, List.map_append]; rfl
      rw [hE2] at m311 Hz
      refine e_call Hz Tryd.func10 rfl rfl rfl rfl (all_no (ss ++ [s0v]) _ _ _ _ ((m311.rd (i := 85) rfl).any) (by simp; omega) (fun s hs => (hok s (by rcases List.mem_append.1 hs with h9 | h9; (exact h9); (rw [List.mem_singleton.1 h9]; exact List.mem_of_getElem? hs0))).1) (twice_no hsg (by omega) hs0)) ?_
      rintro e w312 ⟨rfl, hb312⟩
      have m313 := m311.later hb312
      clear m311
      clear hb312
      refine ⟨_, rfl, ?_⟩; clear Hz Az; intro Az Hz
      refine hK _ _ (fun _ => (m313.to ⟨il, il, il, il, il, il, il, il, il, il, il, il, il, il, trivial⟩)) ?_; clear hK K
      refine goA hP134 [8, 9, 10] 3 255 2047 Hz (m313.to ⟨il, il, il, il, il, il, il, il, il, il, il, il, il, il, trivial⟩) (.move rfl <| .extract rfl rfl <| .extract rfl rfl <| .nil) ?_
      clear Hz Az; intro Az Hz
      refine stepE_only 11 rfl (by kernel_rfl) rfl (fun K hK => ?_)
      refine e_alloc Hz m313 86 fct21 rfl ?_
      clear Hz Az m313; intro g318 Az w319 Hz m319 hB319 hg319
      clear hB319 hg319
      refine hK _ _ (m319.to ⟨il, il, il, il, il, il, il, il, il, il, il, il, il, il, trivial⟩) ?_; clear hK K
      refine stepE_end 12 rfl (by kernel_rfl) rfl (by rfl) (fun K hK => ?_)
      refine e_storeW Hz m319 86 rfl rfl rfl rfl rfl fct7 ?_
      clear m319; intro w320 m320 hB320
      clear hB320
      refine hK _ _ ?_; clear hK
      refine goB hP134 [13] 1 8191 16383 Hz (.assign rfl <| .nil) ?_
      clear Hz Az; intro Az Hz
      refine wpAnyE_done (by kernel_rfl) ?_ _
      refine hK8 _ _ ?_; clear hK8
      replace Hz : Has 105 [(6, _), (12, _), (13, _), (15, _)] Az := Hz.only [6, 12, 13, 15]
      refine sr fun K13 hK13 => ?_
      refine goCh Hz (.move rfl <| .eql rfl rfl <| .move rfl <| .eqlB rfl rfl U4 <| .move rfl <| .nil) ?_
      clear Hz Az; intro Az Hz
      refine bool_cases Hz (t := 93) rfl ?_ ?_
      rotate_left
      · intro hb _; exact absurd hb (by first | (simp; done) | (simp [hf9]; done) | (simp; omega))
      clear Hz; intro _ Hz
      refine goCh Hz (.moveZ rfl <| .eqlZ rfl rfl <| .pickT rfl rfl <| .move rfl <| .nil) ?_
      clear Hz Az; intro Az Hz
      refine bool_cases Hz (t := 97) rfl ?_ ?_
      rotate_left
      · intro hb _; exact absurd hb (by first | (simp; done) | (simp [hf9]; done) | (simp; omega))
      clear Hz; intro _ Hz
      refine goCh Hz (.moveZ rfl <| .eqlZ rfl rfl <| .moveZ rfl <| .nil) ?_
      clear Hz Az; intro Az Hz
      refine bool_cases Hz (t := 100) rfl ?_ ?_
      rotate_left
      · intro hb _; exact absurd hb (by first | (simp; done) | (simp [hf9]; done) | (simp; omega))
      clear Hz; intro _ Hz
      refine goCh Hz (.sk <| .sk <| .pickTZ rfl rfl <| .pickT rfl rfl <| .assign rfl <| .nil) ?_
      clear Hz Az; intro Az Hz
      refine nl (hK13 _ _ ?_); clear hK13
      refine wp_ret ?_
      try dsimp only [Exit.then, Exit.inBlock]
      refine (ret1 (fn := Tryd.f5) Hz rfl rfl ?_)
      exact ⟨by first | rfl | (simp; done) | (simp [hf9]; done), m320.below⟩
     refine e_alloc Hz m310 86 fct21 rfl ?_
     clear Hz Az m310; intro g348 Az w349 Hz m349 hB349 hg349
     clear hB349 hg349
     refine hK _ _ (fun _ => (m349.to ⟨il, il, il, il, il, il, il, il, il, il, il, il, il, il, trivial⟩)) ?_; clear hK K
     have m350 := m349.freezeR 85 rfl; clear m349
     have hE2 : ([] ++ (ss.map strD)) ++ [[.v (.int .i64 s0v.bl), .v (.int .i64 s0v.sz), .v (.int .i64 s0v.fr), .v (.int .i64 s0v.to), .l 2 (s0v.its.map itD)]] = (ss ++ [s0v]).map strD := by rw [List.nil_append, List.map_append]; rfl
     rw [hE2] at m350 Hz
     refine stepE_only 7 rfl (by kernel_rfl) rfl (fun K hK => ?_)
     refine e_call Hz Tryd.func10 rfl rfl rfl rfl (all_no (ss ++ [s0v]) _ _ _ _ ((m350.rd (i := 85) rfl).any) (by simp; omega) (fun s hs => (hok s (by rcases List.mem_append.1 hs with h9 | h9; (exact h9); (rw [List.mem_singleton.1 h9]; exact List.mem_of_getElem? hs0))).1) (twice_no hsg (by omega) hs0)) ?_
     rintro e w351 ⟨rfl, hb351⟩
     have m352 := m350.later hb351
     clear m350
     clear hb351
     refine ⟨_, rfl, ?_⟩; clear Hz Az; intro Az Hz
     refine hK _ _ (m352.to ⟨il, il, il, il, il, il, il, il, il, il, il, il, il, il, trivial⟩) ?_; clear hK K
     refine goA hP134 [8, 9, 10] 3 2303 4095 Hz (m352.to ⟨il, il, il, il, il, il, il, il, il, il, il, il, il, il, trivial⟩) (.move rfl <| .extract rfl rfl <| .extract rfl rfl <| .nil) ?_
     clear Hz Az; intro Az Hz
     refine stepE_end 12 rfl (by kernel_rfl) rfl (by rfl) (fun K hK => ?_)
     refine e_storeW Hz m352 86 rfl rfl rfl rfl rfl fct7 ?_
     clear m352; intro w357 m357 hB357
     clear hB357
     refine hK _ _ ?_; clear hK
     refine goB hP134 [13] 1 8191 16383 Hz (.assign rfl <| .nil) ?_
     clear Hz Az; intro Az Hz
     refine wpAnyE_done (by kernel_rfl) ?_ _
     refine hK8 _ _ ?_; clear hK8
     replace Hz : Has 105 [(6, _), (12, _), (13, _), (15, _)] Az := Hz.only [6, 12, 13, 15]
     refine sr fun K14 hK14 => ?_
     refine goCh Hz (.move rfl <| .eql rfl rfl <| .move rfl <| .eqlB rfl rfl U4 <| .move rfl <| .nil) ?_
     clear Hz Az; intro Az Hz
     refine bool_cases Hz (t := 93) rfl ?_ ?_
     rotate_left
     · intro hb _; exact absurd hb (by first | (simp; done) | (simp [hf9]; done) | (simp; omega))
     clear Hz; intro _ Hz
     refine goCh Hz (.moveZ rfl <| .eqlZ rfl rfl <| .pickT rfl rfl <| .move rfl <| .nil) ?_
     clear Hz Az; intro Az Hz
     refine bool_cases Hz (t := 97) rfl ?_ ?_
     rotate_left
     · intro hb _; exact absurd hb (by first | (simp; done) | (simp [hf9]; done) | (simp; omega))
     clear Hz; intro _ Hz
     refine goCh Hz (.moveZ rfl <| .eqlZ rfl rfl <| .moveZ rfl <| .nil) ?_
     clear Hz Az; intro Az Hz
     refine bool_cases Hz (t := 100) rfl ?_ ?_
     rotate_left
     · intro hb _; exact absurd hb (by first | (simp; done) | (simp [hf9]; done) | (simp; omega))
     clear Hz; intro _ Hz
     refine goCh Hz (.sk <| .sk <| .pickTZ rfl rfl <| .pickT rfl rfl <| .assign rfl <| .nil) ?_
     clear Hz Az; intro Az Hz
     refine nl (hK14 _ _ ?_); clear hK14
     refine wp_ret ?_
     try dsimp only [Exit.then, Exit.inBlock]
     refine (ret1 (fn := Tryd.f5) Hz rfl rfl ?_)
     exact ⟨by first | rfl | (simp; done) | (simp [hf9]; done), m357.below⟩
    refine e_alloc Hz m307 86 fct21 rfl ?_
    clear Hz Az m307; intro g385 Az w386 Hz m386 hB386 hg386
    clear hB386 hg386
    refine hK _ _ (fun _ => (m386.to ⟨il, il, il, il, il, il, il, il, il, il, il, il, il, il, trivial⟩)) ?_; clear hK K
    have m388 := m386.freezeR 84 rfl; clear m386
    refine stepE_only 6 rfl (by kernel_rfl) rfl (fun K hK => ?_)
    refine e_appR Hz m388 85 rfl rfl rfl (m388.rd (i := 84) rfl) U25 fct20 rfl rfl (by decide) (by simp; omega) rfl ?_
    clear Hz Az m388; intro p387 c387 Az w389 Hz m389
    refine hK _ _ (m389.to ⟨il, il, il, il, il, il, il, il, il, il, il, il, il, il, trivial⟩) ?_; clear hK K
    have m390 := m389.freezeR 85 rfl; clear m389
    have hE2 : ([] ++ (ss.map strD)) ++ [[.v (.int .i64 s0v.bl), .v (.int .i64 s0v.sz), .v (.int .i64 s0v.fr), .v (.int .i64 s0v.to), .l 2 (s0v.its.map itD)]] = (ss ++ [s0v]).map strD := by rw [List.nil_append, List.map_append]; rfl
    rw [hE2] at m390 Hz
    refine stepE_only 7 rfl (by kernel_rfl) rfl (fun K hK => ?_)
    refine e_call Hz Tryd.func10 rfl rfl rfl rfl (all_no (ss ++ [s0v]) _ _ _ _ ((m390.rd (i := 85) rfl).any) (by simp; omega) (fun s hs => (hok s (by rcases List.mem_append.1 hs with h9 | h9; (exact h9); (rw [List.mem_singleton.1 h9]; exact List.mem_of_getElem? hs0))).1) (twice_no hsg (by omega) hs0)) ?_
    rintro e w391 ⟨rfl, hb391⟩
    have m392 := m390.later hb391
    clear m390
    clear hb391
    refine ⟨_, rfl, ?_⟩; clear Hz Az; intro Az Hz
    refine hK _ _ (m392.to ⟨il, il, il, il, il, il, il, il, il, il, il, il, il, il, trivial⟩) ?_; clear hK K
    refine goA hP134 [8, 9, 10] 3 2303 4095 Hz (m392.to ⟨il, il, il, il, il, il, il, il, il, il, il, il, il, il, trivial⟩) (.move rfl <| .extract rfl rfl <| .extract rfl rfl <| .nil) ?_
    clear Hz Az; intro Az Hz
    refine stepE_end 12 rfl (by kernel_rfl) rfl (by rfl) (fun K hK => ?_)
    refine e_storeW Hz m392 86 rfl rfl rfl rfl rfl fct7 ?_
    clear m392; intro w397 m397 hB397
    clear hB397
    refine hK _ _ ?_; clear hK
    refine goB hP134 [13] 1 8191 16383 Hz (.assign rfl <| .nil) ?_
    clear Hz Az; intro Az Hz
    refine wpAnyE_done (by kernel_rfl) ?_ _
    refine hK8 _ _ ?_; clear hK8
    replace Hz : Has 105 [(6, _), (12, _), (13, _), (15, _)] Az := Hz.only [6, 12, 13, 15]
    refine sr fun K15 hK15 => ?_
    refine goCh Hz (.move rfl <| .eql rfl rfl <| .move rfl <| .eqlB rfl rfl U4 <| .move rfl <| .nil) ?_
    clear Hz Az; intro Az Hz
    refine bool_cases Hz (t := 93) rfl ?_ ?_
    rotate_left
    · intro hb _; exact absurd hb (by first | (simp; done) | (simp [hf9]; done) | (simp; omega))
    clear Hz; intro _ Hz
    refine goCh Hz (.moveZ rfl <| .eqlZ rfl rfl <| .pickT rfl rfl <| .move rfl <| .nil) ?_
    clear Hz Az; intro Az Hz
    refine bool_cases Hz (t := 97) rfl ?_ ?_
    rotate_left
    · intro hb _; exact absurd hb (by first | (simp; done) | (simp [hf9]; done) | (simp; omega))
    clear Hz; intro _ Hz
    refine goCh Hz (.moveZ rfl <| .eqlZ rfl rfl <| .moveZ rfl <| .nil) ?_
    clear Hz Az; intro Az Hz
    refine bool_cases Hz (t := 100) rfl ?_ ?_
    rotate_left
    · intro hb _; exact absurd hb (by first | (simp; done) | (simp [hf9]; done) | (simp; omega))
    clear Hz; intro _ Hz
    refine goCh Hz (.sk <| .sk <| .pickTZ rfl rfl <| .pickT rfl rfl <| .assign rfl <| .nil) ?_
    clear Hz Az; intro Az Hz
    refine nl (hK15 _ _ ?_); clear hK15
    refine wp_ret ?_
    try dsimp only [Exit.then, Exit.inBlock]
    refine (ret1 (fn := Tryd.f5) Hz rfl rfl ?_)
    exact ⟨by first | rfl | (simp; done) | (simp [hf9]; done), m397.below⟩
   refine e_alloc Hz m304 85 fct21 rfl ?_
   clear Hz Az m304; intro g425 Az w426 Hz m426 hB426 hg426
   clear hB426 hg426
   refine hK _ _ (fun _ => (m426.to ⟨il, il, il, il, il, il, il, il, il, il, il, il, il, il, trivial⟩)) ?_; clear hK K
   have m427 := m426.nilR 86 35 5
   clear m426
   refine stepE_only 1 rfl (by kernel_rfl) rfl (fun K hK => ?_)
   refine e_appR Hz m427 86 rfl rfl rfl (m427.rd (i := 70) rfl) U25 fct20 rfl rfl (by decide) (by simp; omega) rfl ?_
   clear Hz Az m427; intro p428 c428 Az w429 Hz m429
   refine hK _ _ (m429.to ⟨il, il, il, il, il, il, il, il, il, il, il, il, il, il, trivial⟩) ?_; clear hK K
   have m431 := m429.freezeR 84 rfl; clear m429
   refine stepE_only 6 rfl (by kernel_rfl) rfl (fun K hK => ?_)
   refine e_appR Hz m431 86 rfl rfl rfl (m431.rd (i := 84) rfl) U25 fct20 rfl rfl (by decide) (by simp; omega) rfl ?_
   clear Hz Az m431; intro p430 c430 Az w432 Hz m432
   refine hK _ _ (m432.to ⟨il, il, il, il, il, il, il, il, il, il, il, il, il, il, trivial⟩) ?_; clear hK K
   have m433 := m432.freezeR 86 rfl; clear m432
   have hE2 : ([] ++ (ss.map strD)) ++ [[.v (.int .i64 s0v.bl), .v (.int .i64 s0v.sz), .v (.int .i64 s0v.fr), .v (.int .i64 s0v.to), .l 2 (s0v.its.map itD)]] = (ss ++ [s0v]).map strD := by rw [List.nil_append, List.map_append]; rfl
   rw [hE2] at m433 Hz
   refine stepE_only 7 rfl (by kernel_rfl) rfl (fun K hK => ?_)
   refine e_call Hz Tryd.func10 rfl rfl rfl rfl (all_no (ss ++ [s0v]) _ _ _ _ ((m433.rd (i := 86) rfl).any) (by simp; omega) (fun s hs => (hok s (by rcases List.mem_append.1 hs with h9 | h9; (exact h9); (rw [List.mem_singleton.1 h9]; exact List.mem_of_getElem? hs0))).1) (twice_no hsg (by omega) hs0)) ?_
   rintro e w434 ⟨rfl, hb434⟩
   have m435 := m433.later hb434
   clear m433
   clear hb434
   refine ⟨_, rfl, ?_⟩; clear Hz Az; intro Az Hz
   refine hK _ _ (m435.to ⟨il, il, il, il, il, il, il, il, il, il, il, il, il, il, trivial⟩) ?_; clear hK K
   refine goA hP134 [8, 9, 10] 3 2303 4095 Hz (m435.to ⟨il, il, il, il, il, il, il, il, il, il, il, il, il, il, trivial⟩) (.move rfl <| .extract rfl rfl <| .extract rfl rfl <| .nil) ?_
   clear Hz Az; intro Az Hz
   refine stepE_end 12 rfl (by kernel_rfl) rfl (by rfl) (fun K hK => ?_)
   refine e_storeW Hz m435 85 rfl rfl rfl rfl rfl fct7 ?_
   clear m435; intro w440 m440 hB440
   clear hB440
   refine hK _ _ ?_; clear hK
   refine goB hP134 [13] 1 8191 16383 Hz (.assign rfl <| .nil) ?_
   clear Hz Az; intro Az Hz
   refine wpAnyE_done (by kernel_rfl) ?_ _
   refine hK8 _ _ ?_; clear hK8
   replace Hz : Has 105 [(6, _), (12, _), (13, _), (15, _)] Az := Hz.only [6, 12, 13, 15]
   refine sr fun K16 hK16 => ?_
   refine goCh Hz (.move rfl <| .eql rfl rfl <| .move rfl <| .eqlB rfl rfl U4 <| .move rfl <| .nil) ?_
   clear Hz Az; intro Az Hz
   refine bool_cases Hz (t := 93) rfl ?_ ?_
   rotate_left
   · intro hb _; exact absurd hb (by first | (simp; done) | (simp [hf9]; done) | (simp; omega))
   clear Hz; intro _ Hz
   refine goCh Hz (.moveZ rfl <| .eqlZ rfl rfl <| .pickT rfl rfl <| .move rfl <| .nil) ?_
   clear Hz Az; intro Az Hz
   refine bool_cases Hz (t := 97) rfl ?_ ?_
   rotate_left
   · intro hb _; exact absurd hb (by first | (simp; done) | (simp [hf9]; done) | (simp; omega))
   clear Hz; intro _ Hz
   refine goCh Hz (.moveZ rfl <| .eqlZ rfl rfl <| .moveZ rfl <| .nil) ?_
   clear Hz Az; intro Az Hz
   refine bool_cases Hz (t := 100) rfl ?_ ?_
   rotate_left
   · intro hb _; exact absurd hb (by first | (simp; done) | (simp [hf9]; done) | (simp; omega))
   clear Hz; intro _ Hz
   refine goCh Hz (.sk <| .sk <| .pickTZ rfl rfl <| .pickT rfl rfl <| .assign rfl <| .nil) ?_
   clear Hz Az; intro Az Hz
   refine nl (hK16 _ _ ?_); clear hK16
   refine wp_ret ?_
   try dsimp only [Exit.then, Exit.inBlock]
   refine (ret1 (fn := Tryd.f5) Hz rfl rfl ?_)
   exact ⟨by first | rfl | (simp; done) | (simp [hf9]; done), m440.below⟩
  refine e_alloc Hz m134 84 fct21 rfl ?_
  clear Hz Az m134; intro g468 Az w469 Hz m469 hB469 hg469
  clear hB469 hg469
  refine hK _ _ (fun _ => (m469.to ⟨il, il, il, il, il, il, il, il, il, il, il, il, il, il, trivial⟩)) ?_; clear hK K
  refine d_two 1 5 rfl rfl (by kernel_rfl) rfl rfl (fun K hK => ?_) (fun K hK => ?_)
  ·
   have m470 := m469.nilR 85 35 5
   clear m469
   refine e_appR Hz m470 85 rfl rfl rfl (m470.rd (i := 70) rfl) U25 fct20 rfl rfl (by decide) (by simp; omega) rfl ?_
   clear Hz Az m470; intro p471 c471 Az w472 Hz m472
   refine hK _ _ (fun _ => (m472.to ⟨il, il, il, il, il, il, il, il, il, il, il, il, il, il, trivial⟩)) ?_; clear hK K
   refine stepE_only 5 rfl (by kernel_rfl) rfl (fun K hK => ?_)
   refine e_litR Hz m472 86 (mm := 5) rfl (.cons rfl rfl (.cons (.v _) (.cons (.v _) (.cons (.v _) (.cons (.v _) (.cons (m472.rd (i := 83) rfl) .nil))))) <| .nil) U25 fct20 rfl rfl rfl rfl rfl ?_
   clear Hz Az m472; intro g473 Az w474 Hz m474
   refine hK _ _ (m474.to ⟨il, il, il, il, il, il, il, il, il, il, il, il, il, il, trivial⟩) ?_; clear hK K
   have m476 := m474.freezeR 86 rfl; clear m474
   refine stepE_only 6 rfl (by kernel_rfl) rfl (fun K hK => ?_)
   refine e_appR Hz m476 85 rfl rfl rfl (m476.rd (i := 86) rfl) U25 fct20 rfl rfl (by decide) (by simp; omega) rfl ?_
   clear Hz Az m476; intro p475 c475 Az w477 Hz m477
   refine hK _ _ (m477.to ⟨il, il, il, il, il, il, il, il, il, il, il, il, il, il, trivial⟩) ?_; clear hK K
   have m478 := m477.freezeR 85 rfl; clear m477
   have hE2 : ([] ++ (ss.map strD)) ++ [[.v (.int .i64 s0v.bl), .v (.int .i64 s0v.sz), .v (.int .i64 s0v.fr), .v (.int .i64 s0v.to), .l 2 (s0v.its.map itD)]] = (ss ++ [s0v]).map strD := by rw [List.nil_append, List.map_append]; rfl
   rw [hE2] at m478 Hz
   refine stepE_only 7 rfl (by kernel_rfl) rfl (fun K hK => ?_)
   refine e_call Hz Tryd.func10 rfl rfl rfl rfl (all_no (ss ++ [s0v]) _ _ _ _ ((m478.rd (i := 85) rfl).any) (by simp; omega) (fun s hs => (hok s (by rcases List.mem_append.1 hs with h9 | h9; (exact h9); (rw [List.mem_singleton.1 h9]; exact List.mem_of_getElem? hs0))).1) (twice_no hsg (by omega) hs0)) ?_
   rintro e w479 ⟨rfl, hb479⟩
   have m480 := m478.later hb479
   clear m478
   clear hb479
   refine ⟨_, rfl, ?_⟩; clear Hz Az; intro Az Hz
   refine hK _ _ (m480.to ⟨il, il, il, il, il, il, il, il, il, il, il, il, il, il, trivial⟩) ?_; clear hK K
   refine goA hP134 [8, 9, 10] 3 2303 4095 Hz (m480.to ⟨il, il, il, il, il, il, il, il, il, il, il, il, il, il, trivial⟩) (.move rfl <| .extract rfl rfl <| .extract rfl rfl <| .nil) ?_
   clear Hz Az; intro Az Hz
   refine stepE_end 12 rfl (by kernel_rfl) rfl (by rfl) (fun K hK => ?_)
   refine e_storeW Hz m480 84 rfl rfl rfl rfl rfl fct7 ?_
   clear m480; intro w485 m485 hB485
   clear hB485
   refine hK _ _ ?_; clear hK
   refine goB hP134 [13] 1 8191 16383 Hz (.assign rfl <| .nil) ?_
   clear Hz Az; intro Az Hz
   refine wpAnyE_done (by kernel_rfl) ?_ _
   refine hK8 _ _ ?_; clear hK8
   replace Hz : Has 105 [(6, _), (12, _), (13, _), (15, _)] Az := Hz.only [6, 12, 13, 15]
   refine sr fun K17 hK17 => ?_
   refine goCh Hz (.move rfl <| .eql rfl rfl <| .move rfl <| .eqlB rfl rfl U4 <| .move rfl <| .nil) ?_
   clear Hz Az; intro Az Hz
   refine bool_cases Hz (t := 93) rfl ?_ ?_
   rotate_left
   · intro hb _; exact absurd hb (by first | (simp; done) | (simp [hf9]; done) | (simp; omega))
   clear Hz; intro _ Hz
   refine goCh Hz (.moveZ rfl <| .eqlZ rfl rfl <| .pickT rfl rfl <| .move rfl <| .nil) ?_
   clear Hz Az; intro Az Hz
   refine bool_cases Hz (t := 97) rfl ?_ ?_
   rotate_left
   · intro hb _; exact absurd hb (by first | (simp; done) | (simp [hf9]; done) | (simp; omega))
   clear Hz; intro _ Hz
   refine goCh Hz (.moveZ rfl <| .eqlZ rfl rfl <| .moveZ rfl <| .nil) ?_
   clear Hz Az; intro Az Hz
   refine bool_cases Hz (t := 100) rfl ?_ ?_
   rotate_left
   · intro hb _; exact absurd hb (by first | (simp; done) | (simp [hf9]; done) | (simp; omega))
   clear Hz; intro _ Hz
   refine goCh Hz (.sk <| .sk <| .pickTZ rfl rfl <| .pickT rfl rfl <| .assign rfl <| .nil) ?_
   clear Hz Az; intro Az Hz
   refine nl (hK17 _ _ ?_); clear hK17
   refine wp_ret ?_
   try dsimp only [Exit.then, Exit.inBlock]
   refine (ret1 (fn := Tryd.f5) Hz rfl rfl ?_)
   exact ⟨by first | rfl | (simp; done) | (simp [hf9]; done), m485.below⟩
  refine e_litR Hz m469 85 (mm := 5) rfl (.cons rfl rfl (.cons (.v _) (.cons (.v _) (.cons (.v _) (.cons (.v _) (.cons (m469.rd (i := 83) rfl) .nil))))) <| .nil) U25 fct20 rfl rfl rfl rfl rfl ?_
  clear Hz Az m469; intro g513 Az w514 Hz m514
  refine hK _ _ (fun _ => (m514.to ⟨il, il, il, il, il, il, il, il, il, il, il, il, il, il, trivial⟩)) ?_; clear hK K
  have m515 := m514.nilR 86 35 5
  clear m514
  refine stepE_only 1 rfl (by kernel_rfl) rfl (fun K hK => ?_)
  refine e_appR Hz m515 86 rfl rfl rfl (m515.rd (i := 70) rfl) U25 fct20 rfl rfl (by decide) (by simp; omega) rfl ?_
  clear Hz Az m515; intro p516 c516 Az w517 Hz m517
  refine hK _ _ (m517.to ⟨il, il, il, il, il, il, il, il, il, il, il, il, il, il, trivial⟩) ?_; clear hK K
  have m519 := m517.freezeR 85 rfl; clear m517
  refine stepE_only 6 rfl (by kernel_rfl) rfl (fun K hK => ?_)
  refine e_appR Hz m519 86 rfl rfl rfl (m519.rd (i := 85) rfl) U25 fct20 rfl rfl (by decide) (by simp; omega) rfl ?_
  clear Hz Az m519; intro p518 c518 Az w520 Hz m520
  refine hK _ _ (m520.to ⟨il, il, il, il, il, il, il, il, il, il, il, il, il, il, trivial⟩) ?_; clear hK K
  have m521 := m520.freezeR 86 rfl; clear m520
  have hE2 : ([] ++ (ss.map strD)) ++ [[.v (.int .i64 s0v.bl), .v (.int .i64 s0v.sz), .v (.int .i64 s0v.fr), .v (.int .i64 s0v.to), .l 2 (s0v.its.map itD)]] = (ss ++ [s0v]).map strD := by rw [List.nil_append, List.map_append]; rfl
  rw [hE2] at m521 Hz
  refine stepE_only 7 rfl (by kernel_rfl) rfl (fun K hK => ?_)
  refine e_call Hz Tryd.func10 rfl rfl rfl rfl (all_no (ss ++ [s0v]) _ _ _ _ ((m521.rd (i := 86) rfl).any) (by simp; omega) (fun s hs => (hok s (by rcases List.mem_append.1 hs with h9 | h9; (exact h9); (rw [List.mem_singleton.1 h9]; exact List.mem_of_getElem? hs0))).1) (twice_no hsg (by omega) hs0)) ?_
  rintro e w522 ⟨rfl, hb522⟩
  have m523 := m521.later hb522
  clear m521
  clear hb522
  refine ⟨_, rfl, ?_⟩; clear Hz Az; intro Az Hz
  refine hK _ _ (m523.to ⟨il, il, il, il, il, il, il, il, il, il, il, il, il, il, trivial⟩) ?_; clear hK K
  refine goA hP134 [8, 9, 10] 3 2303 4095 Hz (m523.to ⟨il, il, il, il, il, il, il, il, il, il, il, il, il, il, trivial⟩) (.move rfl <| .extract rfl rfl <| .extract rfl rfl <| .nil) ?_
  clear Hz Az; intro Az Hz
  refine stepE_end 12 rfl (by kernel_rfl) rfl (by rfl) (fun K hK => ?_)
  refine e_storeW Hz m523 84 rfl rfl rfl rfl rfl fct7 ?_
  clear m523; intro w528 m528 hB528
  clear hB528
  refine hK _ _ ?_; clear hK
  refine goB hP134 [13] 1 8191 16383 Hz (.assign rfl <| .nil) ?_
  clear Hz Az; intro Az Hz
  refine wpAnyE_done (by kernel_rfl) ?_ _
  refine hK8 _ _ ?_; clear hK8
  replace Hz : Has 105 [(6, _), (12, _), (13, _), (15, _)] Az := Hz.only [6, 12, 13, 15]
  refine sr fun K18 hK18 => ?_
  refine goCh Hz (.move rfl <| .eql rfl rfl <| .move rfl <| .eqlB rfl rfl U4 <| .move rfl <| .nil) ?_
  clear Hz Az; intro Az Hz
  refine bool_cases Hz (t := 93) rfl ?_ ?_
  rotate_left
  · intro hb _; exact absurd hb (by first | (simp; done) | (simp [hf9]; done) | (simp; omega))
  clear Hz; intro _ Hz
  refine goCh Hz (.moveZ rfl <| .eqlZ rfl rfl <| .pickT rfl rfl <| .move rfl <| .nil) ?_
  clear Hz Az; intro Az Hz
  refine bool_cases Hz (t := 97) rfl ?_ ?_
  rotate_left
  · intro hb _; exact absurd hb (by first | (simp; done) | (simp [hf9]; done) | (simp; omega))
  clear Hz; intro _ Hz
  refine goCh Hz (.moveZ rfl <| .eqlZ rfl rfl <| .moveZ rfl <| .nil) ?_
  clear Hz Az; intro Az Hz
  refine bool_cases Hz (t := 100) rfl ?_ ?_
  rotate_left
  · intro hb _; exact absurd hb (by first | (simp; done) | (simp [hf9]; done) | (simp; omega))
  clear Hz; intro _ Hz
  refine goCh Hz (.sk <| .sk <| .pickTZ rfl rfl <| .pickT rfl rfl <| .assign rfl <| .nil) ?_
  clear Hz Az; intro Az Hz
  refine nl (hK18 _ _ ?_); clear hK18
  refine wp_ret ?_
  try dsimp only [Exit.then, Exit.inBlock]
  refine (ret1 (fn := Tryd.f5) Hz rfl rfl ?_)
  exact ⟨by first | rfl | (simp; done) | (simp [hf9]; done), m528.below⟩
 ·
  replace Hz : Has 105 [(6, _), (7, _), (9, _), (10, _)] Az := Hz.only [6, 7, 9, 10]
  refine wp_region_lit ?_
  refine goCh Hz (.move rfl .nil) ?_
  clear Hz Az; intro Az Hz
  have m558 := m84.freezeR 75 rfl; clear m84
  have hE : ([] ++ (ss.map strD).take kq) ++ (ss.map strD).drop (kq + 1) = (restV ss kq).map strD := by rw [List.nil_append, List.map_append, List.map_take, List.map_drop]
  rw [hE] at m558 Hz
  refine wpList_plain rfl (fun K hK => ?_)
  refine e_call Hz Tryd.func10 rfl rfl rfl rfl (all_yes (restV ss kq) _ _ _ _ ((m558.rd (i := 75) rfl).any) (by have := rest_len ss kq; omega) (fun s hs => (hok s (rest_mem hs)).1) hC (by have := tot_bd (l := restV ss kq) (fun s hs => (hok s (rest_mem hs)).1.len); have := rest_len ss kq; omega) (fun s hs => (hok s (rest_mem hs)).2)) ?_
  rintro e w559 ⟨sv, p559, c559, hE9, hsl9, hso, rfl, hd559, hb559⟩
  have m560 := m558.callF 76 rfl hb559 hd559
  clear m558
  clear hb559 hd559
  refine ⟨_, rfl, ?_⟩; clear Hz Az; intro Az Hz
  refine hK _ _ ?_; clear hK
  refine goCh Hz (.move rfl <| .extract rfl rfl <| .extract rfl rfl <| .nil) ?_
  clear Hz Az; intro Az Hz
  refine wpList_plain rfl (fun K hK => ?_)
  refine e_alloc Hz m560 77 fct21 rfl ?_
  clear Hz Az m560; intro g565 Az w566 Hz m566 hB566 hg566
  clear hB566 hg566
  refine hK _ _ ?_; clear hK
  refine wpList_plain rfl (fun K hK => ?_)
  refine e_storeW Hz m566 77 rfl rfl rfl rfl rfl fct7 ?_
  clear m566; intro w567 m567 hB567
  clear hB567
  refine hK _ _ ?_; clear hK
  refine goCh Hz (.assign rfl .nil) ?_
  clear Hz Az; intro Az Hz
  refine nl (hK6 _ _ ?_); clear hK6
  refine wp_seq_k (fun K19 hK19 => ?_)
  replace Hz : Has 105 [(6, _), (7, _), (9, _), (12, _)] Az := Hz.only [6, 7, 9, 12]
  obtain ⟨b570, o570, vs570, hp570, hR570, ho570, m570⟩ := m567.openR (i := 70) rfl (kq) (r := [.v (.int .i64 sk.bl), .v (.int .i64 sk.sz), .v (.int .i64 sk.fr), .v (.int .i64 sk.to), .l 2 (sk.its.map itD)]) (strD_get hsk) 78 rfl
  cases hp570; clear m567 ho570
  rcases hR570 with _ | ⟨hd570_0, _ | ⟨hd570_1, _ | ⟨hd570_2, _ | ⟨hd570_3, _ | ⟨hd570_4, _ | _⟩⟩⟩⟩⟩
  obtain rfl := hd570_0.v_out
  clear hd570_0
  obtain rfl := hd570_1.v_out
  clear hd570_1
  obtain rfl := hd570_2.v_out
  clear hd570_2
  obtain rfl := hd570_3.v_out
  clear hd570_3
  obtain ⟨p571, c571, hv571, hc571⟩ := hd570_4.l_shape; subst hv571
  have m571 := m570.dat 79 rfl (hd570_4.cast (fun _ h => (free_add rfl h))); clear m570 hd570_4
  obtain ⟨b572, o572, vs572, hp572, hR572, ho572, m572⟩ := m571.openR (i := 70) rfl (kq) (r := [.v (.int .i64 sk.bl), .v (.int .i64 sk.sz), .v (.int .i64 sk.fr), .v (.int .i64 sk.to), .l 2 (sk.its.map itD)]) (strD_get hsk) 80 rfl
  cases hp572; clear m571 ho572
  rcases hR572 with _ | ⟨hd572_0, _ | ⟨hd572_1, _ | ⟨hd572_2, _ | ⟨hd572_3, _ | ⟨hd572_4, _ | _⟩⟩⟩⟩⟩
  obtain rfl := hd572_0.v_out
  clear hd572_0
  obtain rfl := hd572_1.v_out
  clear hd572_1
  obtain rfl := hd572_2.v_out
  clear hd572_2
  obtain rfl := hd572_3.v_out
  clear hd572_3
  obtain ⟨p573, c573, hv573, hc573⟩ := hd572_4.l_shape; subst hv573
  have m573 := m572.dat 81 rfl (hd572_4.cast (fun _ h => (free_add rfl h))); clear m572 hd572_4
  have m574 : MemOk _ _ [(70, _), (71, _), (72, _), (73, _), (74, _), (75, _), (76, _), (77, _), (78, _), (79, _), (80, _), (81, _)] _ := m573.only [70, 71, 72, 73, 74, 75, 76, 77, 78, 79, 80, 81]; clear m573
  refine region_p 23 (B := [(70, _), (71, _), (72, _), (73, _), (74, _), (75, _), (76, _), (77, _), (78, _), (79, _), (80, _), (81, _)]) (m574.to ⟨il, il, il, il, il, il, il, il, il, il, il, il, trivial⟩) m574 (by kernel_rfl) (fun w575 hP575 m575 => ?_); clear m574
  refine goA hP575 [0, 1, 2, 3, 4, 5] 6 0 63 Hz (m575.to ⟨il, il, il, il, il, il, il, il, il, il, il, il, trivial⟩) (.move rfl <| .move rfl <| .len rfl U25 <| .sub rfl rfl (IntWalk.i64_in _ (by omega)) <| .eql rfl rfl <| .move rfl <| .nil) ?_
  clear Hz Az; intro Az Hz
  refine bool_cases Hz (t := 61) rfl ?_ ?_
  · intro hb _; exact absurd hb (by simp; omega)
  clear Hz; intro _ Hz
  refine goA hP575 [6, 7, 8] 3 63 511 Hz (m575.to ⟨il, il, il, il, il, il, il, il, il, il, il, il, trivial⟩) (.move rfl <| .gtr rfl rfl <| .move rfl <| .nil) ?_
  clear Hz Az; intro Az Hz
  refine bool_cases Hz (t := 64) rfl ?_ ?_
  rotate_left
  · intro hb _; exact absurd hb (by simp; omega)
  clear Hz; intro _ Hz
  refine goR hP575 [9, 10, 11, 12, 13, 14, 15, 16, 17, 18, 19, 20, 21, 22] [13, 18] 14 511 8388607 Hz (m575.to ⟨il, il, il, il, il, il, il, il, il, il, il, il, trivial⟩) (.move rfl <| .move rfl <| .p (fun _ _ h => y_idx h rfl rfl U25 fct7 (kq) rfl (by omega)) <| .fieldAddrQ 2 rfl U35 rfl (s := 0) (by kernel_rfl) rfl <| .loadC1 hh (i := 78) (q := 2) rfl rfl rfl U2 rfl <| .move rfl <| .move rfl <| .p (fun _ _ h => y_idx h rfl rfl U25 fct7 (kq) rfl (by omega)) <| .fieldAddrQ 3 rfl U35 rfl (s := 0) (by kernel_rfl) rfl <| .loadC1 hh (i := 80) (q := 3) rfl rfl rfl U2 rfl <| .eql rfl rfl <| .pickT rfl rfl <| .pickF rfl rfl <| .assign rfl <| .nil) ?_
  clear Hz Az; intro Az Hz
  refine wpAnyE_done (by kernel_rfl) ?_ _
  refine hK19 _ _ ?_; clear hK19
  refine wp_seq_k (fun K20 hK20 => ?_)
  replace Hz : Has 105 [(6, _), (7, _), (12, _), (13, _)] Az := Hz.only [6, 7, 12, 13]
  obtain ⟨b602, o602, vs602, hp602, hR602, ho602, m602⟩ := m575.openR (i := 70) rfl (0) (r := [.v (.int .i64 s0v.bl), .v (.int .i64 s0v.sz), .v (.int .i64 s0v.fr), .v (.int .i64 s0v.to), .l 2 (s0v.its.map itD)]) (strD_get hs0) 82 rfl
  cases hp602; clear m575 ho602
  rcases hR602 with _ | ⟨hd602_0, _ | ⟨hd602_1, _ | ⟨hd602_2, _ | ⟨hd602_3, _ | ⟨hd602_4, _ | _⟩⟩⟩⟩⟩
  obtain rfl := hd602_0.v_out
  clear hd602_0
  obtain rfl := hd602_1.v_out
  clear hd602_1
  obtain rfl := hd602_2.v_out
  clear hd602_2
  obtain rfl := hd602_3.v_out
  clear hd602_3
  obtain ⟨p603, c603, hv603, hc603⟩ := hd602_4.l_shape; subst hv603
  have m603 := m602.dat 83 rfl (hd602_4.cast (fun _ h => (free_add rfl h))); clear m602 hd602_4
  have m604 : MemOk _ _ [(70, _), (71, _), (72, _), (73, _), (74, _), (75, _), (76, _), (77, _), (78, _), (79, _), (80, _), (81, _), (82, _), (83, _)] _ := m603.only [70, 71, 72, 73, 74, 75, 76, 77, 78, 79, 80, 81, 82, 83]; clear m603
  refine region_p 12 (B := [(70, _), (71, _), (72, _), (73, _), (74, _), (75, _), (76, _), (77, _), (78, _), (79, _), (80, _), (81, _), (82, _), (83, _)]) (m604.to ⟨il, il, il, il, il, il, il, il, il, il, il, il, il, il, trivial⟩) m604 (by kernel_rfl) (fun w605 hP605 m605 => ?_); clear m604
  refine goR hP605 [0, 2, 3, 4] [4] 4 0 29 Hz (m605.to ⟨il, il, il, il, il, il, il, il, il, il, il, il, il, il, trivial⟩) (.move rfl <| .move rfl <| .p (fun _ _ h => y_idx h rfl rfl U25 fct7 (0) rfl (by omega)) <| .loadCR hh (i := 82) rfl rfl U35 rfl fct7 <| .nil) ?_
  clear Hz Az; intro Az Hz
  refine d_three 1 5 11 rfl rfl rfl (by kernel_rfl) rfl rfl rfl (fun K hK => ?_) (fun K hK => ?_) (fun K hK => ?_)
  ·
   have m610 := m605.nilR 84 35 5
   clear m605
   refine e_appR Hz m610 84 rfl rfl rfl (m610.rd (i := 70) rfl) U25 fct20 rfl rfl (by decide) (by simp; omega) rfl ?_
   clear Hz Az m610; intro p611 c611 Az w612 Hz m612
   refine hK _ _ (fun _ => (m612.to ⟨il, il, il, il, il, il, il, il, il, il, il, il, il, il, trivial⟩)) ?_; clear hK K
   refine d_two 5 11 rfl rfl (by kernel_rfl) rfl rfl (fun K hK => ?_) (fun K hK => ?_)
   ·
    refine e_litR Hz m612 85 (mm := 5) rfl (.cons rfl rfl (.cons (.v _) (.cons (.v _) (.cons (.v _) (.cons (.v _) (.cons (m612.rd (i := 83) rfl) .nil))))) <| .nil) U25 fct20 rfl rfl rfl rfl rfl ?_
    clear Hz Az m612; intro g613 Az w614 Hz m614
    refine hK _ _ (fun _ => (m614.to ⟨il, il, il, il, il, il, il, il, il, il, il, il, il, il, trivial⟩)) ?_; clear hK K
    refine d_two 6 11 rfl rfl (by kernel_rfl) rfl rfl (fun K hK => ?_) (fun K hK => ?_)
    ·
     have m616 := m614.freezeR 85 rfl; clear m614
     refine e_appR Hz m616 84 rfl rfl rfl (m616.rd (i := 85) rfl) U25 fct20 rfl rfl (by decide) (by simp; omega) rfl ?_
     clear Hz Az m616; intro p615 c615 Az w617 Hz m617
     refine hK _ _ (fun _ => (m617.to ⟨il, il, il, il, il, il, il, il, il, il, il, il, il, il, trivial⟩)) ?_; clear hK K
     refine d_two 7 11 rfl rfl (by kernel_rfl) rfl rfl (fun K hK => ?_) (fun K hK => ?_)
     ·
      have m618 := m617.freezeR 84 rfl; clear m617
      have hE2 : ([] ++ (ss.map strD)) ++ [[.v (.int .i64 s0v.bl), .v (.int .i64 s0v.sz), .v (.int .i64 s0v.fr), .v (.int .i64 s0v.to), .l 2 (s0v.its.map itD)]] = (ss ++ [s0v]).map strD := by rw [List.nil_append, List.map_append]; rfl
      rw [hE2] at m618 Hz
      refine e_call Hz Tryd.func10 rfl rfl rfl rfl (all_no (ss ++ [s0v]) _ _ _ _ ((m618.rd (i := 84) rfl).any) (by simp; omega) (fun s hs => (hok s (by rcases List.mem_append.1 hs with h9 | h9; (exact h9); (rw [List.mem_singleton.1 h9]; exact List.mem_of_getElem? hs0))).1) (twice_no hsg (by omega) hs0)) ?_
      rintro e w619 ⟨rfl, hb619⟩
      have m620 := m618.later hb619
      clear m618
      clear hb619
      refine ⟨_, rfl, ?_⟩; clear Hz Az; intro Az Hz
      refine hK _ _ (fun _ => (m620.to ⟨il, il, il, il, il, il, il, il, il, il, il, il, il, il, trivial⟩)) ?_; clear hK K
      refine goA hP605 [8, 9, 10] 3 255 2047 Hz (m620.to ⟨il, il, il, il, il, il, il, il, il, il, il, il, il, il, trivial⟩) (.move rfl <| .extract rfl rfl <| .extract rfl rfl <| .nil) ?_
      clear Hz Az; intro Az Hz
      refine stepE_only 11 rfl (by kernel_rfl) rfl (fun K hK => ?_)
      refine e_alloc Hz m620 86 fct21 rfl ?_
      clear Hz Az m620; intro g625 Az w626 Hz m626 hB626 hg626
      clear hB626 hg626
      refine hK _ _ (m626.to ⟨il, il, il, il, il, il, il, il, il, il, il, il, il, il, trivial⟩) ?_; clear hK K
      refine stepE_end 12 rfl (by kernel_rfl) rfl (by rfl) (fun K hK => ?_)
      refine e_storeW Hz m626 86 rfl rfl rfl rfl rfl fct7 ?_
      clear m626; intro w627 m627 hB627
      clear hB627
      refine hK _ _ ?_; clear hK
      refine goB hP605 [13] 1 8191 16383 Hz (.assign rfl <| .nil) ?_
      clear Hz Az; intro Az Hz
      refine wpAnyE_done (by kernel_rfl) ?_ _
      refine hK20 _ _ ?_; clear hK20
      replace Hz : Has 105 [(6, _), (12, _), (13, _), (15, _)] Az := Hz.only [6, 12, 13, 15]
      refine sr fun K21 hK21 => ?_
      refine goCh Hz (.move rfl <| .eql rfl rfl <| .move rfl <| .eqlB rfl rfl U4 <| .move rfl <| .nil) ?_
      clear Hz Az; intro Az Hz
      refine bool_cases Hz (t := 93) rfl ?_ ?_
      rotate_left
      · intro hb _; exact absurd hb (by first | (simp; done) | (simp [hf9]; done) | (simp; omega))
      clear Hz; intro _ Hz
      refine goCh Hz (.moveZ rfl <| .eqlZ rfl rfl <| .pickT rfl rfl <| .move rfl <| .nil) ?_
      clear Hz Az; intro Az Hz
      refine bool_cases Hz (t := 97) rfl ?_ ?_
      rotate_left
      · intro hb _; exact absurd hb (by first | (simp; done) | (simp [hf9]; done) | (simp; omega))
      clear Hz; intro _ Hz
      refine goCh Hz (.moveZ rfl <| .eqlZ rfl rfl <| .moveZ rfl <| .nil) ?_
      clear Hz Az; intro Az Hz
      refine bool_cases Hz (t := 100) rfl ?_ ?_
      rotate_left
      · intro hb _; exact absurd hb (by first | (simp; done) | (simp [hf9]; done) | (simp; omega))
      clear Hz; intro _ Hz
      refine goCh Hz (.sk <| .sk <| .pickTZ rfl rfl <| .pickT rfl rfl <| .assign rfl <| .nil) ?_
      clear Hz Az; intro Az Hz
      refine nl (hK21 _ _ ?_); clear hK21
      refine wp_ret ?_
      try dsimp only [Exit.then, Exit.inBlock]
      refine (ret1 (fn := Tryd.f5) Hz rfl rfl ?_)
      exact ⟨by first | rfl | (simp; done) | (simp [hf9]; done), m627.below⟩
     refine e_alloc Hz m617 86 fct21 rfl ?_
     clear Hz Az m617; intro g655 Az w656 Hz m656 hB656 hg656
     clear hB656 hg656
     refine hK _ _ (fun _ => (m656.to ⟨il, il, il, il, il, il, il, il, il, il, il, il, il, il, trivial⟩)) ?_; clear hK K
     have m657 := m656.freezeR 84 rfl; clear m656
     have hE2 : ([] ++ (ss.map strD)) ++ [[.v (.int .i64 s0v.bl), .v (.int .i64 s0v.sz), .v (.int .i64 s0v.fr), .v (.int .i64 s0v.to), .l 2 (s0v.its.map itD)]] = (ss ++ [s0v]).map strD := by rw [List.nil_append, List.map_append]; rfl
     rw [hE2] at m657 Hz
     refine stepE_only 7 rfl (by kernel_rfl) rfl (fun K hK => ?_)
     refine e_call Hz Tryd.func10 rfl rfl rfl rfl (all_no (ss ++ [s0v]) _ _ _ _ ((m657.rd (i := 84) rfl).any) (by simp; omega) (fun s hs => (hok s (by rcases List.mem_append.1 hs with h9 | h9; (exact h9); (rw [List.mem_singleton.1 h9]; exact List.mem_of_getElem? hs0))).1) (twice_no hsg (by omega) hs0)) ?_
     rintro e w658 ⟨rfl, hb658⟩
     have m659 := m657.later hb658
     clear m657
     clear hb658
     refine ⟨_, rfl, ?_⟩; clear Hz Az; intro Az Hz
     refine hK _ _ (m659.to ⟨il, il, il, il, il, il, il, il, il, il, il, il, il, il, trivial⟩) ?_; clear hK K
     refine goA hP605 [8, 9, 10] 3 2303 4095 Hz (m659.to ⟨il, il, il, il, il, il, il, il, il, il, il, il, il, il, trivial⟩) (.move rfl <| .extract rfl rfl <| .extract rfl rfl <| .nil) ?_
     clear Hz Az; intro Az Hz
     refine stepE_end 12 rfl (by kernel_rfl) rfl (by rfl) (fun K hK => ?_)
     refine e_storeW Hz m659 86 rfl rfl rfl rfl rfl fct7 ?_
     clear m659; intro w664 m664 hB664
     clear hB664
     refine hK _ _ ?_; clear hK
     refine goB hP605 [13] 1 8191 16383 Hz (.assign rfl <| .nil) ?_
     clear Hz Az; intro Az Hz
     refine wpAnyE_done (by kernel_rfl) ?_ _
     refine hK20 _ _ ?_; clear hK20
     replace Hz : Has 105 [(6, _), (12, _), (13, _), (15, _)] Az := Hz.only [6, 12, 13, 15]
     refine sr fun K22 hK22 => ?_
     refine goCh Hz (.move rfl <| .eql rfl rfl <| .move rfl <| .eqlB rfl rfl U4 <| .move rfl <| .nil) ?_
     clear Hz Az; intro Az Hz
     refine bool_cases Hz (t := 93) rfl ?_ ?_
     rotate_left
     · intro hb _; exact absurd hb (by first | (simp; done) | (simp [hf9]; done) | (simp; omega))
     clear Hz; intro _ Hz
     refine goCh Hz (.moveZ rfl <| .eqlZ rfl rfl <| .pickT rfl rfl <| .move rfl <| .nil) ?_
     clear Hz Az; intro Az Hz
     refine bool_cases Hz (t := 97) rfl ?_ ?_
     rotate_left
     · intro hb _; exact absurd hb (by first | (simp; done) | (simp [hf9]; done) | (simp; omega))
     clear Hz; intro _ Hz
     refine goCh Hz (.moveZ rfl <| .eqlZ rfl rfl <| .moveZ rfl <| .nil) ?_
     clear Hz Az; intro Az Hz
     refine bool_cases Hz (t := 100) rfl ?_ ?_
     rotate_left
     · intro hb _; exact absurd hb (by first | (simp; done) | (simp [hf9]; done) | (simp; omega))
     clear Hz; intro _ Hz
     refine goCh Hz (.sk <| .sk <| .pickTZ rfl rfl <| .pickT rfl rfl <| .assign rfl <| .nil) ?_
     clear Hz Az; intro Az Hz
     refine nl (hK22 _ _ ?_); clear hK22
     refine wp_ret ?_
     try dsimp only [Exit.then, Exit.inBlock]
     refine (ret1 (fn := Tryd.f5) Hz rfl rfl ?_)
     exact ⟨by first | rfl | (simp; done) | (simp [hf9]; done), m664.below⟩
    refine e_alloc Hz m614 86 fct21 rfl ?_
    clear Hz Az m614; intro g692 Az w693 Hz m693 hB693 hg693
    clear hB693 hg693
    refine hK _ _ (fun _ => (m693.to ⟨il, il, il, il, il, il, il, il, il, il, il, il, il, il, trivial⟩)) ?_; clear hK K
    have m695 := m693.freezeR 85 rfl; clear m693
    refine stepE_only 6 rfl (by kernel_rfl) rfl (fun K hK => ?_)
    refine e_appR Hz m695 84 rfl rfl rfl (m695.rd (i := 85) rfl) U25 fct20 rfl rfl (by decide) (by simp; omega) rfl ?_
    clear Hz Az m695; intro p694 c694 Az w696 Hz m696
    refine hK _ _ (m696.to ⟨il, il, il, il, il, il, il, il, il, il, il, il, il, il, trivial⟩) ?_; clear hK K
    have m697 := m696.freezeR 84 rfl; clear m696
    have hE2 : ([] ++ (ss.map strD)) ++ [[.v (.int .i64 s0v.bl), .v (.int .i64 s0v.sz), .v (.int .i64 s0v.fr), .v (.int .i64 s0v.to), .l 2 (s0v.its.map itD)]] = (ss ++ [s0v]).map strD := by rw [List.nil_append, List.map_append]; rfl
    rw [hE2] at m697 Hz
    refine stepE_only 7 rfl (by kernel_rfl) rfl (fun K hK => ?_)
    refine e_call Hz Tryd.func10 rfl rfl rfl rfl (all_no (ss ++ [s0v]) _ _ _ _ ((m697.rd (i := 84) rfl).any) (by simp; omega) (fun s hs => (hok s (by rcases List.mem_append.1 hs with h9 | h9; (exact h9); (rw [List.mem_singleton.1 h9]; exact List.mem_of_getElem? hs0))).1) (twice_no hsg (by omega) hs0)) ?_
    rintro e w698 ⟨rfl, hb698⟩
    have m699 := m697.later hb698
    clear m697
    clear hb698
    refine ⟨_, rfl, ?_⟩; clear Hz Az; intro Az Hz
    refine hK _ _ (m699.to ⟨il, il, il, il, il, il, il, il, il, il, il, il, il, il, trivial⟩) ?_; clear hK K
    refine goA hP605 [8, 9, 10] 3 2303 4095 Hz (m699.to ⟨il, il, il, il, il, il, il, il, il, il, il, il, il, il, trivial⟩) (.move rfl <| .extract rfl rfl <| .extract rfl rfl <| .nil) ?_
    clear Hz Az; intro Az Hz
    refine stepE_end 12 rfl (by kernel_rfl) rfl (by rfl) (fun K hK => ?_)
    refine e_storeW Hz m699 86 rfl rfl rfl rfl rfl fct7 ?_
    clear m699; intro w704 m704 hB704
    clear hB704
    refine hK _ _ ?_; clear hK
    refine goB hP605 [13] 1 8191 16383 Hz (.assign rfl <| .nil) ?_
    clear Hz Az; intro Az Hz
    refine wpAnyE_done (by kernel_rfl) ?_ _
    refine hK20 _ _ ?_; clear hK20
    replace Hz : Has 105 [(6, _), (12, _), (13, _), (15, _)] Az := Hz.only [6, 12, 13, 15]
    refine sr fun K23 hK23 => ?_
    refine goCh Hz (.move rfl <| .eql rfl rfl <| .move rfl <| .eqlB rfl rfl U4 <| .move rfl <| .nil) ?_
    clear Hz Az; intro Az Hz
    refine bool_cases Hz (t := 93) rfl ?_ ?_
    rotate_left
    · intro hb _; exact absurd hb (by first | (simp; done) | (simp [hf9]; done) | (simp; omega))
    clear Hz; intro _ Hz
    refine goCh Hz (.moveZ rfl <| .eqlZ rfl rfl <| .pickT rfl rfl <| .move rfl <| .nil) ?_
    clear Hz Az; intro Az Hz
    refine bool_cases Hz (t := 97) rfl ?_ ?_
    rotate_left
    · intro hb _; exact absurd hb (by first | (simp; done) | (simp [hf9]; done) | (simp; omega))
    clear Hz; intro _ Hz
    refine goCh Hz (.moveZ rfl <| .eqlZ rfl rfl <| .moveZ rfl <| .nil) ?_
    clear Hz Az; intro Az Hz
    refine bool_cases Hz (t := 100) rfl ?_ ?_
    rotate_left
    · intro hb _; exact absurd hb (by first | (simp; done) | (simp [hf9]; done) | (simp; omega))
    clear Hz; intro _ Hz
    refine goCh Hz (.sk <| .sk <| .pickTZ rfl rfl <| .pickT rfl rfl <| .assign rfl <| .nil) ?_
    clear Hz Az; intro Az Hz
    refine nl (hK23 _ _ ?_); clear hK23
    refine wp_ret ?_
    try dsimp only [Exit.then, Exit.inBlock]
    refine (ret1 (fn := Tryd.f5) Hz rfl rfl ?_)
    exact ⟨by first | rfl | (simp; done) | (simp [hf9]; done), m704.below⟩
   refine e_alloc Hz m612 85 fct21 rfl ?_
   clear Hz Az m612; intro g732 Az w733 Hz m733 hB733 hg733
   clear hB733 hg733
   refine hK _ _ (fun _ => (m733.to ⟨il, il, il, il, il, il, il, il, il, il, il, il, il, il, trivial⟩)) ?_; clear hK K
   refine stepE_only 5 rfl (by kernel_rfl) rfl (fun K hK => ?_)
   refine e_litR Hz m733 86 (mm := 5) rfl (.cons rfl rfl (.cons (.v _) (.cons (.v _) (.cons (.v _) (.cons (.v _) (.cons (m733.rd (i := 83) rfl) .nil))))) <| .nil) U25 fct20 rfl rfl rfl rfl rfl ?_
   clear Hz Az m733; intro g734 Az w735 Hz m735
   refine hK _ _ (m735.to ⟨il, il, il, il, il, il, il, il, il, il, il, il, il, il, trivial⟩) ?_; clear hK K
   have m737 := m735.freezeR 86 rfl; clear m735
   refine stepE_only 6 rfl (by kernel_rfl) rfl (fun K hK => ?_)
   refine e_appR Hz m737 84 rfl rfl rfl (m737.rd (i := 86) rfl) U25 fct20 rfl rfl (by decide) (by simp; omega) rfl ?_
   clear Hz Az m737; intro p736 c736 Az w738 Hz m738
   refine hK _ _ (m738.to ⟨il, il, il, il, il, il, il, il, il, il, il, il, il, il, trivial⟩) ?_; clear hK K
   have m739 := m738.freezeR 84 rfl; clear m738
   have hE2 : ([] ++ (ss.map strD)) ++ [[.v (.int .i64 s0v.bl), .v (.int .i64 s0v.sz), .v (.int .i64 s0v.fr), .v (.int .i64 s0v.to), .l 2 (s0v.its.map itD)]] = (ss ++ [s0v]).map strD := by rw [List.nil_append, List.map_append]; rfl
   rw [hE2] at m739 Hz
   refine stepE_only 7 rfl (by kernel_rfl) rfl (fun K hK => ?_)
   refine e_call Hz Tryd.func10 rfl rfl rfl rfl (all_no (ss ++ [s0v]) _ _ _ _ ((m739.rd (i := 84) rfl).any) (by simp; omega) (fun s hs => (hok s (by rcases List.mem_append.1 hs with h9 | h9; (exact h9); (rw [List.mem_singleton.1 h9]; exact List.mem_of_getElem? hs0))).1) (twice_no hsg (by omega) hs0)) ?_
   rintro e w740 ⟨rfl, hb740⟩
   have m741 := m739.later hb740
   clear m739
   clear hb740
   refine ⟨_, rfl, ?_⟩; clear Hz Az; intro Az Hz
   refine hK _ _ (m741.to ⟨il, il, il, il, il, il, il, il, il, il, il, il, il, il, trivial⟩) ?_; clear hK K
   refine goA hP605 [8, 9, 10] 3 2303 4095 Hz (m741.to ⟨il, il, il, il, il, il, il, il, il, il, il, il, il, il, trivial⟩) (.move rfl <| .extract rfl rfl <| .extract rfl rfl <| .nil) ?_
   clear Hz Az; intro Az Hz
   refine stepE_end 12 rfl (by kernel_rfl) rfl (by rfl) (fun K hK => ?_)
   refine e_storeW Hz m741 85 rfl rfl rfl rfl rfl fct7 ?_
   clear m741; intro w746 m746 hB746
   clear hB746
   refine hK _ _ ?_; clear hK
   refine goB hP605 [13] 1 8191 16383 Hz (.assign rfl <| .nil) ?_
   clear Hz Az; intro Az Hz
   refine wpAnyE_done (by kernel_rfl) ?_ _
   refine hK20 _ _ ?_; clear hK20
   replace Hz : Has 105 [(6, _), (12, _), (13, _), (15, _)] Az := Hz.only [6, 12, 13, 15]
   refine sr fun K24 hK24 => ?_
   refine goCh Hz (.move rfl <| .eql rfl rfl <| .move rfl <| .eqlB rfl rfl U4 <| .move rfl <| .nil) ?_
   clear Hz Az; intro Az Hz
   refine bool_cases Hz (t := 93) rfl ?_ ?_
   rotate_left
   · intro hb _; exact absurd hb (by first | (simp; done) | (simp [hf9]; done) | (simp; omega))
   clear Hz; intro _ Hz
   refine goCh Hz (.moveZ rfl <| .eqlZ rfl rfl <| .pickT rfl rfl <| .move rfl <| .nil) ?_
   clear Hz Az; intro Az Hz
   refine bool_cases Hz (t := 97) rfl ?_ ?_
   rotate_left
   · intro hb _; exact absurd hb (by first | (simp; done) | (simp [hf9]; done) | (simp; omega))
   clear Hz; intro _ Hz
   refine goCh Hz (.moveZ rfl <| .eqlZ rfl rfl <| .moveZ rfl <| .nil) ?_
   clear Hz Az; intro Az Hz
   refine bool_cases Hz (t := 100) rfl ?_ ?_
   rotate_left
   · intro hb _; exact absurd hb (by first | (simp; done) | (simp [hf9]; done) | (simp; omega))
   clear Hz; intro _ Hz
   refine goCh Hz (.sk <| .sk <| .pickTZ rfl rfl <| .pickT rfl rfl <| .assign rfl <| .nil) ?_
   clear Hz Az; intro Az Hz
   refine nl (hK24 _ _ ?_); clear hK24
   refine wp_ret ?_
   try dsimp only [Exit.then, Exit.inBlock]
   refine (ret1 (fn := Tryd.f5) Hz rfl rfl ?_)
   exact ⟨by first | rfl | (simp; done) | (simp [hf9]; done), m746.below⟩
  ·
   refine e_litR Hz m605 84 (mm := 5) rfl (.cons rfl rfl (.cons (.v _) (.cons (.v _) (.cons (.v _) (.cons (.v _) (.cons (m605.rd (i := 83) rfl) .nil))))) <| .nil) U25 fct20 rfl rfl rfl rfl rfl ?_
   clear Hz Az m605; intro g774 Az w775 Hz m775
   refine hK _ _ (fun _ => (m775.to ⟨il, il, il, il, il, il, il, il, il, il, il, il, il, il, trivial⟩)) ?_; clear hK K
   refine d_two 1 11 rfl rfl (by kernel_rfl) rfl rfl (fun K hK => ?_) (fun K hK => ?_)
   ·
    have m776 := m775.nilR 85 35 5
    clear m775
    refine e_appR Hz m776 85 rfl rfl rfl (m776.rd (i := 70) rfl) U25 fct20 rfl rfl (by decide) (by simp; omega) rfl ?_
    clear Hz Az m776; intro p777 c777 Az w778 Hz m778
    refine hK _ _ (fun _ => (m778.to ⟨il, il, il, il, il, il, il, il, il, il, il, il, il, il, trivial⟩)) ?_; clear hK K
    refine d_two 6 11 rfl rfl (by kernel_rfl) rfl rfl (fun K hK => ?_) (fun K hK => ?_)
    ·
     have m780 := m778.freezeR 84 rfl; clear m778
     refine e_appR Hz m780 85 rfl rfl rfl (m780.rd (i := 84) rfl) U25 fct20 rfl rfl (by decide) (by simp; omega) rfl ?_
     clear Hz Az m780; intro p779 c779 Az w781 Hz m781
     refine hK _ _ (fun _ => (m781.to ⟨il, il, il, il, il, il, il, il, il, il, il, il, il, il, trivial⟩)) ?_; clear hK K
     refine d_two 7 11 rfl rfl (by kernel_rfl) rfl rfl (fun K hK => ?_) (fun K hK => ?_)
     ·
      have m782 := m781.freezeR 85 rfl; clear m781
      have hE2 : ([] ++ (ss.map strD)) ++ [[.v (.int .i64 s0v.bl), .v (.int .i64 s0v.sz), .v (.int .i64 s0v.fr), .v (.int .i64 s0v.to), .l 2 (s0v.its.map itD)]] = (ss ++ [s0v]).map strD := by rw [List.nil_append, List.map_append]; rfl
      rw [hE2] at m782 Hz
      refine e_call Hz Tryd.func10 rfl rfl rfl rfl (all_no (ss ++ [s0v]) _ _ _ _ ((m782.rd (i := 85) rfl).any) (by simp; omega) (fun s hs => (hok s (by rcases List.mem_append.1 hs with h9 | h9; (exact h9); (rw [List.mem_singleton.1 h9]; exact List.mem_of_getElem? hs0))).1) (twice_no hsg (by omega) hs0)) ?_
      rintro e w783 ⟨rfl, hb783⟩
      have m784 := m782.later hb783
      clear m782
      clear hb783
      refine ⟨_, rfl, ?_⟩; clear Hz Az; intro Az Hz
      refine hK _ _ (fun _ => (m784.to ⟨il, il, il, il, il, il, il, il, il, il, il, il, il, il, trivial⟩)) ?_; clear hK K
      refine goA hP605 [8, 9, 10] 3 255 2047 Hz (m784.to ⟨il, il, il, il, il, il, il, il, il, il, il, il, il, il, trivial⟩) (.move rfl <| .extract rfl rfl <| .extract rfl rfl <| .nil) ?_
      clear Hz Az; intro Az Hz
      refine stepE_only 11 rfl (by kernel_rfl) rfl (fun K hK => ?_)
      refine e_alloc Hz m784 86 fct21 rfl ?_
      clear Hz Az m784; intro g789 Az w790 Hz m790 hB790 hg790
      clear hB790 hg790
      refine hK _ _ (m790.to ⟨il, il, il, il, il, il, il, il, il, il, il, il, il, il, trivial⟩) ?_; clear hK K
      refine stepE_end 12 rfl (by kernel_rfl) rfl (by rfl) (fun K hK => ?_)
      refine e_storeW Hz m790 86 rfl rfl rfl rfl rfl fct7 ?_
      clear m790; intro w791 m791 hB791
      clear hB791
      refine hK _ _ ?_; clear hK
      refine goB hP605 [13] 1 8191 16383 Hz (.assign rfl <| .nil) ?_
      clear Hz Az; intro Az Hz
      refine wpAnyE_done (by kernel_rfl) ?_ _
      refine hK20 _ _ ?_; clear hK20
      replace Hz : Has 105 [(6, _), (12, _), (13, _), (15, _)] Az := Hz.only [6, 12, 13, 15]
      refine sr fun K25 hK25 => ?_
      refine goCh Hz (.move rfl <| .eql rfl rfl <| .move rfl <| .eqlB rfl rfl U4 <| .move rfl <| .nil) ?_
      clear Hz Az; intro Az Hz
      refine bool_cases Hz (t := 93) rfl ?_ ?_
      rotate_left
      · intro hb _; exact absurd hb (by first | (simp; done) | (simp [hf9]; done) | (simp; omega))
      clear Hz; intro _ Hz
      refine goCh Hz (.moveZ rfl <| .eqlZ rfl rfl <| .pickT rfl rfl <| .move rfl <| .nil) ?_
      clear Hz Az; intro Az Hz
      refine bool_cases Hz (t := 97) rfl ?_ ?_
      rotate_left
      · intro hb _; exact absurd hb (by first | (simp; done) | (simp [hf9]; done) | (simp; omega))
      clear Hz; intro _ Hz
      refine goCh Hz (.moveZ rfl <| .eqlZ rfl rfl <| .moveZ rfl <| .nil) ?_
      clear Hz Az; intro Az Hz
      refine bool_cases Hz (t := 100) rfl ?_ ?_
      rotate_left
      · intro hb _; exact absurd hb (by first | (simp; done) | (simp [hf9]; done) | (simp; omega))
      clear Hz; intro _ Hz
      refine goCh Hz (.sk <| .sk <| .pickTZ rfl rfl <| .pickT rfl rfl <| .assign rfl <| .nil) ?_
      clear Hz Az; intro Az Hz
      refine nl (hK25 _ _ ?_); clear hK25
      refine wp_ret ?_
      try dsimp only [Exit.then, Exit.inBlock]
      refine (ret1 (fn := Tryd.f5) Hz rfl rfl ?_)
      exact ⟨by first | rfl | (simp; done) | (simp [hf9]; done), m791.below⟩
     refine e_alloc Hz m781 86 fct21 rfl ?_
     clear Hz Az m781; intro g819 Az w820 Hz m820 hB820 hg820
     clear hB820 hg820
     refine hK _ _ (fun _ => (m820.to ⟨il, il, il, il, il, il, il, il, il, il, il, il, il, il, trivial⟩)) ?_; clear hK K
     have m821 := m820.freezeR 85 rfl; clear m820
     have hE2 : ([] ++ (ss.map strD)) ++ [[.v (.int .i64 s0v.bl), .v (.int .i64 s0v.sz), .v (.int .i64 s0v.fr), .v (.int .i64 s0v.to), .l 2 (s0v.its.map itD)]] = (ss ++ [s0v]).map strD := by rw [List.nil_append, List.map_append]; rfl
     rw [hE2] at m821 Hz
     refine stepE_only 7 rfl (by kernel_rfl) rfl (fun K hK => ?_)
     refine e_call Hz Tryd.func10 rfl rfl rfl rfl (all_no (ss ++ [s0v]) _ _ _ _ ((m821.rd (i := 85) rfl).any) (by simp; omega) (fun s hs => (hok s (by rcases List.mem_append.1 hs with h9 | h9; (exact h9); (rw [List.mem_singleton.1 h9]; exact List.mem_of_getElem? hs0))).1) (twice_no hsg (by omega) hs0)) ?_
     rintro e w822 ⟨rfl, hb822⟩
     have m823 := m821.later hb822
     clear m821
     clear hb822
     refine ⟨_, rfl, ?_⟩; clear Hz Az; intro Az Hz
     refine hK _ _ (m823.to ⟨il, il, il, il, il, il, il, il, il, il, il, il, il, il, trivial⟩) ?_; clear hK K
     refine goA hP605 [8, 9, 10] 3 2303 4095 Hz (m823.to ⟨il, il, il, il, il, il, il, il, il, il, il, il, il, il, trivial⟩) (.move rfl <| .extract rfl rfl <| .extract rfl rfl <| .nil) ?_
     clear Hz Az; intro Az Hz
     refine stepE_end 12 rfl (by kernel_rfl) rfl (by rfl) (fun K hK => ?_)
     refine e_storeW Hz m823 86 rfl rfl rfl rfl rfl fct7 ?_
     clear m823; intro w828 m828 hB828
     clear hB828
     refine hK _ _ ?_; clear hK
     refine goB hP605 [13] 1 8191 16383 Hz (.assign rfl <| .nil) ?_
     clear Hz Az; intro Az Hz
     refine wpAnyE_done (by kernel_rfl) ?_ _
     refine hK20 _ _ ?_; clear hK20
     replace Hz : Has 105 [(6, _), (12, _), (13, _), (15, _)] Az := Hz.only [6, 12, 13, 15]
     refine sr fun K26 hK26 => ?_
     refine goCh Hz (.move rfl <| .eql rfl rfl <| .move rfl <| .eqlB rfl rfl U4 <| .move rfl <| .nil) ?_
     clear Hz Az; intro Az Hz
     refine bool_cases Hz (t := 93) rfl ?_ ?_
     rotate_left
     · intro hb _; exact absurd hb (by first | (simp; done) | (simp [hf9]; done) | (simp; omega))
     clear Hz; intro _ Hz
     refine goCh Hz (.moveZ rfl <| .eqlZ rfl rfl <| .pickT rfl rfl <| .move rfl <| .nil) ?_
     clear Hz Az; intro Az Hz
     refine bool_cases Hz (t := 97) rfl ?_ ?_
     rotate_left
     · intro hb _; exact absurd hb (by first | (simp; done) | (simp [hf9]; done) | (simp; omega))
     clear Hz; intro _ Hz
     refine goCh Hz (.moveZ rfl <| .eqlZ rfl rfl <| .moveZ rfl <| .nil) ?_
     clear Hz Az; intro Az Hz
     refine bool_cases Hz (t := 100) rfl ?_ ?_
     rotate_left
     · intro hb _; exact absurd hb (by first | (simp; done) | (simp [hf9]; done) | (simp; omega))
     clear Hz; intro _ Hz
     refine goCh Hz (.sk <| .sk <| .pickTZ rfl rfl <| .pickT rfl rfl <| .assign rfl <| .nil) ?_
     clear Hz Az; intro Az Hz
     refine nl (hK26 _ _ ?_); clear hK26
     refine wp_ret ?_
     try dsimp only [Exit.then, Exit.inBlock]
     refine (ret1 (fn := Tryd.f5) Hz rfl rfl ?_)
     exact ⟨by first | rfl | (simp; done) | (simp [hf9]; done), m828.below⟩
    refine e_alloc Hz m778 86 fct21 rfl ?_
    clear Hz Az m778; intro g856 Az w857 Hz m857 hB857 hg857
    clear hB857 hg857
    refine hK _ _ (fun _ => (m857.to ⟨il, il, il, il, il, il, il, il, il, il, il, il, il, il, trivial⟩)) ?_; clear hK K
    have m859 := m857.freezeR 84 rfl; clear m857
    refine stepE_only 6 rfl (by kernel_rfl) rfl (fun K hK => ?_)
    refine e_appR Hz m859 85 rfl rfl rfl (m859.rd (i := 84) rfl) U25 fct20 rfl rfl (by decide) (by simp; omega) rfl ?_
    clear Hz Az m859; intro p858 c858 Az w860 Hz m860
    refine hK _ _ (m860.to ⟨il, il, il, il, il, il, il, il, il, il, il, il, il, il, trivial⟩) ?_; clear hK K
    have m861 := m860.freezeR 85 rfl; clear m860
    have hE2 : ([] ++ (ss.map strD)) ++ [[.v (.int .i64 s0v.bl), .v (.int .i64 s0v.sz), .v (.int .i64 s0v.fr), .v (.int .i64 s0v.to), .l 2 (s0v.its.map itD)]] = (ss ++ [s0v]).map strD := by rw [List.nil_append, List.map_append]; rfl
    rw [hE2] at m861 Hz
    refine stepE_only 7 rfl (by kernel_rfl) rfl (fun K hK => ?_)
    refine e_call Hz Tryd.func10 rfl rfl rfl rfl (all_no (ss ++ [s0v]) _ _ _ _ ((m861.rd (i := 85) rfl).any) (by simp; omega) (fun s hs => (hok s (by rcases List.mem_append.1 hs with h9 | h9; (exact h9); (rw [List.mem_singleton.1 h9]; exact List.mem_of_getElem? hs0))).1) (twice_no hsg (by omega) hs0)) ?_
    rintro e w862 ⟨rfl, hb862⟩
    have m863 := m861.later hb862
    clear m861
    clear hb862
    refine ⟨_, rfl, ?_⟩; clear Hz Az; intro Az Hz
    refine hK _ _ (m863.to ⟨il, il, il, il, il, il, il, il, il, il, il, il, il, il, trivial⟩) ?_; clear hK K
    refine goA hP605 [8, 9, 10] 3 2303 4095 Hz (m863.to ⟨il, il, il, il, il, il, il, il, il, il, il, il, il, il, trivial⟩) (.move rfl <| .extract rfl rfl <| .extract rfl rfl <| .nil) ?_
    clear Hz Az; intro Az Hz
    refine stepE_end 12 rfl (by kernel_rfl) rfl (by rfl) (fun K hK => ?_)
    refine e_storeW Hz m863 86 rfl rfl rfl rfl rfl fct7 ?_
    clear m863; intro w868 m868 hB868
    clear hB868
    refine hK _ _ ?_; clear hK
    refine goB hP605 [13] 1 8191 16383 Hz (.assign rfl <| .nil) ?_
    clear Hz Az; intro Az Hz
    refine wpAnyE_done (by kernel_rfl) ?_ _
    refine hK20 _ _ ?_; clear hK20
    replace Hz : Has 105 [(6, _), (12, _), (13, _), (15, _)] Az := Hz.only [6, 12, 13, 15]
    refine sr fun K27 hK27 => ?_
    refine goCh Hz (.move rfl <| .eql rfl rfl <| .move rfl <| .eqlB rfl rfl U4 <| .move rfl <| .nil) ?_
    clear Hz Az; intro Az Hz
    refine bool_cases Hz (t := 93) rfl ?_ ?_
    rotate_left
    · intro hb _; exact absurd hb (by first | (simp; done) | (simp [hf9]; done) | (simp; omega))
    clear Hz; intro _ Hz
    refine goCh Hz (.moveZ rfl <| .eqlZ rfl rfl <| .pickT rfl rfl <| .move rfl <| .nil) ?_
    clear Hz Az; intro Az Hz
    refine bool_cases Hz (t := 97) rfl ?_ ?_
    rotate_left
    · intro hb _; exact absurd hb (by first | (simp; done) | (simp [hf9]; done) | (simp; omega))
    clear Hz; intro _ Hz
    refine goCh Hz (.moveZ rfl <| .eqlZ rfl rfl <| .moveZ rfl <| .nil) ?_
    clear Hz Az; intro Az Hz
    refine bool_cases Hz (t := 100) rfl ?_ ?_
    rotate_left
    · intro hb _; exact absurd hb (by first | (simp; done) | (simp [hf9]; done) | (simp; omega))
    clear Hz; intro _ Hz
    refine goCh Hz (.sk <| .sk <| .pickTZ rfl rfl <| .pickT rfl rfl <| .assign rfl <| .nil) ?_
    clear Hz Az; intro Az Hz
    refine nl (hK27 _ _ ?_); clear hK27
    refine wp_ret ?_
    try dsimp only [Exit.then, Exit.inBlock]
    refine (ret1 (fn := Tryd.f5) Hz rfl rfl ?_)
    exact ⟨by first | rfl | (simp; done) | (simp [hf9]; done), m868.below⟩
   refine e_alloc Hz m775 85 fct21 rfl ?_
   clear Hz Az m775; intro g896 Az w897 Hz m897 hB897 hg897
   clear hB897 hg897
   refine hK _ _ (fun _ => (m897.to ⟨il, il, il, il, il, il, il, il, il, il, il, il, il, il, trivial⟩)) ?_; clear hK K
   have m898 := m897.nilR 86 35 5
   clear m897
   refine stepE_only 1 rfl (by kernel_rfl) rfl (fun K hK => ?_)
   refine e_appR Hz m898 86 rfl rfl rfl (m898.rd (i := 70) rfl) U25 fct20 rfl rfl (by decide) (by simp; omega) rfl ?_
   clear Hz Az m898; intro p899 c899 Az w900 Hz m900
   refine hK _ _ (m900.to ⟨il, il, il, il, il, il, il, il, il, il, il, il, il, il, trivial⟩) ?_; clear hK K
   have m902 := m900.freezeR 84 rfl; clear m900
   refine stepE_only 6 rfl (by kernel_rfl) rfl (fun K hK => ?_)
   refine e_appR Hz m902 86 rfl rfl rfl (m902.rd (i := 84) rfl) U25 fct20 rfl rfl (by decide) (by simp; omega) rfl ?_
   clear Hz Az m902; intro p901 c901 Az w903 Hz m903
   refine hK _ _ (m903.to ⟨il, il, il, il, il, il, il, il, il, il, il, il, il, il, trivial⟩) ?_; clear hK K
   have m904 := m903.freezeR 86 rfl; clear m903
   have hE2 : ([] ++ (ss.map strD)) ++ [[.v (.int .i64 s0v.bl), .v (.int .i64 s0v.sz), .v (.int .i64 s0v.fr), .v (.int .i64 s0v.to), .l 2 (s0v.its.map itD)]] = (ss ++ [s0v]).map strD := by rw [List.nil_append, List.map_append]; rfl
   rw [hE2] at m904 Hz
   refine stepE_only 7 rfl (by kernel_rfl) rfl (fun K hK => ?_)
   refine e_call Hz Tryd.func10 rfl rfl rfl rfl (all_no (ss ++ [s0v]) _ _ _ _ ((m904.rd (i := 86) rfl).any) (by simp; omega) (fun s hs => (hok s (by rcases List.mem_append.1 hs with h9 | h9; (exact h9); (rw [List.mem_singleton.1 h9]; exact List.mem_of_getElem? hs0))).1) (twice_no hsg (by omega) hs0)) ?_
   rintro e w905 ⟨rfl, hb905⟩
   have m906 := m904.later hb905
   clear m904
   clear hb905
   refine ⟨_, rfl, ?_⟩; clear Hz Az; intro Az Hz
   refine hK _ _ (m906.to ⟨il, il, il, il, il, il, il, il, il, il, il, il, il, il, trivial⟩) ?_; clear hK K
   refine goA hP605 [8, 9, 10] 3 2303 4095 Hz (m906.to ⟨il, il, il, il, il, il, il, il, il, il, il, il, il, il, trivial⟩) (.move rfl <| .extract rfl rfl <| .extract rfl rfl <| .nil) ?_
   clear Hz Az; intro Az Hz
   refine stepE_end 12 rfl (by kernel_rfl) rfl (by rfl) (fun K hK => ?_)
   refine e_storeW Hz m906 85 rfl rfl rfl rfl rfl fct7 ?_
   clear m906; intro w911 m911 hB911
   clear hB911
   refine hK _ _ ?_; clear hK
   refine goB hP605 [13] 1 8191 16383 Hz (.assign rfl <| .nil) ?_
   clear Hz Az; intro Az Hz
   refine wpAnyE_done (by kernel_rfl) ?_ _
   refine hK20 _ _ ?_; clear hK20
   replace Hz : Has 105 [(6, _), (12, _), (13, _), (15, _)] Az := Hz.only [6, 12, 13, 15]
   refine sr fun K28 hK28 => ?_
   refine goCh Hz (.move rfl <| .eql rfl rfl <| .move rfl <| .eqlB rfl rfl U4 <| .move rfl <| .nil) ?_
   clear Hz Az; intro Az Hz
   refine bool_cases Hz (t := 93) rfl ?_ ?_
   rotate_left
   · intro hb _; exact absurd hb (by first | (simp; done) | (simp [hf9]; done) | (simp; omega))
   clear Hz; intro _ Hz
   refine goCh Hz (.moveZ rfl <| .eqlZ rfl rfl <| .pickT rfl rfl <| .move rfl <| .nil) ?_
   clear Hz Az; intro Az Hz
   refine bool_cases Hz (t := 97) rfl ?_ ?_
   rotate_left
   · intro hb _; exact absurd hb (by first | (simp; done) | (simp [hf9]; done) | (simp; omega))
   clear Hz; intro _ Hz
   refine goCh Hz (.moveZ rfl <| .eqlZ rfl rfl <| .moveZ rfl <| .nil) ?_
   clear Hz Az; intro Az Hz
   refine bool_cases Hz (t := 100) rfl ?_ ?_
   rotate_left
   · intro hb _; exact absurd hb (by first | (simp; done) | (simp [hf9]; done) | (simp; omega))
   clear Hz; intro _ Hz
   refine goCh Hz (.sk <| .sk <| .pickTZ rfl rfl <| .pickT rfl rfl <| .assign rfl <| .nil) ?_
   clear Hz Az; intro Az Hz
   refine nl (hK28 _ _ ?_); clear hK28
   refine wp_ret ?_
   try dsimp only [Exit.then, Exit.inBlock]
   refine (ret1 (fn := Tryd.f5) Hz rfl rfl ?_)
   exact ⟨by first | rfl | (simp; done) | (simp [hf9]; done), m911.below⟩
  refine e_alloc Hz m605 84 fct21 rfl ?_
  clear Hz Az m605; intro g939 Az w940 Hz m940 hB940 hg940
  clear hB940 hg940
  refine hK _ _ (fun _ => (m940.to ⟨il, il, il, il, il, il, il, il, il, il, il, il, il, il, trivial⟩)) ?_; clear hK K
  refine d_two 1 5 rfl rfl (by kernel_rfl) rfl rfl (fun K hK => ?_) (fun K hK => ?_)
  ·
   have m941 := m940.nilR 85 35 5
   clear m940
   refine e_appR Hz m941 85 rfl rfl rfl (m941.rd (i := 70) rfl) U25 fct20 rfl rfl (by decide) (by simp; omega) rfl ?_
   clear Hz Az m941; intro p942 c942 Az w943 Hz m943
   refine hK _ _ (fun _ => (m943.to ⟨il, il, il, il, il, il, il, il, il, il, il, il, il, il, trivial⟩)) ?_; clear hK K
   refine stepE_only 5 rfl (by kernel_rfl) rfl (fun K hK => ?_)
   refine e_litR Hz m943 86 (mm := 5) rfl (.cons rfl rfl (.cons (.v _) (.cons (.v _) (.cons (.v _) (.cons (.v _) (.cons (m943.rd (i := 83) rfl) .nil))))) <| .nil) U25 fct20 rfl rfl rfl rfl rfl ?_
   clear Hz Az m943; intro g944 Az w945 Hz m945
   refine hK _ _ (m945.to ⟨il, il, il, il, il, il, il, il, il, il, il, il, il, il, trivial⟩) ?_; clear hK K
   have m947 := m945.freezeR 86 rfl; clear m945
   refine stepE_only 6 rfl (by kernel_rfl) rfl (fun K hK => ?_)
   refine e_appR Hz m947 85 rfl rfl rfl (m947.rd (i := 86) rfl) U25 fct20 rfl rfl (by decide) (by simp; omega) rfl ?_
   clear Hz Az m947; intro p946 c946 Az w948 Hz m948
   refine hK _ _ (m948.to ⟨il, il, il, il, il, il, il, il, il, il, il, il, il, il, trivial⟩) ?_; clear hK K
   have m949 := m948.freezeR 85 rfl; clear m948
   have hE2 : ([] ++ (ss.map strD)) ++ [[.v (.int .i64 s0v.bl), .v (.int .i64 s0v.sz), .v (.int .i64 s0v.fr), .v (.int .i64 s0v.to), .l 2 (s0v.its.map itD)]] = (ss ++ [s0v]).map strD := by rw [List.nil_append, List.map_append]; rfl
   rw [hE2] at m949 Hz
   refine stepE_only 7 rfl (by kernel_rfl) rfl (fun K hK => ?_)
   refine e_call Hz Tryd.func10 rfl rfl rfl rfl (all_no (ss ++ [s0v]) _ _ _ _ ((m949.rd (i := 85) rfl).any) (by simp; omega) (fun s hs => (hok s (by rcases List.mem_append.1 hs with h9 | h9; (exact h9); (rw [List.mem_singleton.1 h9]; exact List.mem_of_getElem? hs0))).1) (twice_no hsg (by omega) hs0)) ?_
   rintro e w950 ⟨rfl, hb950⟩
   have m951 := m949.later hb950
   clear m949
   clear hb950
   refine ⟨_, rfl, ?_⟩; clear Hz Az; intro Az Hz
   refine hK _ _ (m951.to ⟨il, il, il, il, il, il, il, il, il, il, il, il, il, il, trivial⟩) ?_; clear hK K
   refine goA hP605 [8, 9, 10] 3 2303 4095 Hz (m951.to ⟨il, il, il, il, il, il, il, il, il, il, il, il, il, il, trivial⟩) (.move rfl <| .extract rfl rfl <| .extract rfl rfl <| .nil) ?_
   clear Hz Az; intro Az Hz
   refine stepE_end 12 rfl (by kernel_rfl) rfl (by rfl) (fun K hK => ?_)
   refine e_storeW Hz m951 84 rfl rfl rfl rfl rfl fct7 ?_
   clear m951; intro w956 m956 hB956
   clear hB956
   refine hK _ _ ?_; clear hK
   refine goB hP605 [13] 1 8191 16383 Hz (.assign rfl <| .nil) ?_
   clear Hz Az; intro Az Hz
   refine wpAnyE_done (by kernel_rfl) ?_ _
   refine hK20 _ _ ?_; clear hK20
   replace Hz : Has 105 [(6, _), (12, _), (13, _), (15, _)] Az := Hz.only [6, 12, 13, 15]
   refine sr fun K29 hK29 => ?_
   refine goCh Hz (.move rfl <| .eql rfl rfl <| .move rfl <| .eqlB rfl rfl U4 <| .move rfl <| .nil) ?_
   clear Hz Az; intro Az Hz
   refine bool_cases Hz (t := 93) rfl ?_ ?_
   rotate_left
   · intro hb _; exact absurd hb (by first | (simp; done) | (simp [hf9]; done) | (simp; omega))
   clear Hz; intro _ Hz
   refine goCh Hz (.moveZ rfl <| .eqlZ rfl rfl <| .pickT rfl rfl <| .move rfl <| .nil) ?_
   clear Hz Az; intro Az Hz
   refine bool_cases Hz (t := 97) rfl ?_ ?_
   rotate_left
   · intro hb _; exact absurd hb (by first | (simp; done) | (simp [hf9]; done) | (simp; omega))
   clear Hz; intro _ Hz
   refine goCh Hz (.moveZ rfl <| .eqlZ rfl rfl <| .moveZ rfl <| .nil) ?_
   clear Hz Az; intro Az Hz
   refine bool_cases Hz (t := 100) rfl ?_ ?_
   rotate_left
   · intro hb _; exact absurd hb (by first | (simp; done) | (simp [hf9]; done) | (simp; omega))
   clear Hz; intro _ Hz
   refine goCh Hz (.sk <| .sk <| .pickTZ rfl rfl <| .pickT rfl rfl <| .assign rfl <| .nil) ?_
   clear Hz Az; intro Az Hz
   refine nl (hK29 _ _ ?_); clear hK29
   refine wp_ret ?_
   try dsimp only [Exit.then, Exit.inBlock]
   refine (ret1 (fn := Tryd.f5) Hz rfl rfl ?_)
   exact ⟨by first | rfl | (simp; done) | (simp [hf9]; done), m956.below⟩
  refine e_litR Hz m940 85 (mm := 5) rfl (.cons rfl rfl (.cons (.v _) (.cons (.v _) (.cons (.v _) (.cons (.v _) (.cons (m940.rd (i := 83) rfl) .nil))))) <| .nil) U25 fct20 rfl rfl rfl rfl rfl ?_
  clear Hz Az m940; intro g984 Az w985 Hz m985
  refine hK _ _ (fun _ => (m985.to ⟨il, il, il, il, il, il, il, il, il, il, il, il, il, il, trivial⟩)) ?_; clear hK K
  have m986 := m985.nilR 86 35 5
  clear m985
  refine stepE_only 1 rfl (by kernel_rfl) rfl (fun K hK => ?_)
  refine e_appR Hz m986 86 rfl rfl rfl (m986.rd (i := 70) rfl) U25 fct20 rfl rfl (by decide) (by simp; omega) rfl ?_
  clear Hz Az m986; intro p987 c987 Az w988 Hz m988
  refine hK _ _ (m988.to ⟨il, il, il, il, il, il, il, il, il, il, il, il, il, il, trivial⟩) ?_; clear hK K
  have m990 := m988.freezeR 85 rfl; clear m988
  refine stepE_only 6 rfl (by kernel_rfl) rfl (fun K hK => ?_)
  refine e_appR Hz m990 86 rfl rfl rfl (m990.rd (i := 85) rfl) U25 fct20 rfl rfl (by decide) (by simp; omega) rfl ?_
  clear Hz Az m990; intro p989 c989 Az w991 Hz m991
  refine hK _ _ (m991.to ⟨il, il, il, il, il, il, il, il, il, il, il, il, il, il, trivial⟩) ?_; clear hK K
  have m992 := m991.freezeR 86 rfl; clear m991
  have hE2 : ([] ++ (ss.map strD)) ++ [[.v (.int .i64 s0v.bl), .v (.int .i64 s0v.sz), .v (.int .i64 s0v.fr), .v (.int .i64 s0v.to), .l 2 (s0v.its.map itD)]] = (ss ++ [s0v]).map strD := by rw [List.nil_append, List.map_append]; rfl
  rw [hE2] at m992 Hz
  refine stepE_only 7 rfl (by kernel_rfl) rfl (fun K hK => ?_)
  refine e_call Hz Tryd.func10 rfl rfl rfl rfl (all_no (ss ++ [s0v]) _ _ _ _ ((m992.rd (i := 86) rfl).any) (by simp; omega) (fun s hs => (hok s (by rcases List.mem_append.1 hs with h9 | h9; (exact h9); (rw [List.mem_singleton.1 h9]; exact List.mem_of_getElem? hs0))).1) (twice_no hsg (by omega) hs0)) ?_
  rintro e w993 ⟨rfl, hb993⟩
  have m994 := m992.later hb993
  clear m992
  clear hb993
  refine ⟨_, rfl, ?_⟩; clear Hz Az; intro Az Hz
  refine hK _ _ (m994.to ⟨il, il, il, il, il, il, il, il, il, il, il, il, il, il, trivial⟩) ?_; clear hK K
  refine goA hP605 [8, 9, 10] 3 2303 4095 Hz (m994.to ⟨il, il, il, il, il, il, il, il, il, il, il, il, il, il, trivial⟩) (.move rfl <| .extract rfl rfl <| .extract rfl rfl <| .nil) ?_
  clear Hz Az; intro Az Hz
  refine stepE_end 12 rfl (by kernel_rfl) rfl (by rfl) (fun K hK => ?_)
  refine e_storeW Hz m994 84 rfl rfl rfl rfl rfl fct7 ?_
  clear m994; intro w999 m999 hB999
  clear hB999
  refine hK _ _ ?_; clear hK
  refine goB hP605 [13] 1 8191 16383 Hz (.assign rfl <| .nil) ?_
  clear Hz Az; intro Az Hz
  refine wpAnyE_done (by kernel_rfl) ?_ _
  refine hK20 _ _ ?_; clear hK20
  replace Hz : Has 105 [(6, _), (12, _), (13, _), (15, _)] Az := Hz.only [6, 12, 13, 15]
  refine sr fun K30 hK30 => ?_
  refine goCh Hz (.move rfl <| .eql rfl rfl <| .move rfl <| .eqlB rfl rfl U4 <| .move rfl <| .nil) ?_
  clear Hz Az; intro Az Hz
  refine bool_cases Hz (t := 93) rfl ?_ ?_
  rotate_left
  · intro hb _; exact absurd hb (by first | (simp; done) | (simp [hf9]; done) | (simp; omega))
  clear Hz; intro _ Hz
  refine goCh Hz (.moveZ rfl <| .eqlZ rfl rfl <| .pickT rfl rfl <| .move rfl <| .nil) ?_
  clear Hz Az; intro Az Hz
  refine bool_cases Hz (t := 97) rfl ?_ ?_
  rotate_left
  · intro hb _; exact absurd hb (by first | (simp; done) | (simp [hf9]; done) | (simp; omega))
  clear Hz; intro _ Hz
  refine goCh Hz (.moveZ rfl <| .eqlZ rfl rfl <| .moveZ rfl <| .nil) ?_
  clear Hz Az; intro Az Hz
  refine bool_cases Hz (t := 100) rfl ?_ ?_
  rotate_left
  · intro hb _; exact absurd hb (by first | (simp; done) | (simp [hf9]; done) | (simp; omega))
  clear Hz; intro _ Hz
  refine goCh Hz (.sk <| .sk <| .pickTZ rfl rfl <| .pickT rfl rfl <| .assign rfl <| .nil) ?_
  clear Hz Az; intro Az Hz
  refine nl (hK30 _ _ ?_); clear hK30
  refine wp_ret ?_
  try dsimp only [Exit.then, Exit.inBlock]
  refine (ret1 (fn := Tryd.f5) Hz rfl rfl ?_)
  exact ⟨by first | rfl | (simp; done) | (simp [hf9]; done), m999.below⟩
 replace Hz : Has 105 [(6, _), (7, _), (9, _), (10, _)] Az := Hz.only [6, 7, 9, 10]
 refine wp_region_lit ?_
 refine goCh Hz (.move rfl .nil) ?_
 clear Hz Az; intro Az Hz
 have m1029 := m84.freezeR 75 rfl; clear m84
 have hE : ([] ++ (ss.map strD).take kq) ++ (ss.map strD).drop (kq + 1) = (restV ss kq).map strD := by rw [List.nil_append, List.map_append, List.map_take, List.map_drop]
 rw [hE] at m1029 Hz
 refine wpList_plain rfl (fun K hK => ?_)
 refine e_call Hz Tryd.func10 rfl rfl rfl rfl (all_no (restV ss kq) _ _ _ _ ((m1029.rd (i := 75) rfl).any) (by have := rest_len ss kq; omega) (fun s hs => (hok s (rest_mem hs)).1) hC) ?_
 rintro e w1030 ⟨rfl, hb1030⟩
 have m1031 := m1029.later hb1030
 clear m1029
 clear hb1030
 refine ⟨_, rfl, ?_⟩; clear Hz Az; intro Az Hz
 refine hK _ _ ?_; clear hK
 refine goCh Hz (.move rfl <| .extract rfl rfl <| .extract rfl rfl <| .nil) ?_
 clear Hz Az; intro Az Hz
 refine wpList_plain rfl (fun K hK => ?_)
 refine e_alloc Hz m1031 76 fct21 rfl ?_
 clear Hz Az m1031; intro g1036 Az w1037 Hz m1037 hB1037 hg1037
 clear hB1037 hg1037
 refine hK _ _ ?_; clear hK
 refine wpList_plain rfl (fun K hK => ?_)
 refine e_storeW Hz m1037 76 rfl rfl rfl rfl rfl fct7 ?_
 clear m1037; intro w1038 m1038 hB1038
 clear hB1038
 refine hK _ _ ?_; clear hK
 refine goCh Hz (.assign rfl .nil) ?_
 clear Hz Az; intro Az Hz
 refine nl (hK6 _ _ ?_); clear hK6
 refine wp_seq_k (fun K31 hK31 => ?_)
 replace Hz : Has 105 [(6, _), (7, _), (9, _), (12, _)] Az := Hz.only [6, 7, 9, 12]
 obtain ⟨b1041, o1041, vs1041, hp1041, hR1041, ho1041, m1041⟩ := m1038.openR (i := 70) rfl (kq) (r := [.v (.int .i64 sk.bl), .v (.int .i64 sk.sz), .v (.int .i64 sk.fr), .v (.int .i64 sk.to), .l 2 (sk.its.map itD)]) (strD_get hsk) 77 rfl
 cases hp1041; clear m1038 ho1041
 rcases hR1041 with _ | ⟨hd1041_0, _ | ⟨hd1041_1, _ | ⟨hd1041_2, _ | ⟨hd1041_3, _ | ⟨hd1041_4, _ | _⟩⟩⟩⟩⟩
 obtain rfl := hd1041_0.v_out
 clear hd1041_0
 obtain rfl := hd1041_1.v_out
 clear hd1041_1
 obtain rfl := hd1041_2.v_out
 clear hd1041_2
 obtain rfl := hd1041_3.v_out
 clear hd1041_3
 obtain ⟨p1042, c1042, hv1042, hc1042⟩ := hd1041_4.l_shape; subst hv1042
 have m1042 := m1041.dat 78 rfl (hd1041_4.cast (fun _ h => (free_add rfl h))); clear m1041 hd1041_4
 obtain ⟨b1043, o1043, vs1043, hp1043, hR1043, ho1043, m1043⟩ := m1042.openR (i := 70) rfl (kq) (r := [.v (.int .i64 sk.bl), .v (.int .i64 sk.sz), .v (.int .i64 sk.fr), .v (.int .i64 sk.to), .l 2 (sk.its.map itD)]) (strD_get hsk) 79 rfl
 cases hp1043; clear m1042 ho1043
 rcases hR1043 with _ | ⟨hd1043_0, _ | ⟨hd1043_1, _ | ⟨hd1043_2, _ | ⟨hd1043_3, _ | ⟨hd1043_4, _ | _⟩⟩⟩⟩⟩
 obtain rfl := hd1043_0.v_out
 clear hd1043_0
 obtain rfl := hd1043_1.v_out
 clear hd1043_1
 obtain rfl := hd1043_2.v_out
 clear hd1043_2
 obtain rfl := hd1043_3.v_out
 clear hd1043_3
 obtain ⟨p1044, c1044, hv1044, hc1044⟩ := hd1043_4.l_shape; subst hv1044
 have m1044 := m1043.dat 80 rfl (hd1043_4.cast (fun _ h => (free_add rfl h))); clear m1043 hd1043_4
 have m1045 : MemOk _ _ [(70, _), (71, _), (72, _), (73, _), (74, _), (75, _), (76, _), (77, _), (78, _), (79, _), (80, _)] _ := m1044.only [70, 71, 72, 73, 74, 75, 76, 77, 78, 79, 80]; clear m1044
 refine region_p 23 (B := [(70, _), (71, _), (72, _), (73, _), (74, _), (75, _), (76, _), (77, _), (78, _), (79, _), (80, _)]) (m1045.to ⟨il, il, il, il, il, il, il, il, il, il, il, trivial⟩) m1045 (by kernel_rfl) (fun w1046 hP1046 m1046 => ?_); clear m1045
 refine goA hP1046 [0, 1, 2, 3, 4, 5] 6 0 63 Hz (m1046.to ⟨il, il, il, il, il, il, il, il, il, il, il, trivial⟩) (.move rfl <| .move rfl <| .len rfl U25 <| .sub rfl rfl (IntWalk.i64_in _ (by omega)) <| .eql rfl rfl <| .move rfl <| .nil) ?_
 clear Hz Az; intro Az Hz
 refine bool_cases Hz (t := 61) rfl ?_ ?_
 · intro hb _; exact absurd hb (by simp; omega)
 clear Hz; intro _ Hz
 refine goA hP1046 [6, 7, 8] 3 63 511 Hz (m1046.to ⟨il, il, il, il, il, il, il, il, il, il, il, trivial⟩) (.move rfl <| .gtr rfl rfl <| .move rfl <| .nil) ?_
 clear Hz Az; intro Az Hz
 refine bool_cases Hz (t := 64) rfl ?_ ?_
 ·
  clear Hz; intro hb1057 Hz; try simp only [QQ, Qax] at hb1057
  have hf9 : ¬ sk.fr = sk.to := fun h9 => hn9 ⟨by have := hb1057; first | omega | (simp at this; omega), h9⟩
  refine goR hP1046 [9, 10, 11, 12, 13, 14, 15, 16, 17, 18, 19, 20, 21, 22] [13, 18] 14 511 8388607 Hz (m1046.to ⟨il, il, il, il, il, il, il, il, il, il, il, trivial⟩) (.move rfl <| .move rfl <| .p (fun _ _ h => y_idx h rfl rfl U25 fct7 (kq) rfl (by omega)) <| .fieldAddrQ 2 rfl U35 rfl (s := 0) (by kernel_rfl) rfl <| .loadC1 hh (i := 77) (q := 2) rfl rfl rfl U2 rfl <| .move rfl <| .move rfl <| .p (fun _ _ h => y_idx h rfl rfl U25 fct7 (kq) rfl (by omega)) <| .fieldAddrQ 3 rfl U35 rfl (s := 0) (by kernel_rfl) rfl <| .loadC1 hh (i := 79) (q := 3) rfl rfl rfl U2 rfl <| .eql rfl rfl <| .pickT rfl rfl <| .pickF rfl rfl <| .assign rfl <| .nil) ?_
  clear Hz Az; intro Az Hz
  refine wpAnyE_done (by kernel_rfl) ?_ _
  refine hK31 _ _ ?_; clear hK31
  refine wp_seq_k (fun K32 hK32 => ?_)
  replace Hz : Has 105 [(6, _), (7, _), (12, _), (13, _)] Az := Hz.only [6, 7, 12, 13]
  obtain ⟨b1073, o1073, vs1073, hp1073, hR1073, ho1073, m1073⟩ := m1046.openR (i := 70) rfl (0) (r := [.v (.int .i64 s0v.bl), .v (.int .i64 s0v.sz), .v (.int .i64 s0v.fr), .v (.int .i64 s0v.to), .l 2 (s0v.its.map itD)]) (strD_get hs0) 81 rfl
  cases hp1073; clear m1046 ho1073
  rcases hR1073 with _ | ⟨hd1073_0, _ | ⟨hd1073_1, _ | ⟨hd1073_2, _ | ⟨hd1073_3, _ | ⟨hd1073_4, _ | _⟩⟩⟩⟩⟩
  obtain rfl := hd1073_0.v_out
  clear hd1073_0
  obtain rfl := hd1073_1.v_out
  clear hd1073_1
  obtain rfl := hd1073_2.v_out
  clear hd1073_2
  obtain rfl := hd1073_3.v_out
  clear hd1073_3
  obtain ⟨p1074, c1074, hv1074, hc1074⟩ := hd1073_4.l_shape; subst hv1074
  have m1074 := m1073.dat 82 rfl (hd1073_4.cast (fun _ h => (free_add rfl h))); clear m1073 hd1073_4
  have m1075 : MemOk _ _ [(70, _), (71, _), (72, _), (73, _), (74, _), (75, _), (76, _), (77, _), (78, _), (79, _), (80, _), (81, _), (82, _)] _ := m1074.only [70, 71, 72, 73, 74, 75, 76, 77, 78, 79, 80, 81, 82]; clear m1074
  refine region_p 12 (B := [(70, _), (71, _), (72, _), (73, _), (74, _), (75, _), (76, _), (77, _), (78, _), (79, _), (80, _), (81, _), (82, _)]) (m1075.to ⟨il, il, il, il, il, il, il, il, il, il, il, il, il, trivial⟩) m1075 (by kernel_rfl) (fun w1076 hP1076 m1076 => ?_); clear m1075
  refine goR hP1076 [0, 2, 3, 4] [4] 4 0 29 Hz (m1076.to ⟨il, il, il, il, il, il, il, il, il, il, il, il, il, trivial⟩) (.move rfl <| .move rfl <| .p (fun _ _ h => y_idx h rfl rfl U25 fct7 (0) rfl (by omega)) <| .loadCR hh (i := 81) rfl rfl U35 rfl fct7 <| .nil) ?_
  clear Hz Az; intro Az Hz
  refine d_three 1 5 11 rfl rfl rfl (by kernel_rfl) rfl rfl rfl (fun K hK => ?_) (fun K hK => ?_) (fun K hK => ?_)
  ·
   have m1081 := m1076.nilR 83 35 5
   clear m1076
   refine e_appR Hz m1081 83 rfl rfl rfl (m1081.rd (i := 70) rfl) U25 fct20 rfl rfl (by decide) (by simp; omega) rfl ?_
   clear Hz Az m1081; intro p1082 c1082 Az w1083 Hz m1083
   refine hK _ _ (fun _ => (m1083.to ⟨il, il, il, il, il, il, il, il, il, il, il, il, il, trivial⟩)) ?_; clear hK K
   refine d_two 5 11 rfl rfl (by kernel_rfl) rfl rfl (fun K hK => ?_) (fun K hK => ?_)
   ·
    refine e_litR Hz m1083 84 (mm := 5) rfl (.cons rfl rfl (.cons (.v _) (.cons (.v _) (.cons (.v _) (.cons (.v _) (.cons (m1083.rd (i := 82) rfl) .nil))))) <| .nil) U25 fct20 rfl rfl rfl rfl rfl ?_
    clear Hz Az m1083; intro g1084 Az w1085 Hz m1085
    refine hK _ _ (fun _ => (m1085.to ⟨il, il, il, il, il, il, il, il, il, il, il, il, il, trivial⟩)) ?_; clear hK K
    refine d_two 6 11 rfl rfl (by kernel_rfl) rfl rfl (fun K hK => ?_) (fun K hK => ?_)
    ·
     have m1087 := m1085.freezeR 84 rfl; clear m1085
     refine e_appR Hz m1087 83 rfl rfl rfl (m1087.rd (i := 84) rfl) U25 fct20 rfl rfl (by decide) (by simp; omega) rfl ?_
     clear Hz Az m1087; intro p1086 c1086 Az w1088 Hz m1088
     refine hK _ _ (fun _ => (m1088.to ⟨il, il, il, il, il, il, il, il, il, il, il, il, il, trivial⟩)) ?_; clear hK K
     refine d_two 7 11 rfl rfl (by kernel_rfl) rfl rfl (fun K hK => ?_) (fun K hK => ?_)
     ·
      have m1089 := m1088.freezeR 83 rfl; clear m1088
      have hE2 : ([] ++ (ss.map strD)) ++ [[.v (.int .i64 s0v.bl), .v (.int .i64 s0v.sz), .v (.int .i64 s0v.fr), .v (.int .i64 s0v.to), .l 2 (s0v.its.map itD)]] = (ss ++ [s0v]).map strD := by rw [List.nil_append, List.map_append]; rfl
      rw [hE2] at m1089 Hz
      refine e_call Hz Tryd.func10 rfl rfl rfl rfl (all_no (ss ++ [s0v]) _ _ _ _ ((m1089.rd (i := 83) rfl).any) (by simp; omega) (fun s hs => (hok s (by rcases List.mem_append.1 hs with h9 | h9; (exact h9); (rw [List.mem_singleton.1 h9]; exact List.mem_of_getElem? hs0))).1) (twice_no hsg (by omega) hs0)) ?_
      rintro e w1090 ⟨rfl, hb1090⟩
      have m1091 := m1089.later hb1090
      clear m1089
      clear hb1090
      refine ⟨_, rfl, ?_⟩; clear Hz Az; intro Az Hz
      refine hK _ _ (fun _ => (m1091.to ⟨il, il, il, il, il, il, il, il, il, il, il, il, il, trivial⟩)) ?_; clear hK K
      refine goA hP1076 [8, 9, 10] 3 255 2047 Hz (m1091.to ⟨il, il, il, il, il, il, il, il, il, il, il, il, il, trivial⟩) (.move rfl <| .extract rfl rfl <| .extract rfl rfl <| .nil) ?_
      clear Hz Az; intro Az Hz
      refine stepE_only 11 rfl (by kernel_rfl) rfl (fun K hK => ?_)
      refine e_alloc Hz m1091 85 fct21 rfl ?_
      clear Hz Az m1091; intro g1096 Az w1097 Hz m1097 hB1097 hg1097
      clear hB1097 hg1097
      refine hK _ _ (m1097.to ⟨il, il, il, il, il, il, il, il, il, il, il, il, il, trivial⟩) ?_; clear hK K
      refine stepE_end 12 rfl (by kernel_rfl) rfl (by rfl) (fun K hK => ?_)
      refine e_storeW Hz m1097 85 rfl rfl rfl rfl rfl fct7 ?_
      clear m1097; intro w1098 m1098 hB1098
      clear hB1098
      refine hK _ _ ?_; clear hK
      refine goB hP1076 [13] 1 8191 16383 Hz (.assign rfl <| .nil) ?_
      clear Hz Az; intro Az Hz
      refine wpAnyE_done (by kernel_rfl) ?_ _
      refine hK32 _ _ ?_; clear hK32
      replace Hz : Has 105 [(6, _), (12, _), (13, _), (15, _)] Az := Hz.only [6, 12, 13, 15]
      refine sr fun K33 hK33 => ?_
      refine goCh Hz (.move rfl <| .eql rfl rfl <| .move rfl <| .eqlB rfl rfl U4 <| .move rfl <| .nil) ?_
      clear Hz Az; intro Az Hz
      refine bool_cases Hz (t := 93) rfl ?_ ?_
      rotate_left
      · intro hb _; exact absurd hb (by first | (simp; done) | (simp [hf9]; done) | (simp; omega))
      clear Hz; intro _ Hz
      refine goCh Hz (.moveZ rfl <| .eqlZ rfl rfl <| .pickT rfl rfl <| .move rfl <| .nil) ?_
      clear Hz Az; intro Az Hz
      refine bool_cases Hz (t := 97) rfl ?_ ?_
      rotate_left
      · intro hb _; exact absurd hb (by first | (simp; done) | (simp [hf9]; done) | (simp; omega))
      clear Hz; intro _ Hz
      refine goCh Hz (.moveZ rfl <| .eqlZ rfl rfl <| .moveZ rfl <| .nil) ?_
      clear Hz Az; intro Az Hz
      refine bool_cases Hz (t := 100) rfl ?_ ?_
      · intro hb _; exact absurd hb (by first | (simp; done) | (simp [hf9]; done) | (simp; omega))
      clear Hz; intro _ Hz
      refine goCh Hz (.moveZ rfl <| .eqlZ rfl rfl <| .pickFZ rfl rfl <| .pickT rfl rfl <| .assign rfl <| .nil) ?_
      clear Hz Az; intro Az Hz
      refine nl (hK33 _ _ ?_); clear hK33
      refine wp_ret ?_
      try dsimp only [Exit.then, Exit.inBlock]
      refine (ret1 (fn := Tryd.f5) Hz rfl rfl ?_)
      exact ⟨by first | rfl | (simp; done) | (simp [hf9]; done), m1098.below⟩
     refine e_alloc Hz m1088 85 fct21 rfl ?_
     clear Hz Az m1088; intro g1126 Az w1127 Hz m1127 hB1127 hg1127
     clear hB1127 hg1127
     refine hK _ _ (fun _ => (m1127.to ⟨il, il, il, il, il, il, il, il, il, il, il, il, il, trivial⟩)) ?_; clear hK K
     have m1128 := m1127.freezeR 83 rfl; clear m1127
     have hE2 : ([] ++ (ss.map strD)) ++ [[.v (.int .i64 s0v.bl), .v (.int .i64 s0v.sz), .v (.int .i64 s0v.fr), .v (.int .i64 s0v.to), .l 2 (s0v.its.map itD)]] = (ss ++ [s0v]).map strD := by rw [List.nil_append, List.map_append]; rfl
     rw [hE2] at m1128 Hz
     refine stepE_only 7 rfl (by kernel_rfl) rfl (fun K hK => ?_)
     refine e_call Hz Tryd.func10 rfl rfl rfl rfl (all_no (ss ++ [s0v]) _ _ _ _ ((m1128.rd (i := 83) rfl).any) (by simp; omega) (fun s hs => (hok s (by rcases List.mem_append.1 hs with h9 | h9; (exact h9); (rw [List.mem_singleton.1 h9]; exact List.mem_of_getElem? hs0))).1) (twice_no hsg (by omega) hs0)) ?_
     rintro e w1129 ⟨rfl, hb1129⟩
     have m1130 := m1128.later hb1129
     clear m1128
     clear hb1129
     refine ⟨_, rfl, ?_⟩; clear Hz Az; intro Az Hz
     refine hK _ _ (m1130.to ⟨il, il, il, il, il, il, il, il, il, il, il, il, il, trivial⟩) ?_; clear hK K
     refine goA hP1076 [8, 9, 10] 3 2303 4095 Hz (m1130.to ⟨il, il, il, il, il, il, il, il, il, il, il, il, il, trivial⟩) (.move rfl <| .extract rfl rfl <| .extract rfl rfl <| .nil) ?_
     clear Hz Az; intro Az Hz
     refine stepE_end 12 rfl (by kernel_rfl) rfl (by rfl) (fun K hK => ?_)
     refine e_storeW Hz m1130 85 rfl rfl rfl rfl rfl fct7 ?_
     clear m1130; intro w1135 m1135 hB1135
     clear hB1135
     refine hK _ _ ?_; clear hK
     refine goB hP1076 [13] 1 8191 16383 Hz (.assign rfl <| .nil) ?_
     clear Hz Az; intro Az Hz
     refine wpAnyE_done (by kernel_rfl) ?_ _
     refine hK32 _ _ ?_; clear hK32
     replace Hz : Has 105 [(6, _), (12, _), (13, _), (15, _)] Az := Hz.only [6, 12, 13, 15]
     refine sr fun K34 hK34 => ?_
     refine goCh Hz (.move rfl <| .eql rfl rfl <| .move rfl <| .eqlB rfl rfl U4 <| .move rfl <| .nil) ?_
     clear Hz Az; intro Az Hz
     refine bool_cases Hz (t := 93) rfl ?_ ?_
     rotate_left
     · intro hb _; exact absurd hb (by first | (simp; done) | (simp [hf9]; done) | (simp; omega))
     clear Hz; intro _ Hz
     refine goCh Hz (.moveZ rfl <| .eqlZ rfl rfl <| .pickT rfl rfl <| .move rfl <| .nil) ?_
     clear Hz Az; intro Az Hz
     refine bool_cases Hz (t := 97) rfl ?_ ?_
     rotate_left
     · intro hb _; exact absurd hb (by first | (simp; done) | (simp [hf9]; done) | (simp; omega))
     clear Hz; intro _ Hz
     refine goCh Hz (.moveZ rfl <| .eqlZ rfl rfl <| .moveZ rfl <| .nil) ?_
     clear Hz Az; intro Az Hz
     refine bool_cases Hz (t := 100) rfl ?_ ?_
     · intro hb _; exact absurd hb (by first | (simp; done) | (simp [hf9]; done) | (simp; omega))
     clear Hz; intro _ Hz
     refine goCh Hz (.moveZ rfl <| .eqlZ rfl rfl <| .pickFZ rfl rfl <| .pickT rfl rfl <| .assign rfl <| .nil) ?_
     clear Hz Az; intro Az Hz
     refine nl (hK34 _ _ ?_); clear hK34
     refine wp_ret ?_
     try dsimp only [Exit.then, Exit.inBlock]
     refine (ret1 (fn := Tryd.f5) Hz rfl rfl ?_)
     exact ⟨by first | rfl | (simp; done) | (simp [hf9]; done), m1135.below⟩
    refine e_alloc Hz m1085 85 fct21 rfl ?_
    clear Hz Az m1085; intro g1163 Az w1164 Hz m1164 hB1164 hg1164
    clear hB1164 hg1164
    refine hK _ _ (fun _ => (m1164.to ⟨il, il, il, il, il, il, il, il, il, il, il, il, il, trivial⟩)) ?_; clear hK K
    have m1166 := m1164.freezeR 84 rfl; clear m1164
    refine stepE_only 6 rfl (by kernel_rfl) rfl (fun K hK => ?_)
    refine e_appR Hz m1166 83 rfl rfl rfl (m1166.rd (i := 84) rfl) U25 fct20 rfl rfl (by decide) (by simp; omega) rfl ?_
    clear Hz Az m1166; intro p1165 c1165 Az w1167 Hz m1167
    refine hK _ _ (m1167.to ⟨il, il, il, il, il, il, il, il, il, il, il, il, il, trivial⟩) ?_; clear hK K
    have m1168 := m1167.freezeR 83 rfl; clear m1167
    have hE2 : ([] ++ (ss.map strD)) ++ [[.v (.int .i64 s0v.bl), .v (.int .i64 s0v.sz), .v (.int .i64 s0v.fr), .v (.int .i64 s0v.to), .l 2 (s0v.its.map itD)]] = (ss ++ [s0v]).map strD := by rw [List.nil_append, List.map_append]; rfl
    rw [hE2] at m1168 Hz
    refine stepE_only 7 rfl (by kernel_rfl) rfl (fun K hK => ?_)
    refine e_call Hz Tryd.func10 rfl rfl rfl rfl (all_no (ss ++ [s0v]) _ _ _ _ ((m1168.rd (i := 83) rfl).any) (by simp; omega) (fun s hs => (hok s (by rcases List.mem_append.1 hs with h9 | h9; (exact h9); (rw [List.mem_singleton.1 h9]; exact List.mem_of_getElem? hs0))).1) (twice_no hsg (by omega) hs0)) ?_
    rintro e w1169 ⟨rfl, hb1169⟩
    have m1170 := m1168.later hb1169
    clear m1168
    clear hb1169
    refine ⟨_, rfl, ?_⟩; clear Hz Az; intro Az Hz
    refine hK _ _ (m1170.to ⟨il, il, il, il, il, il, il, il, il, il, il, il, il, trivial⟩) ?_; clear hK K
    refine goA hP1076 [8, 9, 10] 3 2303 4095 Hz (m1170.to ⟨il, il, il, il, il, il, il, il, il, il, il, il, il, trivial⟩) (.move rfl <| .extract rfl rfl <| .extract rfl rfl <| .nil) ?_
    clear Hz Az; intro Az Hz
    refine stepE_end 12 rfl (by kernel_rfl) rfl (by rfl) (fun K hK => ?_)
    refine e_storeW Hz m1170 85 rfl rfl rfl rfl rfl fct7 ?_
    clear m1170; intro w1175 m1175 hB1175
    clear hB1175
    refine hK _ _ ?_; clear hK
    refine goB hP1076 [13] 1 8191 16383 Hz (.assign rfl <| .nil) ?_
    clear Hz Az; intro Az Hz
    refine wpAnyE_done (by kernel_rfl) ?_ _
    refine hK32 _ _ ?_; clear hK32
    replace Hz : Has 105 [(6, _), (12, _), (13, _), (15, _)] Az := Hz.only [6, 12, 13, 15]
    refine sr fun K35 hK35 => ?_
    refine goCh Hz (.move rfl <| .eql rfl rfl <| .move rfl <| .eqlB rfl rfl U4 <| .move rfl <| .nil) ?_
    clear Hz Az; intro Az Hz
    refine bool_cases Hz (t := 93) rfl ?_ ?_
    rotate_left
    · intro hb _; exact absurd hb (by first | (simp; done) | (simp [hf9]; done) | (simp; omega))
    clear Hz; intro _ Hz
    refine goCh Hz (.moveZ rfl <| .eqlZ rfl rfl <| .pickT rfl rfl <| .move rfl <| .nil) ?_
    clear Hz Az; intro Az Hz
    refine bool_cases Hz (t := 97) rfl ?_ ?_
    rotate_left
    · intro hb _; exact absurd hb (by first | (simp; done) | (simp [hf9]; done) | (simp; omega))
    clear Hz; intro _ Hz
    refine goCh Hz (.moveZ rfl <| .eqlZ rfl rfl <| .moveZ rfl <| .nil) ?_
    clear Hz Az; intro Az Hz
    refine bool_cases Hz (t := 100) rfl ?_ ?_
    · intro hb _; exact absurd hb (by first | (simp; done) | (simp [hf9]; done) | (simp; omega))
    clear Hz; intro _ Hz
    refine goCh Hz (.moveZ rfl <| .eqlZ rfl rfl <| .pickFZ rfl rfl <| .pickT rfl rfl <| .assign rfl <| .nil) ?_
    clear Hz Az; intro Az Hz
    refine nl (hK35 _ _ ?_); clear hK35
    refine wp_ret ?_
    try dsimp only [Exit.then, Exit.inBlock]
    refine (ret1 (fn := Tryd.f5) Hz rfl rfl ?_)
    exact ⟨by first | rfl | (simp; done) | (simp [hf9]; done), m1175.below⟩
   refine e_alloc Hz m1083 84 fct21 rfl ?_
   clear Hz Az m1083; intro g1203 Az w1204 Hz m1204 hB1204 hg1204
   clear hB1204 hg1204
   refine hK _ _ (fun _ => (m1204.to ⟨il, il, il, il, il, il, il, il, il, il, il, il, il, trivial⟩)) ?_; clear hK K
   refine stepE_only 5 rfl (by kernel_rfl) rfl (fun K hK => ?_)
   refine e_litR Hz m1204 85 (mm := 5) rfl (.cons rfl rfl (.cons (.v _) (.cons (.v _) (.cons (.v _) (.cons (.v _) (.cons (m1204.rd (i := 82) rfl) .nil))))) <| .nil) U25 fct20 rfl rfl rfl rfl rfl ?_
   clear Hz Az m1204; intro g1205 Az w1206 Hz m1206
   refine hK _ _ (m1206.to ⟨il, il, il, il, il, il, il, il, il, il, il, il, il, trivial⟩) ?_; clear hK K
   have m1208 := m1206.freezeR 85 rfl; clear m1206
   refine stepE_only 6 rfl (by kernel_rfl) rfl (fun K hK => ?_)
   refine e_appR Hz m1208 83 rfl rfl rfl (m1208.rd (i := 85) rfl) U25 fct20 rfl rfl (by decide) (by simp; omega) rfl ?_
   clear Hz Az m1208; intro p1207 c1207 Az w1209 Hz m1209
   refine hK _ _ (m1209.to ⟨il, il, il, il, il, il, il, il, il, il, il, il, il, trivial⟩) ?_; clear hK K
   have m1210 := m1209.freezeR 83 rfl; clear m1209
   have hE2 : ([] ++ (ss.map strD)) ++ [[.v (.int .i64 s0v.bl), .v (.int .i64 s0v.sz), .v (.int .i64 s0v.fr), .v (.int .i64 s0v.to), .l 2 (s0v.its.map itD)]] = (ss ++ [s0v]).map strD := by rw [List.nil_append, List.map_append]; rfl
   rw [hE2] at m1210 Hz
   refine stepE_only 7 rfl (by kernel_rfl) rfl (fun K hK => ?_)
   refine e_call Hz Tryd.func10 rfl rfl rfl rfl (all_no (ss ++ [s0v]) _ _ _ _ ((m1210.rd (i := 83) rfl).any) (by simp; omega) (fun s hs => (hok s (by rcases List.mem_append.1 hs with h9 | h9; (exact h9); (rw [List.mem_singleton.1 h9]; exact List.mem_of_getElem? hs0))).1) (twice_no hsg (by omega) hs0)) ?_
   rintro e w1211 ⟨rfl, hb1211⟩
   have m1212 := m1210.later hb1211
   clear m1210
   clear hb1211
   refine ⟨_, rfl, ?_⟩; clear Hz Az; intro Az Hz
   refine hK _ _ (m1212.to ⟨il, il, il, il, il, il, il, il, il, il, il, il, il, trivial⟩) ?_; clear hK K
   refine goA hP1076 [8, 9, 10] 3 2303 4095 Hz (m1212.to ⟨il, il, il, il, il, il, il, il, il, il, il, il, il, trivial⟩) (.move rfl <| .extract rfl rfl <| .extract rfl rfl <| .nil) ?_
   clear Hz Az; intro Az Hz
   refine stepE_end 12 rfl (by kernel_rfl) rfl (by rfl) (fun K hK => ?_)
   refine e_storeW Hz m1212 84 rfl rfl rfl rfl rfl fct7 ?_
   clear m1212; intro w1217 m1217 hB1217
   clear hB1217
   refine hK _ _ ?_; clear hK
   refine goB hP1076 [13] 1 8191 16383 Hz (.assign rfl <| .nil) ?_
   clear Hz Az; intro Az Hz
   refine wpAnyE_done (by kernel_rfl) ?_ _
   refine hK32 _ _ ?_; clear hK32
   replace Hz : Has 105 [(6, _), (12, _), (13, _), (15, _)] Az := Hz.only [6, 12, 13, 15]
   refine sr fun K36 hK36 => ?_
   refine goCh Hz (.move rfl <| .eql rfl rfl <| .move rfl <| .eqlB rfl rfl U4 <| .move rfl <| .nil) ?_
   clear Hz Az; intro Az Hz
   refine bool_cases Hz (t := 93) rfl ?_ ?_
   rotate_left
   · intro hb _; exact absurd hb (by first | (simp; done) | (simp [hf9]; done) | (simp; omega))
   clear Hz; intro _ Hz
   refine goCh Hz (.moveZ rfl <| .eqlZ rfl rfl <| .pickT rfl rfl <| .move rfl <| .nil) ?_
   clear Hz Az; intro Az Hz
   refine bool_cases Hz (t := 97) rfl ?_ ?_
   rotate_left
   · intro hb _; exact absurd hb (by first | (simp; done) | (simp [hf9]; done) | (simp; omega))
   clear Hz; intro _ Hz
   refine goCh Hz (.moveZ rfl <| .eqlZ rfl rfl <| .moveZ rfl <| .nil) ?_
   clear Hz Az; intro Az Hz
   refine bool_cases Hz (t := 100) rfl ?_ ?_
   · intro hb _; exact absurd hb (by first | (simp; done) | (simp [hf9]; done) | (simp; omega))
   clear Hz; intro _ Hz
   refine goCh Hz (.moveZ rfl <| .eqlZ rfl rfl <| .pickFZ rfl rfl <| .pickT rfl rfl <| .assign rfl <| .nil) ?_
   clear Hz Az; intro Az Hz
   refine nl (hK36 _ _ ?_); clear hK36
   refine wp_ret ?_
   try dsimp only [Exit.then, Exit.inBlock]
   refine (ret1 (fn := Tryd.f5) Hz rfl rfl ?_)
   exact ⟨by first | rfl | (simp; done) | (simp [hf9]; done), m1217.below⟩
  ·
   refine e_litR Hz m1076 83 (mm := 5) rfl (.cons rfl rfl (.cons (.v _) (.cons (.v _) (.cons (.v _) (.cons (.v _) (.cons (m1076.rd (i := 82) rfl) .nil))))) <| .nil) U25 fct20 rfl rfl rfl rfl rfl ?_
   clear Hz Az m1076; intro g1245 Az w1246 Hz m1246
   refine hK _ _ (fun _ => (m1246.to ⟨il, il, il, il, il, il, il, il, il, il, il, il, il, trivial⟩)) ?_; clear hK K
   refine d_two 1 11 rfl rfl (by kernel_rfl) rfl rfl (fun K hK => ?_) (fun K hK => ?_)
   ·
    have m1247 := m1246.nilR 84 35 5
    clear m1246
    refine e_appR Hz m1247 84 rfl rfl rfl (m1247.rd (i := 70) rfl) U25 fct20 rfl rfl (by decide) (by simp; omega) rfl ?_
    clear Hz Az m1247; intro p1248 c1248 Az w1249 Hz m1249
    refine hK _ _ (fun _ => (m1249.to ⟨il, il, il, il, il, il, il, il, il, il, il, il, il, trivial⟩)) ?_; clear hK K
    refine d_two 6 11 rfl rfl (by kernel_rfl) rfl rfl (fun K hK => ?_) (fun K hK => ?_)
    ·
     have m1251 := m1249.freezeR 83 rfl; clear m1249
     refine e_appR Hz m1251 84 rfl rfl rfl (m1251.rd (i := 83) rfl) U25 fct20 rfl rfl (by decide) (by simp; omega) rfl ?_
     clear Hz Az m1251; intro p1250 c1250 Az w1252 Hz m1252
     refine hK _ _ (fun _ => (m1252.to ⟨il, il, il, il, il, il, il, il, il, il, il, il, il, trivial⟩)) ?_; clear hK K
     refine d_two 7 11 rfl rfl (by kernel_rfl) rfl rfl (fun K hK => ?_) (fun K hK => ?_)
     ·
      have m1253 := m1252.freezeR 84 rfl; clear m1252
      have hE2 : ([] ++ (ss.map strD)) ++ [[.v (.int .i64 s0v.bl), .v (.int .i64 s0v.sz), .v (.int .i64 s0v.fr), .v (.int .i64 s0v.to), .l 2 (s0v.its.map itD)]] = (ss ++ [s0v]).map strD := by rw [List.nil_append, List.map_append]; rfl
      rw [hE2] at m1253 Hz
      refine e_call Hz Tryd.func10 rfl rfl rfl rfl (all_no (ss ++ [s0v]) _ _ _ _ ((m1253.rd (i := 84) rfl).any) (by simp; omega) (fun s hs => (hok s (by rcases List.mem_append.1 hs with h9 | h9; (exact h9); (rw [List.mem_singleton.1 h9]; exact List.mem_of_getElem? hs0))).1) (twice_no hsg (by omega) hs0)) ?_
      rintro e w1254 ⟨rfl, hb1254⟩
      have m1255 := m1253.later hb1254
      clear m1253
      clear hb1254
      refine ⟨_, rfl, ?_⟩; clear Hz Az; intro Az Hz
      refine hK _ _ (fun _ => (m1255.to ⟨il, il, il, il, il, il, il, il, il, il, il, il, il, trivial⟩)) ?_; clear hK K
      refine goA hP1076 [8, 9, 10] 3 255 2047 Hz (m1255.to ⟨il, il, il, il, il, il, il, il, il, il, il, il, il, trivial⟩) (.move rfl <| .extract rfl rfl <| .extract rfl rfl <| .nil) ?_
      clear Hz Az; intro Az Hz
      refine stepE_only 11 rfl (by kernel_rfl) rfl (fun K hK => ?_)
      refine e_alloc Hz m1255 85 fct21 rfl ?_
      clear Hz Az m1255; intro g1260 Az w1261 Hz m1261 hB1261 hg1261
      clear hB1261 hg1261
      refine hK _ _ (m1261.to ⟨il, il, il, il, il, il, il, il, il, il, il, il, il, trivial⟩) ?_; clear hK K
      refine stepE_end 12 rfl (by kernel_rfl) rfl (by rfl) (fun K hK => ?_)
      refine e_storeW Hz m1261 85 rfl rfl rfl rfl rfl fct7 ?_
      clear m1261; intro w1262 m1262 hB1262
      clear hB1262
      refine hK _ _ ?_; clear hK
      refine goB hP1076 [13] 1 8191 16383 Hz (.assign rfl <| .nil) ?_
      clear Hz Az; intro Az Hz
      refine wpAnyE_done (by kernel_rfl) ?_ _
      refine hK32 _ _ ?_; clear hK32
      replace Hz : Has 105 [(6, _), (12, _), (13, _), (15, _)] Az := Hz.only [6, 12, 13, 15]
      refine sr fun K37 hK37 => ?_
      refine goCh Hz (.move rfl <| .eql rfl rfl <| .move rfl <| .eqlB rfl rfl U4 <| .move rfl <| .nil) ?_
      clear Hz Az; intro Az Hz
      refine bool_cases Hz (t := 93) rfl ?_ ?_
      rotate_left
      · intro hb _; exact absurd hb (by first | (simp; done) | (simp [hf9]; done) | (simp; omega))
      clear Hz; intro _ Hz
      refine goCh Hz (.moveZ rfl <| .eqlZ rfl rfl <| .pickT rfl rfl <| .move rfl <| .nil) ?_
      clear Hz Az; intro Az Hz
      refine bool_cases Hz (t := 97) rfl ?_ ?_
      rotate_left
      · intro hb _; exact absurd hb (by first | (simp; done) | (simp [hf9]; done) | (simp; omega))
      clear Hz; intro _ Hz
      refine goCh Hz (.moveZ rfl <| .eqlZ rfl rfl <| .moveZ rfl <| .nil) ?_
      clear Hz Az; intro Az Hz
      refine bool_cases Hz (t := 100) rfl ?_ ?_
      · intro hb _; exact absurd hb (by first | (simp; done) | (simp [hf9]; done) | (simp; omega))
      clear Hz; intro _ Hz
      refine goCh Hz (.moveZ rfl <| .eqlZ rfl rfl <| .pickFZ rfl rfl <| .pickT rfl rfl <| .assign rfl <| .nil) ?_
      clear Hz Az; intro Az Hz
      refine nl (hK37 _ _ ?_); clear hK37
      refine wp_ret ?_
      try dsimp only [Exit.then, Exit.inBlock]
      refine (ret1 (fn := Tryd.f5) Hz rfl rfl ?_)
      exact ⟨by first | rfl | (simp; done) | (simp [hf9]; done), m1262.below⟩
     refine e_alloc Hz m1252 85 fct21 rfl ?_
     clear Hz Az m1252; intro g1290 Az w1291 Hz m1291 hB1291 hg1291
     clear hB1291 hg1291
     refine hK _ _ (fun _ => (m1291.to ⟨il, il, il, il, il, il, il, il, il, il, il, il, il, trivial⟩)) ?_; clear hK K
     have m1292 := m1291.freezeR 84 rfl; clear m1291
     have hE2 : ([] ++ (ss.map strD)) ++ [[.v (.int .i64 s0v.bl), .v (.int .i64 s0v.sz), .v (.int .i64 s0v.fr), .v (.int .i64 s0v.to), .l 2 (s0v.its.map itD)]] = (ss ++ [s0v]).map strD := by rw [List.nil_append, List.map_append]; rfl
     rw [hE2] at m1292 Hz
     refine stepE_only 7 rfl (by kernel_rfl) rfl (fun K hK => ?_)
     refine e_call Hz Tryd.func10 rfl rfl rfl rfl (all_no (ss ++ [s0v]) _ _ _ _ ((m1292.rd (i := 84) rfl).any) (by simp; omega) (fun s hs => (hok s (by rcases List.mem_append.1 hs with h9 | h9; (exact h9); (rw [List.mem_singleton.1 h9]; exact List.mem_of_getElem? hs0))).1) (twice_no hsg (by omega) hs0)) ?_
     rintro e w1293 ⟨rfl, hb1293⟩
     have m1294 := m1292.later hb1293
     clear m1292
     clear hb1293
     refine ⟨_, rfl, ?_⟩; clear Hz Az; intro Az Hz
     refine hK _ _ (m1294.to ⟨il, il, il, il, il, il, il, il, il, il, il, il, il, trivial⟩) ?_; clear hK K
     refine goA hP1076 [8, 9, 10] 3 2303 4095 Hz (m1294.to ⟨il, il, il, il, il, il, il, il, il, il, il, il, il, trivial⟩) (.move rfl <| .extract rfl rfl <| .extract rfl rfl <| .nil) ?_
     clear Hz Az; intro Az Hz
     refine stepE_end 12 rfl (by kernel_rfl) rfl (by rfl) (fun K hK => ?_)
     refine e_storeW Hz m1294 85 rfl rfl rfl rfl rfl fct7 ?_
     clear m1294; intro w1299 m1299 hB1299
     clear hB1299
     refine hK _ _ ?_; clear hK
     refine goB hP1076 [13] 1 8191 16383 Hz (.assign rfl <| .nil) ?_
     clear Hz Az; intro Az Hz
     refine wpAnyE_done (by kernel_rfl) ?_ _
     refine hK32 _ _ ?_; clear hK32
     replace Hz : Has 105 [(6, _), (12, _), (13, _), (15, _)] Az := Hz.only [6, 12, 13, 15]
     refine sr fun K38 hK38 => ?_
     refine goCh Hz (.move rfl <| .eql rfl rfl <| .move rfl <| .eqlB rfl rfl U4 <| .move rfl <| .nil) ?_
     clear Hz Az; intro Az Hz
     refine bool_cases Hz (t := 93) rfl ?_ ?_
     rotate_left
     · intro hb _; exact absurd hb (by first | (simp; done) | (simp [hf9]; done) | (simp; omega))
     clear Hz; intro _ Hz
     refine goCh Hz (.moveZ rfl <| .eqlZ rfl rfl <| .pickT rfl rfl <| .move rfl <| .nil) ?_
     clear Hz Az; intro Az Hz
     refine bool_cases Hz (t := 97) rfl ?_ ?_
     rotate_left
     · intro hb _; exact absurd hb (by first | (simp; done) | (simp [hf9]; done) | (simp; omega))
     clear Hz; intro _ Hz
     refine goCh Hz (.moveZ rfl <| .eqlZ rfl rfl <| .moveZ rfl <| .nil) ?_
     clear Hz Az; intro Az Hz
     refine bool_cases Hz (t := 100) rfl ?_ ?_
     · intro hb _; exact absurd hb (by first | (simp; done) | (simp [hf9]; done) | (simp; omega))
     clear Hz; intro _ Hz
     refine goCh Hz (.moveZ rfl <| .eqlZ rfl rfl <| .pickFZ rfl rfl <| .pickT rfl rfl <| .assign rfl <| .nil) ?_
     clear Hz Az; intro Az Hz
     refine nl (hK38 _ _ ?_); clear hK38
     refine wp_ret ?_
     try dsimp only [Exit.then, Exit.inBlock]
     refine (ret1 (fn := Tryd.f5) Hz rfl rfl ?_)
     exact ⟨by first | rfl | (simp; done) | (simp [hf9]; done), m1299.below⟩
    refine e_alloc Hz m1249 85 fct21 rfl ?_
    clear Hz Az m1249; intro g1327 Az w1328 Hz m1328 hB1328 hg1328
    clear hB1328 hg1328
    refine hK _ _ (fun _ => (m1328.to ⟨il, il, il, il, il, il, il, il, il, il, il, il, il, trivial⟩)) ?_; clear hK K
    have m1330 := m1328.freezeR 83 rfl; clear m1328
    refine stepE_only 6 rfl (by kernel_rfl) rfl (fun K hK => ?_)
    refine e_appR Hz m1330 84 rfl rfl rfl (m1330.rd (i := 83) rfl) U25 fct20 rfl rfl (by decide) (by simp; omega) rfl ?_
    clear Hz Az m1330; intro p1329 c1329 Az w1331 Hz m1331
    refine hK _ _ (m1331.to ⟨il, il, il, il, il, il, il, il, il, il, il, il, il, trivial⟩) ?_; clear hK K
    have m1332 := m1331.freezeR 84 rfl; clear m1331
    have hE2 : ([] ++ (ss.map strD)) ++ [[.v (.int .i64 s0v.bl), .v (.int .i64 s0v.sz), .v (.int .i64 s0v.fr), .v (.int .i64 s0v.to), .l 2 (s0v.its.map itD)]] = (ss ++ [s0v]).map strD := by rw [List.nil_append, List.map_append]; rfl
    rw [hE2] at m1332 Hz
    refine stepE_only 7 rfl (by kernel_rfl) rfl (fun K hK => ?_)
    refine e_call Hz Tryd.func10 rfl rfl rfl rfl (all_no (ss ++ [s0v]) _ _ _ _ ((m1332.rd (i := 84) rfl).any) (by simp; omega) (fun s hs => (hok s (by rcases List.mem_append.1 hs with h9 | h9; (exact h9); (rw [List.mem_singleton.1 h9]; exact List.mem_of_getElem? hs0))).1) (twice_no hsg (by omega) hs0)) ?_
    rintro e w1333 ⟨rfl, hb1333⟩
    have m1334 := m1332.later hb1333
    clear m1332
    clear hb1333
    refine ⟨_, rfl, ?_⟩; clear Hz Az; intro Az Hz
    refine hK _ _ (m1334.to ⟨il, il, il, il, il, il, il, il, il, il, il, il, il, trivial⟩) ?_; clear hK K
    refine goA hP1076 [8, 9, 10] 3 2303 4095 Hz (m1334.to ⟨il, il, il, il, il, il, il, il, il, il, il, il, il, trivial⟩) (.move rfl <| .extract rfl rfl <| .extract rfl rfl <| .nil) ?_
    clear Hz Az; intro Az Hz
    refine stepE_end 12 rfl (by kernel_rfl) rfl (by rfl) (fun K hK => ?_)
    refine e_storeW Hz m1334 85 rfl rfl rfl rfl rfl fct7 ?_
    clear m1334; intro w1339 m1339 hB1339
    clear hB1339
    refine hK _ _ ?_; clear hK
    refine goB hP1076 [13] 1 8191 16383 Hz (.assign rfl <| .nil) ?_
    clear Hz Az; intro Az Hz
    refine wpAnyE_done (by kernel_rfl) ?_ _
    refine hK32 _ _ ?_; clear hK32
    replace Hz : Has 105 [(6, _), (12, _), (13, _), (15, _)] Az := Hz.only [6, 12, 13, 15]
    refine sr fun K39 hK39 => ?_
    refine goCh Hz (.move rfl <| .eql rfl rfl <| .move rfl <| .eqlB rfl rfl U4 <| .move rfl <| .nil) ?_
    clear Hz Az; intro Az Hz
    refine bool_cases Hz (t := 93) rfl ?_ ?_
    rotate_left
    · intro hb _; exact absurd hb (by first | (simp; done) | (simp [hf9]; done) | (simp; omega))
    clear Hz; intro _ Hz
    refine goCh Hz (.moveZ rfl <| .eqlZ rfl rfl <| .pickT rfl rfl <| .move rfl <| .nil) ?_
    clear Hz Az; intro Az Hz
    refine bool_cases Hz (t := 97) rfl ?_ ?_
    rotate_left
    · intro hb _; exact absurd hb (by first | (simp; done) | (simp [hf9]; done) | (simp; omega))
    clear Hz; intro _ Hz
    refine goCh Hz (.moveZ rfl <| .eqlZ rfl rfl <| .moveZ rfl <| .nil) ?_
    clear Hz Az; intro Az Hz
    refine bool_cases Hz (t := 100) rfl ?_ ?_
    · intro hb _; exact absurd hb (by first | (simp; done) | (simp [hf9]; done) | (simp; omega))
    clear Hz; intro _ Hz
    refine goCh Hz (.moveZ rfl <| .eqlZ rfl rfl <| .pickFZ rfl rfl <| .pickT rfl rfl <| .assign rfl <| .nil) ?_
    clear Hz Az; intro Az Hz
    refine nl (hK39 _ _ ?_); clear hK39
    refine wp_ret ?_
    try dsimp only [Exit.then, Exit.inBlock]
    refine (ret1 (fn := Tryd.f5) Hz rfl rfl ?_)
    exact ⟨by first | rfl | (simp; done) | (simp [hf9]; done), m1339.below⟩
   refine e_alloc Hz m1246 84 fct21 rfl ?_
   clear Hz Az m1246; intro g1367 Az w1368 Hz m1368 hB1368 hg1368
   clear hB1368 hg1368
   refine hK _ _ (fun _ => (m1368.to ⟨il, il, il, il, il, il, il, il, il, il, il, il, il, trivial⟩)) ?_; clear hK K
   have m1369 := m1368.nilR 85 35 5
   clear m1368
   refine stepE_only 1 rfl (by kernel_rfl) rfl (fun K hK => ?_)
   refine e_appR Hz m1369 85 rfl rfl rfl (m1369.rd (i := 70) rfl) U25 fct20 rfl rfl (by decide) (by simp; omega) rfl ?_
   clear Hz Az m1369; intro p1370 c1370 Az w1371 Hz m1371
   refine hK _ _ (m1371.to ⟨il, il, il, il, il, il, il, il, il, il, il, il, il, trivial⟩) ?_; clear hK K
   have m1373 := m1371.freezeR 83 rfl; clear m1371
   refine stepE_only 6 rfl (by kernel_rfl) rfl (fun K hK => ?_)
   refine e_appR Hz m1373 85 rfl rfl rfl (m1373.rd (i := 83) rfl) U25 fct20 rfl rfl (by decide) (by simp; omega) rfl ?_
   clear Hz Az m1373; intro p1372 c1372 Az w1374 Hz m1374
   refine hK _ _ (m1374.to ⟨il, il, il, il, il, il, il, il, il, il, il, il, il, trivial⟩) ?_; clear hK K
   have m1375 := m1374.freezeR 85 rfl; clear m1374
   have hE2 : ([] ++ (ss.map strD)) ++ [[.v (.int .i64 s0v.bl), .v (.int .i64 s0v.sz), .v (.int .i64 s0v.fr), .v (.int .i64 s0v.to), .l 2 (s0v.its.map itD)]] = (ss ++ [s0v]).map strD := by rw [List.nil_append, List.map_append]; rfl
   rw [hE2] at m1375 Hz
   refine stepE_only 7 rfl (by kernel_rfl) rfl (fun K hK => ?_)
   refine e_call Hz Tryd.func10 rfl rfl rfl rfl (all_no (ss ++ [s0v]) _ _ _ _ ((m1375.rd (i := 85) rfl).any) (by simp; omega) (fun s hs => (hok s (by rcases List.mem_append.1 hs with h9 | h9; (exact h9); (rw [List.mem_singleton.1 h9]; exact List.mem_of_getElem? hs0))).1) (twice_no hsg (by omega) hs0)) ?_
   rintro e w1376 ⟨rfl, hb1376⟩
   have m1377 := m1375.later hb1376
   clear m1375
   clear hb1376
   refine ⟨_, rfl, ?_⟩; clear Hz Az; intro Az Hz
   refine hK _ _ (m1377.to ⟨il, il, il, il, il, il, il, il, il, il, il, il, il, trivial⟩) ?_; clear hK K
   refine goA hP1076 [8, 9, 10] 3 2303 4095 Hz (m1377.to ⟨il, il, il, il, il, il, il, il, il, il, il, il, il, trivial⟩) (.move rfl <| .extract rfl rfl <| .extract rfl rfl <| .nil) ?_
   clear Hz Az; intro Az Hz
   refine stepE_end 12 rfl (by kernel_rfl) rfl (by rfl) (fun K hK => ?_)
   refine e_storeW Hz m1377 84 rfl rfl rfl rfl rfl fct7 ?_
   clear m1377; intro w1382 m1382 hB1382
   clear hB1382
   refine hK _ _ ?_; clear hK
   refine goB hP1076 [13] 1 8191 16383 Hz (.assign rfl <| .nil) ?_
   clear Hz Az; intro Az Hz
   refine wpAnyE_done (by kernel_rfl) ?_ _
   refine hK32 _ _ ?_; clear hK32
   replace Hz : Has 105 [(6, _), (12, _), (13, _), (15, _)] Az := Hz.only [6, 12, 13, 15]
   refine sr fun K40 hK40 => ?_
   refine goCh Hz (.move rfl <| .eql rfl rfl <| .move rfl <| .eqlB rfl rfl U4 <| .move rfl <| .nil) ?_
   clear Hz Az; intro Az Hz
   refine bool_cases Hz (t := 93) rfl ?_ ?_
   rotate_left
   · intro hb _; exact absurd hb (by first | (simp; done) | (simp [hf9]; done) | (simp; omega))
   clear Hz; intro _ Hz
   refine goCh Hz (.moveZ rfl <| .eqlZ rfl rfl <| .pickT rfl rfl <| .move rfl <| .nil) ?_
   clear Hz Az; intro Az Hz
   refine bool_cases Hz (t := 97) rfl ?_ ?_
   rotate_left
   · intro hb _; exact absurd hb (by first | (simp; done) | (simp [hf9]; done) | (simp; omega))
   clear Hz; intro _ Hz
   refine goCh Hz (.moveZ rfl <| .eqlZ rfl rfl <| .moveZ rfl <| .nil) ?_
   clear Hz Az; intro Az Hz
   refine bool_cases Hz (t := 100) rfl ?_ ?_
   · intro hb _; exact absurd hb (by first | (simp; done) | (simp [hf9]; done) | (simp; omega))
   clear Hz; intro _ Hz
   refine goCh Hz (.moveZ rfl <| .eqlZ rfl rfl <| .pickFZ rfl rfl <| .pickT rfl rfl <| .assign rfl <| .nil) ?_
   clear Hz Az; intro Az Hz
   refine nl (hK40 _ _ ?_); clear hK40
   refine wp_ret ?_
   try dsimp only [Exit.then, Exit.inBlock]
   refine (ret1 (fn := Tryd.f5) Hz rfl rfl ?_)
   exact ⟨by first | rfl | (simp; done) | (simp [hf9]; done), m1382.below⟩
  refine e_alloc Hz m1076 83 fct21 rfl ?_
  clear Hz Az m1076; intro g1410 Az w1411 Hz m1411 hB1411 hg1411
  clear hB1411 hg1411
  refine hK _ _ (fun _ => (m1411.to ⟨il, il, il, il, il, il, il, il, il, il, il, il, il, trivial⟩)) ?_; clear hK K
  refine d_two 1 5 rfl rfl (by kernel_rfl) rfl rfl (fun K hK => ?_) (fun K hK => ?_)
  ·
   have m1412 := m1411.nilR 84 35 5
   clear m1411
   refine e_appR Hz m1412 84 rfl rfl rfl (m1412.rd (i := 70) rfl) U25 fct20 rfl rfl (by decide) (by simp; omega) rfl ?_
   clear Hz Az m1412; intro p1413 c1413 Az w1414 Hz m1414
   refine hK _ _ (fun _ => (m1414.to ⟨il, il, il, il, il, il, il, il, il, il, il, il, il, trivial⟩)) ?_; clear hK K
   refine stepE_only 5 rfl (by kernel_rfl) rfl (fun K hK => ?_)
   refine e_litR Hz m1414 85 (mm := 5) rfl (.cons rfl rfl (.cons (.v _) (.cons (.v _) (.cons (.v _) (.cons (.v _) (.cons (m1414.rd (i := 82) rfl) .nil))))) <| .nil) U25 fct20 rfl rfl rfl rfl rfl ?_
   clear Hz Az m1414; intro g1415 Az w1416 Hz m1416
   refine hK _ _ (m1416.to ⟨il, il, il, il, il, il, il, il, il, il, il, il, il, trivial⟩) ?_; clear hK K
   have m1418 := m1416.freezeR 85 rfl; clear m1416
   refine stepE_only 6 rfl (by kernel_rfl) rfl (fun K hK => ?_)
   refine e_appR Hz m1418 84 rfl rfl rfl (m1418.rd (i := 85) rfl) U25 fct20 rfl rfl (by decide) (by simp; omega) rfl ?_
   clear Hz Az m1418; intro p1417 c1417 Az w1419 Hz m1419
   refine hK _ _ (m1419.to ⟨il, il, il, il, il, il, il, il, il, il, il, il, il, trivial⟩) ?_; clear hK K
   have m1420 := m1419.freezeR 84 rfl; clear m1419
   have hE2 : ([] ++ (ss.map strD)) ++ [[.v (.int .i64 s0v.bl), .v (.int .i64 s0v.sz), .v (.int .i64 s0v.fr), .v (.int .i64 s0v.to), .l 2 (s0v.its.map itD)]] = (ss ++ [s0v]).map strD := by rw [List.nil_append, List.map_append]; rfl
   rw [hE2] at m1420 Hz
   refine stepE_only 7 rfl (by kernel_rfl) rfl (fun K hK => ?_)
   refine e_call Hz Tryd.func10 rfl rfl rfl rfl (all_no (ss ++ [s0v]) _ _ _ _ ((m1420.rd (i := 84) rfl).any) (by simp; omega) (fun s hs => (hok s (by rcases List.mem_append.1 hs with h9 | h9; (exact h9); (rw [List.mem_singleton.1 h9]; exact List.mem_of_getElem? hs0))).1) (twice_no hsg (by omega) hs0)) ?_
   rintro e w1421 ⟨rfl, hb1421⟩
   have m1422 := m1420.later hb1421
   clear m1420
   clear hb1421
   refine ⟨_, rfl, ?_⟩; clear Hz Az; intro Az Hz
   refine hK _ _ (m1422.to ⟨il, il, il, il, il, il, il, il, il, il, il, il, il, trivial⟩) ?_; clear hK K
   refine goA hP1076 [8, 9, 10] 3 2303 4095 Hz (m1422.to ⟨il, il, il, il, il, il, il, il, il, il, il, il, il, trivial⟩) (.move rfl <| .extract rfl rfl <| .extract rfl rfl <| .nil) ?_
   clear Hz Az; intro Az Hz
   refine stepE_end 12 rfl (by kernel_rfl) rfl (by rfl) (fun K hK => ?_)
   refine e_storeW Hz m1422 83 rfl rfl rfl rfl rfl fct7 ?_
   clear m1422; intro w1427 m1427 hB1427
   clear hB1427
   refine hK _ _ ?_; clear hK
   refine goB hP1076 [13] 1 8191 16383 Hz (.assign rfl <| .nil) ?_
   clear Hz Az; intro Az Hz
   refine wpAnyE_done (by kernel_rfl) ?_ _
   refine hK32 _ _ ?_; clear hK32
   replace Hz : Has 105 [(6, _), (12, _), (13, _), (15, _)] Az := Hz.only [6, 12, 13, 15]
   refine sr fun K41 hK41 => ?_
   refine goCh Hz (.move rfl <| .eql rfl rfl <| .move rfl <| .eqlB rfl rfl U4 <| .move rfl <| .nil) ?_
   clear Hz Az; intro Az Hz
   refine bool_cases Hz (t := 93) rfl ?_ ?_
   rotate_left
   · intro hb _; exact absurd hb (by first | (simp; done) | (simp [hf9]; done) | (simp; omega))
   clear Hz; intro _ Hz
   refine goCh Hz (.moveZ rfl <| .eqlZ rfl rfl <| .pickT rfl rfl <| .move rfl <| .nil) ?_
   clear Hz Az; intro Az Hz
   refine bool_cases Hz (t := 97) rfl ?_ ?_
   rotate_left
   · intro hb _; exact absurd hb (by first | (simp; done) | (simp [hf9]; done) | (simp; omega))
   clear Hz; intro _ Hz
   refine goCh Hz (.moveZ rfl <| .eqlZ rfl rfl <| .moveZ rfl <| .nil) ?_
   clear Hz Az; intro Az Hz
   refine bool_cases Hz (t := 100) rfl ?_ ?_
   · intro hb _; exact absurd hb (by first | (simp; done) | (simp [hf9]; done) | (simp; omega))
   clear Hz; intro _ Hz
   refine goCh Hz (.moveZ rfl <| .eqlZ rfl rfl <| .pickFZ rfl rfl <| .pickT rfl rfl <| .assign rfl <| .nil) ?_
   clear Hz Az; intro Az Hz
   refine nl (hK41 _ _ ?_); clear hK41
   refine wp_ret ?_
   try dsimp only [Exit.then, Exit.inBlock]
   refine (ret1 (fn := Tryd.f5) Hz rfl rfl ?_)
   exact ⟨by first | rfl | (simp; done) | (simp [hf9]; done), m1427.below⟩
  refine e_litR Hz m1411 84 (mm := 5) rfl (.cons rfl rfl (.cons (.v _) (.cons (.v _) (.cons (.v _) (.cons (.v _) (.cons (m1411.rd (i := 82) rfl) .nil))))) <| .nil) U25 fct20 rfl rfl rfl rfl rfl ?_
  clear Hz Az m1411; intro g1455 Az w1456 Hz m1456
  refine hK _ _ (fun _ => (m1456.to ⟨il, il, il, il, il, il, il, il, il, il, il, il, il, trivial⟩)) ?_; clear hK K
  have m1457 := m1456.nilR 85 35 5
  clear m1456
  refine stepE_only 1 rfl (by kernel_rfl) rfl (fun K hK => ?_)
  refine e_appR Hz m1457 85 rfl rfl rfl (m1457.rd (i := 70) rfl) U25 fct20 rfl rfl (by decide) (by simp; omega) rfl ?_
  clear Hz Az m1457; intro p1458 c1458 Az w1459 Hz m1459
  refine hK _ _ (m1459.to ⟨il, il, il, il, il, il, il, il, il, il, il, il, il, trivial⟩) ?_; clear hK K
  have m1461 := m1459.freezeR 84 rfl; clear m1459
  refine stepE_only 6 rfl (by kernel_rfl) rfl (fun K hK => ?_)
  refine e_appR Hz m1461 85 rfl rfl rfl (m1461.rd (i := 84) rfl) U25 fct20 rfl rfl (by decide) (by simp; omega) rfl ?_
  clear Hz Az m1461; intro p1460 c1460 Az w1462 Hz m1462
  refine hK _ _ (m1462.to ⟨il, il, il, il, il, il, il, il, il, il, il, il, il, trivial⟩) ?_; clear hK K
  have m1463 := m1462.freezeR 85 rfl; clear m1462
  have hE2 : ([] ++ (ss.map strD)) ++ [[.v (.int .i64 s0v.bl), .v (.int .i64 s0v.sz), .v (.int .i64 s0v.fr), .v (.int .i64 s0v.to), .l 2 (s0v.its.map itD)]] = (ss ++ [s0v]).map strD := by rw [List.nil_append, List.map_append]; rfl
  rw [hE2] at m1463 Hz
  refine stepE_only 7 rfl (by kernel_rfl) rfl (fun K hK => ?_)
  refine e_call Hz Tryd.func10 rfl rfl rfl rfl (all_no (ss ++ [s0v]) _ _ _ _ ((m1463.rd (i := 85) rfl).any) (by simp; omega) (fun s hs => (hok s (by rcases List.mem_append.1 hs with h9 | h9; (exact h9); (rw [List.mem_singleton.1 h9]; exact List.mem_of_getElem? hs0))).1) (twice_no hsg (by omega) hs0)) ?_
  rintro e w1464 ⟨rfl, hb1464⟩
  have m1465 := m1463.later hb1464
  clear m1463
  clear hb1464
  refine ⟨_, rfl, ?_⟩; clear Hz Az; intro Az Hz
  refine hK _ _ (m1465.to ⟨il, il, il, il, il, il, il, il, il, il, il, il, il, trivial⟩) ?_; clear hK K
  refine goA hP1076 [8, 9, 10] 3 2303 4095 Hz (m1465.to ⟨il, il, il, il, il, il, il, il, il, il, il, il, il, trivial⟩) (.move rfl <| .extract rfl rfl <| .extract rfl rfl <| .nil) ?_
  clear Hz Az; intro Az Hz
  refine stepE_end 12 rfl (by kernel_rfl) rfl (by rfl) (fun K hK => ?_)
  refine e_storeW Hz m1465 83 rfl rfl rfl rfl rfl fct7 ?_
  clear m1465; intro w1470 m1470 hB1470
  clear hB1470
  refine hK _ _ ?_; clear hK
  refine goB hP1076 [13] 1 8191 16383 Hz (.assign rfl <| .nil) ?_
  clear Hz Az; intro Az Hz
  refine wpAnyE_done (by kernel_rfl) ?_ _
  refine hK32 _ _ ?_; clear hK32
  replace Hz : Has 105 [(6, _), (12, _), (13, _), (15, _)] Az := Hz.only [6, 12, 13, 15]
  refine sr fun K42 hK42 => ?_
  refine goCh Hz (.move rfl <| .eql rfl rfl <| .move rfl <| .eqlB rfl rfl U4 <| .move rfl <| .nil) ?_
  clear Hz Az; intro Az Hz
  refine bool_cases Hz (t := 93) rfl ?_ ?_
  rotate_left
  · intro hb _; exact absurd hb (by first | (simp; done) | (simp [hf9]; done) | (simp; omega))
  clear Hz; intro _ Hz
  refine goCh Hz (.moveZ rfl <| .eqlZ rfl rfl <| .pickT rfl rfl <| .move rfl <| .nil) ?_
  clear Hz Az; intro Az Hz
  refine bool_cases Hz (t := 97) rfl ?_ ?_
  rotate_left
  · intro hb _; exact absurd hb (by first | (simp; done) | (simp [hf9]; done) | (simp; omega))
  clear Hz; intro _ Hz
  refine goCh Hz (.moveZ rfl <| .eqlZ rfl rfl <| .moveZ rfl <| .nil) ?_
  clear Hz Az; intro Az Hz
  refine bool_cases Hz (t := 100) rfl ?_ ?_
  · intro hb _; exact absurd hb (by first | (simp; done) | (simp [hf9]; done) | (simp; omega))
  clear Hz; intro _ Hz
  refine goCh Hz (.moveZ rfl <| .eqlZ rfl rfl <| .pickFZ rfl rfl <| .pickT rfl rfl <| .assign rfl <| .nil) ?_
  clear Hz Az; intro Az Hz
  refine nl (hK42 _ _ ?_); clear hK42
  refine wp_ret ?_
  try dsimp only [Exit.then, Exit.inBlock]
  refine (ret1 (fn := Tryd.f5) Hz rfl rfl ?_)
  exact ⟨by first | rfl | (simp; done) | (simp [hf9]; done), m1470.below⟩
 clear Hz; intro hb1057 Hz; try simp only [QQ, Qax] at hb1057
 refine goA hP1046 [9, 10, 11, 12, 13, 14, 15, 16, 17, 18, 19, 20, 21, 22] 14 511 8388607 Hz (m1046.to ⟨il, il, il, il, il, il, il, il, il, il, il, trivial⟩) (.s <| .s <| .s <| .s <| .s <| .s <| .s <| .s <| .s <| .s <| .s <| .pickF rfl rfl <| .pickF rfl rfl <| .assign rfl <| .nil) ?_
 clear Hz Az; intro Az Hz
 refine wpAnyE_done (by kernel_rfl) ?_ _
 refine hK31 _ _ ?_; clear hK31
 refine wp_seq_k (fun K43 hK43 => ?_)
 replace Hz : Has 105 [(6, _), (7, _), (12, _), (13, _)] Az := Hz.only [6, 7, 12, 13]
 obtain ⟨b1513, o1513, vs1513, hp1513, hR1513, ho1513, m1513⟩ := m1046.openR (i := 70) rfl (0) (r := [.v (.int .i64 s0v.bl), .v (.int .i64 s0v.sz), .v (.int .i64 s0v.fr), .v (.int .i64 s0v.to), .l 2 (s0v.its.map itD)]) (strD_get hs0) 81 rfl
 cases hp1513; clear m1046 ho1513
 rcases hR1513 with _ | ⟨hd1513_0, _ | ⟨hd1513_1, _ | ⟨hd1513_2, _ | ⟨hd1513_3, _ | ⟨hd1513_4, _ | _⟩⟩⟩⟩⟩
 obtain rfl := hd1513_0.v_out
 clear hd1513_0
 obtain rfl := hd1513_1.v_out
 clear hd1513_1
 obtain rfl := hd1513_2.v_out
 clear hd1513_2
 obtain rfl := hd1513_3.v_out
 clear hd1513_3
 obtain ⟨p1514, c1514, hv1514, hc1514⟩ := hd1513_4.l_shape; subst hv1514
 have m1514 := m1513.dat 82 rfl (hd1513_4.cast (fun _ h => (free_add rfl h))); clear m1513 hd1513_4
 have m1515 : MemOk _ _ [(70, _), (71, _), (72, _), (73, _), (74, _), (75, _), (76, _), (77, _), (78, _), (79, _), (80, _), (81, _), (82, _)] _ := m1514.only [70, 71, 72, 73, 74, 75, 76, 77, 78, 79, 80, 81, 82]; clear m1514
 refine region_p 12 (B := [(70, _), (71, _), (72, _), (73, _), (74, _), (75, _), (76, _), (77, _), (78, _), (79, _), (80, _), (81, _), (82, _)]) (m1515.to ⟨il, il, il, il, il, il, il, il, il, il, il, il, il, trivial⟩) m1515 (by kernel_rfl) (fun w1516 hP1516 m1516 => ?_); clear m1515
 refine goR hP1516 [0, 2, 3, 4] [4] 4 0 29 Hz (m1516.to ⟨il, il, il, il, il, il, il, il, il, il, il, il, il, trivial⟩) (.move rfl <| .move rfl <| .p (fun _ _ h => y_idx h rfl rfl U25 fct7 (0) rfl (by omega)) <| .loadCR hh (i := 81) rfl rfl U35 rfl fct7 <| .nil) ?_
 clear Hz Az; intro Az Hz
 refine d_three 1 5 11 rfl rfl rfl (by kernel_rfl) rfl rfl rfl (fun K hK => ?_) (fun K hK => ?_) (fun K hK => ?_)
 ·
  have m1521 := m1516.nilR 83 35 5
  clear m1516
  refine e_appR Hz m1521 83 rfl rfl rfl (m1521.rd (i := 70) rfl) U25 fct20 rfl rfl (by decide) (by simp; omega) rfl ?_
  clear Hz Az m1521; intro p1522 c1522 Az w1523 Hz m1523
  refine hK _ _ (fun _ => (m1523.to ⟨il, il, il, il, il, il, il, il, il, il, il, il, il, trivial⟩)) ?_; clear hK K
  refine d_two 5 11 rfl rfl (by kernel_rfl) rfl rfl (fun K hK => ?_) (fun K hK => ?_)
  ·
   refine e_litR Hz m1523 84 (mm := 5) rfl (.cons rfl rfl (.cons (.v _) (.cons (.v _) (.cons (.v _) (.cons (.v _) (.cons (m1523.rd (i := 82) rfl) .nil))))) <| .nil) U25 fct20 rfl rfl rfl rfl rfl ?_
   clear Hz Az m1523; intro g1524 Az w1525 Hz m1525
   refine hK _ _ (fun _ => (m1525.to ⟨il, il, il, il, il, il, il, il, il, il, il, il, il, trivial⟩)) ?_; clear hK K
   refine d_two 6 11 rfl rfl (by kernel_rfl) rfl rfl (fun K hK => ?_) (fun K hK => ?_)
   ·
    have m1527 := m1525.freezeR 84 rfl; clear m1525
    refine e_appR Hz m1527 83 rfl rfl rfl (m1527.rd (i := 84) rfl) U25 fct20 rfl rfl (by decide) (by simp; omega) rfl ?_
    clear Hz Az m1527; intro p1526 c1526 Az w1528 Hz m1528
    refine hK _ _ (fun _ => (m1528.to ⟨il, il, il, il, il, il, il, il, il, il, il, il, il, trivial⟩)) ?_; clear hK K
    refine d_two 7 11 rfl rfl (by kernel_rfl) rfl rfl (fun K hK => ?_) (fun K hK => ?_)
    ·
     have m1529 := m1528.freezeR 83 rfl; clear m1528
     have hE2 : ([] ++ (ss.map strD)) ++ [[.v (.int .i64 s0v.bl), .v (.int .i64 s0v.sz), .v (.int .i64 s0v.fr), .v (.int .i64 s0v.to), .l 2 (s0v.its.map itD)]] = (ss ++ [s0v]).map strD := by rw [List.nil_append, List.map_append]; rfl
     rw [hE2] at m1529 Hz
     refine e_call Hz Tryd.func10 rfl rfl rfl rfl (all_no (ss ++ [s0v]) _ _ _ _ ((m1529.rd (i := 83) rfl).any) (by simp; omega) (fun s hs => (hok s (by rcases List.mem_append.1 hs with h9 | h9; (exact h9); (rw [List.mem_singleton.1 h9]; exact List.mem_of_getElem? hs0))).1) (twice_no hsg (by omega) hs0)) ?_
     rintro e w1530 ⟨rfl, hb1530⟩
     have m1531 := m1529.later hb1530
     clear m1529
     clear hb1530
     refine ⟨_, rfl, ?_⟩; clear Hz Az; intro Az Hz
     refine hK _ _ (fun _ => (m1531.to ⟨il, il, il, il, il, il, il, il, il, il, il, il, il, trivial⟩)) ?_; clear hK K
     refine goA hP1516 [8, 9, 10] 3 255 2047 Hz (m1531.to ⟨il, il, il, il, il, il, il, il, il, il, il, il, il, trivial⟩) (.move rfl <| .extract rfl rfl <| .extract rfl rfl <| .nil) ?_
     clear Hz Az; intro Az Hz
     refine stepE_only 11 rfl (by kernel_rfl) rfl (fun K hK => ?_)
     refine e_alloc Hz m1531 85 fct21 rfl ?_
     clear Hz Az m1531; intro g1536 Az w1537 Hz m1537 hB1537 hg1537
     clear hB1537 hg1537
     refine hK _ _ (m1537.to ⟨il, il, il, il, il, il, il, il, il, il, il, il, il, trivial⟩) ?_; clear hK K
     refine stepE_end 12 rfl (by kernel_rfl) rfl (by rfl) (fun K hK => ?_)
     refine e_storeW Hz m1537 85 rfl rfl rfl rfl rfl fct7 ?_
     clear m1537; intro w1538 m1538 hB1538
     clear hB1538
     refine hK _ _ ?_; clear hK
     refine goB hP1516 [13] 1 8191 16383 Hz (.assign rfl <| .nil) ?_
     clear Hz Az; intro Az Hz
     refine wpAnyE_done (by kernel_rfl) ?_ _
     refine hK43 _ _ ?_; clear hK43
     replace Hz : Has 105 [(6, _), (12, _), (13, _), (15, _)] Az := Hz.only [6, 12, 13, 15]
     refine sr fun K44 hK44 => ?_
     refine goCh Hz (.move rfl <| .eql rfl rfl <| .move rfl <| .eqlB rfl rfl U4 <| .move rfl <| .nil) ?_
     clear Hz Az; intro Az Hz
     refine bool_cases Hz (t := 93) rfl ?_ ?_
     rotate_left
     · intro hb _; exact absurd hb (by first | (simp; done) | (simp [hf9]; done) | (simp; omega))
     clear Hz; intro _ Hz
     refine goCh Hz (.moveZ rfl <| .eqlZ rfl rfl <| .pickT rfl rfl <| .move rfl <| .nil) ?_
     clear Hz Az; intro Az Hz
     refine bool_cases Hz (t := 97) rfl ?_ ?_
     rotate_left
     · intro hb _; exact absurd hb (by first | (simp; done) | (simp [hf9]; done) | (simp; omega))
     clear Hz; intro _ Hz
     refine goCh Hz (.moveZ rfl <| .eqlZ rfl rfl <| .moveZ rfl <| .nil) ?_
     clear Hz Az; intro Az Hz
     refine bool_cases Hz (t := 100) rfl ?_ ?_
     · intro hb _; exact absurd hb (by first | (simp; done) | (simp [hf9]; done) | (simp; omega))
     clear Hz; intro _ Hz
     refine goCh Hz (.moveZ rfl <| .eqlZ rfl rfl <| .pickFZ rfl rfl <| .pickT rfl rfl <| .assign rfl <| .nil) ?_
     clear Hz Az; intro Az Hz
     refine nl (hK44 _ _ ?_); clear hK44
     refine wp_ret ?_
     try dsimp only [Exit.then, Exit.inBlock]
     refine (ret1 (fn := Tryd.f5) Hz rfl rfl ?_)
     exact ⟨by first | rfl | (simp; done) | (simp [hf9]; done), m1538.below⟩
    refine e_alloc Hz m1528 85 fct21 rfl ?_
    clear Hz Az m1528; intro g1566 Az w1567 Hz m1567 hB1567 hg1567
    clear hB1567 hg1567
    refine hK _ _ (fun _ => (m1567.to ⟨il, il, il, il, il, il, il, il, il, il, il, il, il, trivial⟩)) ?_; clear hK K
    have m1568 := m1567.freezeR 83 rfl; clear m1567
    have hE2 : ([] ++ (ss.map strD)) ++ [[.v (.int .i64 s0v.bl), .v (.int .i64 s0v.sz), .v (.int .i64 s0v.fr), .v (.int .i64 s0v.to), .l 2 (s0v.its.map itD)]] = (ss ++ [s0v]).map strD := by rw [List.nil_append, List.map_append]; rfl
    rw [hE2] at m1568 Hz
    refine stepE_only 7 rfl (by kernel_rfl) rfl (fun K hK => ?_)
    refine e_call Hz Tryd.func10 rfl rfl rfl rfl (all_no (ss ++ [s0v]) _ _ _ _ ((m1568.rd (i := 83) rfl).any) (by simp; omega) (fun s hs => (hok s (by rcases List.mem_append.1 hs with h9 | h9; (exact h9); (rw [List.mem_singleton.1 h9]; exact List.mem_of_getElem? hs0))).1) (twice_no hsg (by omega) hs0)) ?_
    rintro e w1569 ⟨rfl, hb1569⟩
    have m1570 := m1568.later hb1569
    clear m1568
    clear hb1569
    refine ⟨_, rfl, ?_⟩; clear Hz Az; intro Az Hz
    refine hK _ _ (m1570.to ⟨il, il, il, il, il, il, il, il, il, il, il, il, il, trivial⟩) ?_; clear hK K
    refine goA hP1516 [8, 9, 10] 3 2303 4095 Hz (m1570.to ⟨il, il, il, il, il, il, il, il, il, il, il, il, il, trivial⟩) (.move rfl <| .extract rfl rfl <| .extract rfl rfl <| .nil) ?_
    clear Hz Az; intro Az Hz
    refine stepE_end 12 rfl (by kernel_rfl) rfl (by rfl) (fun K hK => ?_)
    refine e_storeW Hz m1570 85 rfl rfl rfl rfl rfl fct7 ?_
    clear m1570; intro w1575 m1575 hB1575
    clear hB1575
    refine hK _ _ ?_; clear hK
    refine goB hP1516 [13] 1 8191 16383 Hz (.assign rfl <| .nil) ?_
    clear Hz Az; intro Az Hz
    refine wpAnyE_done (by kernel_rfl) ?_ _
    refine hK43 _ _ ?_; clear hK43
    replace Hz : Has 105 [(6, _), (12, _), (13, _), (15, _)] Az := Hz.only [6, 12, 13, 15]
    refine sr fun K45 hK45 => ?_
    refine goCh Hz (.move rfl <| .eql rfl rfl <| .move rfl <| .eqlB rfl rfl U4 <| .move rfl <| .nil) ?_
    clear Hz Az; intro Az Hz
    refine bool_cases Hz (t := 93) rfl ?_ ?_
    rotate_left
    · intro hb _; exact absurd hb (by first | (simp; done) | (simp [hf9]; done) | (simp; omega))
    clear Hz; intro _ Hz
    refine goCh Hz (.moveZ rfl <| .eqlZ rfl rfl <| .pickT rfl rfl <| .move rfl <| .nil) ?_
    clear Hz Az; intro Az Hz
    refine bool_cases Hz (t := 97) rfl ?_ ?_
    rotate_left
    · intro hb _; exact absurd hb (by first | (simp; done) | (simp [hf9]; done) | (simp; omega))
    clear Hz; intro _ Hz
    refine goCh Hz (.moveZ rfl <| .eqlZ rfl rfl <| .moveZ rfl <| .nil) ?_
    clear Hz Az; intro Az Hz
    refine bool_cases Hz (t := 100) rfl ?_ ?_
    · intro hb _; exact absurd hb (by first | (simp; done) | (simp [hf9]; done) | (simp; omega))
    clear Hz; intro _ Hz
    refine goCh Hz (.moveZ rfl <| .eqlZ rfl rfl <| .pickFZ rfl rfl <| .pickT rfl rfl <| .assign rfl <| .nil) ?_
    clear Hz Az; intro Az Hz
    refine nl (hK45 _ _ ?_); clear hK45
    refine wp_ret ?_
    try dsimp only [Exit.then, Exit.inBlock]
    refine (ret1 (fn := Tryd.f5) Hz rfl rfl ?_)
    exact ⟨by first | rfl | (simp; done) | (simp [hf9]; done), m1575.below⟩
   refine e_alloc Hz m1525 85 fct21 rfl ?_
   clear Hz Az m1525; intro g1603 Az w1604 Hz m1604 hB1604 hg1604
   clear hB1604 hg1604
   refine hK _ _ (fun _ => (m1604.to ⟨il, il, il, il, il, il, il, il, il, il, il, il, il, trivial⟩)) ?_; clear hK K
   have m1606 := m1604.freezeR 84 rfl; clear m1604
   refine stepE_only 6 rfl (by kernel_rfl) rfl (fun K hK => ?_)
   refine e_appR Hz m1606 83 rfl rfl rfl (m1606.rd (i := 84) rfl) U25 fct20 rfl rfl (by decide) (by simp; omega) rfl ?_
   clear Hz Az m1606; intro p1605 c1605 Az w1607 Hz m1607
   refine hK _ _ (m1607.to ⟨il, il, il, il, il, il, il, il, il, il, il, il, il, trivial⟩) ?_; clear hK K
   have m1608 := m1607.freezeR 83 rfl; clear m1607
   have hE2 : ([] ++ (ss.map strD)) ++ [[.v (.int .i64 s0v.bl), .v (.int .i64 s0v.sz), .v (.int .i64 s0v.fr), .v (.int .i64 s0v.to), .l 2 (s0v.its.map itD)]] = (ss ++ [s0v]).map strD := by rw [List.nil_append, List.map_append]; rfl
   rw [hE2] at m1608 Hz
   refine stepE_only 7 rfl (by kernel_rfl) rfl (fun K hK => ?_)
   refine e_call Hz Tryd.func10 rfl rfl rfl rfl (all_no (ss ++ [s0v]) _ _ _ _ ((m1608.rd (i := 83) rfl).any) (by simp; omega) (fun s hs => (hok s (by rcases List.mem_append.1 hs with h9 | h9; (exact h9); (rw [List.mem_singleton.1 h9]; exact List.mem_of_getElem? hs0))).1) (twice_no hsg (by omega) hs0)) ?_
   rintro e w1609 ⟨rfl, hb1609⟩
   have m1610 := m1608.later hb1609
   clear m1608
   clear hb1609
   refine ⟨_, rfl, ?_⟩; clear Hz Az; intro Az Hz
   refine hK _ _ (m1610.to ⟨il, il, il, il, il, il, il, il, il, il, il, il, il, trivial⟩) ?_; clear hK K
   refine goA hP1516 [8, 9, 10] 3 2303 4095 Hz (m1610.to ⟨il, il, il, il, il, il, il, il, il, il, il, il, il, trivial⟩) (.move rfl <| .extract rfl rfl <| .extract rfl rfl <| .nil) ?_
   clear Hz Az; intro Az Hz
   refine stepE_end 12 rfl (by kernel_rfl) rfl (by rfl) (fun K hK => ?_)
   refine e_storeW Hz m1610 85 rfl rfl rfl rfl rfl fct7 ?_
   clear m1610; intro w1615 m1615 hB1615
   clear hB1615
   refine hK _ _ ?_; clear hK
   refine goB hP1516 [13] 1 8191 16383 Hz (.assign rfl <| .nil) ?_
   clear Hz Az; intro Az Hz
   refine wpAnyE_done (by kernel_rfl) ?_ _
   refine hK43 _ _ ?_; clear hK43
   replace Hz : Has 105 [(6, _), (12, _), (13, _), (15, _)] Az := Hz.only [6, 12, 13, 15]
   refine sr fun K46 hK46 => ?_
   refine goCh Hz (.move rfl <| .eql rfl rfl <| .move rfl <| .eqlB rfl rfl U4 <| .move rfl <| .nil) ?_
   clear Hz Az; intro Az Hz
   refine bool_cases Hz (t := 93) rfl ?_ ?_
   rotate_left
   · intro hb _; exact absurd hb (by first | (simp; done) | (simp [hf9]; done) | (simp; omega))
   clear Hz; intro _ Hz
   refine goCh Hz (.moveZ rfl <| .eqlZ rfl rfl <| .pickT rfl rfl <| .move rfl <| .nil) ?_
   clear Hz Az; intro Az Hz
   refine bool_cases Hz (t := 97) rfl ?_ ?_
   rotate_left
   · intro hb _; exact absurd hb (by first | (simp; done) | (simp [hf9]; done) | (simp; omega))
   clear Hz; intro _ Hz
   refine goCh Hz (.moveZ rfl <| .eqlZ rfl rfl <| .moveZ rfl <| .nil) ?_
   clear Hz Az; intro Az Hz
   refine bool_cases Hz (t := 100) rfl ?_ ?_
   · intro hb _; exact absurd hb (by first | (simp; done) | (simp [hf9]; done) | (simp; omega))
   clear Hz; intro _ Hz
   refine goCh Hz (.moveZ rfl <| .eqlZ rfl rfl <| .pickFZ rfl rfl <| .pickT rfl rfl <| .assign rfl <| .nil) ?_
   clear Hz Az; intro Az Hz
   refine nl (hK46 _ _ ?_); clear hK46
   refine wp_ret ?_
   try dsimp only [Exit.then, Exit.inBlock]
   refine (ret1 (fn := Tryd.f5) Hz rfl rfl ?_)
   exact ⟨by first | rfl | (simp; done) | (simp [hf9]; done), m1615.below⟩
  refine e_alloc Hz m1523 84 fct21 rfl ?_
  clear Hz Az m1523; intro g1643 Az w1644 Hz m1644 hB1644 hg1644
  clear hB1644 hg1644
  refine hK _ _ (fun _ => (m1644.to ⟨il, il, il, il, il, il, il, il, il, il, il, il, il, trivial⟩)) ?_; clear hK K
  refine stepE_only 5 rfl (by kernel_rfl) rfl (fun K hK => ?_)
  refine e_litR Hz m1644 85 (mm := 5) rfl (.cons rfl rfl (.cons (.v _) (.cons (.v _) (.cons (.v _) (.cons (.v _) (.cons (m1644.rd (i := 82) rfl) .nil))))) <| .nil) U25 fct20 rfl rfl rfl rfl rfl ?_
  clear Hz Az m1644; intro g1645 Az w1646 Hz m1646
  refine hK _ _ (m1646.to ⟨il, il, il, il, il, il, il, il, il, il, il, il, il, trivial⟩) ?_; clear hK K
  have m1648 := m1646.freezeR 85 rfl; clear m1646
  refine stepE_only 6 rfl (by kernel_rfl) rfl (fun K hK => ?_)
  refine e_appR Hz m1648 83 rfl rfl rfl (m1648.rd (i := 85) rfl) U25 fct20 rfl rfl (by decide) (by simp; omega) rfl ?_
  clear Hz Az m1648; intro p1647 c1647 Az w1649 Hz m1649
  refine hK _ _ (m1649.to ⟨il, il, il, il, il, il, il, il, il, il, il, il, il, trivial⟩) ?_; clear hK K
  have m1650 := m1649.freezeR 83 rfl; clear m1649
  have hE2 : ([] ++ (ss.map strD)) ++ [[.v (.int .i64 s0v.bl), .v (.int .i64 s0v.sz), .v (.int .i64 s0v.fr), .v (.int .i64 s0v.to), .l 2 (s0v.its.map itD)]] = (ss ++ [s0v]).map strD := by rw [List.nil_append, List.map_append]; rfl
  rw [hE2] at m1650 Hz
  refine stepE_only 7 rfl (by kernel_rfl) rfl (fun K hK => ?_)
  refine e_call Hz Tryd.func10 rfl rfl rfl rfl (all_no (ss ++ [s0v]) _ _ _ _ ((m1650.rd (i := 83) rfl).any) (by simp; omega) (fun s hs => (hok s (by rcases List.mem_append.1 hs with h9 | h9; (exact h9); (rw [List.mem_singleton.1 h9]; exact List.mem_of_getElem? hs0))).1) (twice_no hsg (by omega) hs0)) ?_
  rintro e w1651 ⟨rfl, hb1651⟩
  have m1652 := m1650.later hb1651
  clear m1650
  clear hb1651
  refine ⟨_, rfl, ?_⟩; clear Hz Az; intro Az Hz
  refine hK _ _ (m1652.to ⟨il, il, il, il, il, il, il, il, il, il, il, il, il, trivial⟩) ?_; clear hK K
  refine goA hP1516 [8, 9, 10] 3 2303 4095 Hz (m1652.to ⟨il, il, il, il, il, il, il, il, il, il, il, il, il, trivial⟩) (.move rfl <| .extract rfl rfl <| .extract rfl rfl <| .nil) ?_
  clear Hz Az; intro Az Hz
  refine stepE_end 12 rfl (by kernel_rfl) rfl (by rfl) (fun K hK => ?_)
  refine e_storeW Hz m1652 84 rfl rfl rfl rfl rfl fct7 ?_
  clear m1652; intro w1657 m1657 hB1657
  clear hB1657
  refine hK _ _ ?_; clear hK
  refine goB hP1516 [13] 1 8191 16383 Hz (.assign rfl <| .nil) ?_
  clear Hz Az; intro Az Hz
  refine wpAnyE_done (by kernel_rfl) ?_ _
  refine hK43 _ _ ?_; clear hK43
  replace Hz : Has 105 [(6, _), (12, _), (13, _), (15, _)] Az := Hz.only [6, 12, 13, 15]
  refine sr fun K47 hK47 => ?_
  refine goCh Hz (.move rfl <| .eql rfl rfl <| .move rfl <| .eqlB rfl rfl U4 <| .move rfl <| .nil) ?_
  clear Hz Az; intro Az Hz
  refine bool_cases Hz (t := 93) rfl ?_ ?_
  rotate_left
  · intro hb _; exact absurd hb (by first | (simp; done) | (simp [hf9]; done) | (simp; omega))
  clear Hz; intro _ Hz
  refine goCh Hz (.moveZ rfl <| .eqlZ rfl rfl <| .pickT rfl rfl <| .move rfl <| .nil) ?_
  clear Hz Az; intro Az Hz
  refine bool_cases Hz (t := 97) rfl ?_ ?_
  rotate_left
  · intro hb _; exact absurd hb (by first | (simp; done) | (simp [hf9]; done) | (simp; omega))
  clear Hz; intro _ Hz
  refine goCh Hz (.moveZ rfl <| .eqlZ rfl rfl <| .moveZ rfl <| .nil) ?_
  clear Hz Az; intro Az Hz
  refine bool_cases Hz (t := 100) rfl ?_ ?_
  · intro hb _; exact absurd hb (by first | (simp; done) | (simp [hf9]; done) | (simp; omega))
  clear Hz; intro _ Hz
  refine goCh Hz (.moveZ rfl <| .eqlZ rfl rfl <| .pickFZ rfl rfl <| .pickT rfl rfl <| .assign rfl <| .nil) ?_
  clear Hz Az; intro Az Hz
  refine nl (hK47 _ _ ?_); clear hK47
  refine wp_ret ?_
  try dsimp only [Exit.then, Exit.inBlock]
  refine (ret1 (fn := Tryd.f5) Hz rfl rfl ?_)
  exact ⟨by first | rfl | (simp; done) | (simp [hf9]; done), m1657.below⟩
 ·
  refine e_litR Hz m1516 83 (mm := 5) rfl (.cons rfl rfl (.cons (.v _) (.cons (.v _) (.cons (.v _) (.cons (.v _) (.cons (m1516.rd (i := 82) rfl) .nil))))) <| .nil) U25 fct20 rfl rfl rfl rfl rfl ?_
  clear Hz Az m1516; intro g1685 Az w1686 Hz m1686
  refine hK _ _ (fun _ => (m1686.to ⟨il, il, il, il, il, il, il, il, il, il, il, il, il, trivial⟩)) ?_; clear hK K
  refine d_two 1 11 rfl rfl (by kernel_rfl) rfl rfl (fun K hK => ?_) (fun K hK => ?_)
  ·
   have m1687 := m1686.nilR 84 35 5
   clear m1686
   refine e_appR Hz m1687 84 rfl rfl rfl (m1687.rd (i := 70) rfl) U25 fct20 rfl rfl (by decide) (by simp; omega) rfl ?_
   clear Hz Az m1687; intro p1688 c1688 Az w1689 Hz m1689
   refine hK _ _ (fun _ => (m1689.to ⟨il, il, il, il, il, il, il, il, il, il, il, il, il, trivial⟩)) ?_; clear hK K
   refine d_two 6 11 rfl rfl (by kernel_rfl) rfl rfl (fun K hK => ?_) (fun K hK => ?_)
   ·
    have m1691 := m1689.freezeR 83 rfl; clear m1689
    refine e_appR Hz m1691 84 rfl rfl rfl (m1691.rd (i := 83) rfl) U25 fct20 rfl rfl (by decide) (by simp; omega) rfl ?_
    clear Hz Az m1691; intro p1690 c1690 Az w1692 Hz m1692
    refine hK _ _ (fun _ => (m1692.to ⟨il, il, il, il, il, il, il, il, il, il, il, il, il, trivial⟩)) ?_; clear hK K
    refine d_two 7 11 rfl rfl (by kernel_rfl) rfl rfl (fun K hK => ?_) (fun K hK => ?_)
    ·
     have m1693 := m1692.freezeR 84 rfl; clear m1692
     have hE2 : ([] ++ (ss.map strD)) ++ [[.v (.int .i64 s0v.bl), .v (.int .i64 s0v.sz), .v (.int .i64 s0v.fr), .v (.int .i64 s0v.to), .l 2 (s0v.its.map itD)]] = (ss ++ [s0v]).map strD := by rw [List.nil_append, List.map_append]; rfl
     rw [hE2] at m1693 Hz
     refine e_call Hz Tryd.func10 rfl rfl rfl rfl (all_no (ss ++ [s0v]) _ _ _ _ ((m1693.rd (i := 84) rfl).any) (by simp; omega) (fun s hs => (hok s (by rcases List.mem_append.1 hs with h9 | h9; (exact h9); (rw [List.mem_singleton.1 h9]; exact List.mem_of_getElem? hs0))).1) (twice_no hsg (by omega) hs0)) ?_
     rintro e w1694 ⟨rfl, hb1694⟩
     have m1695 := m1693.later hb1694
     clear m1693
     clear hb1694
     refine ⟨_, rfl, ?_⟩; clear Hz Az; intro Az Hz
     refine hK _ _ (fun _ => (m1695.to ⟨il, il, il, il, il, il, il, il, il, il, il, il, il, trivial⟩)) ?_; clear hK K
     refine goA hP1516 [8, 9, 10] 3 255 2047 Hz (m1695.to ⟨il, il, il, il, il, il, il, il, il, il, il, il, il, trivial⟩) (.move rfl <| .extract rfl rfl <| .extract rfl rfl <| .nil) ?_
     clear Hz Az; intro Az Hz
     refine stepE_only 11 rfl (by kernel_rfl) rfl (fun K hK => ?_)
     refine e_alloc Hz m1695 85 fct21 rfl ?_
     clear Hz Az m1695; intro g1700 Az w1701 Hz m1701 hB1701 hg1701
     clear hB1701 hg1701
     refine hK _ _ (m1701.to ⟨il, il, il, il, il, il, il, il, il, il, il, il, il, trivial⟩) ?_; clear hK K
     refine stepE_end 12 rfl (by kernel_rfl) rfl (by rfl) (fun K hK => ?_)
     refine e_storeW Hz m1701 85 rfl rfl rfl rfl rfl fct7 ?_
     clear m1701; intro w1702 m1702 hB1702
     clear hB1702
     refine hK _ _ ?_; clear hK
     refine goB hP1516 [13] 1 8191 16383 Hz (.assign rfl <| .nil) ?_
     clear Hz Az; intro Az Hz
     refine wpAnyE_done (by kernel_rfl) ?_ _
     refine hK43 _ _ ?_; clear hK43
     replace Hz : Has 105 [(6, _), (12, _), (13, _), (15, _)] Az := Hz.only [6, 12, 13, 15]
     refine sr fun K48 hK48 => ?_
     refine goCh Hz (.move rfl <| .eql rfl rfl <| .move rfl <| .eqlB rfl rfl U4 <| .move rfl <| .nil) ?_
     clear Hz Az; intro Az Hz
     refine bool_cases Hz (t := 93) rfl ?_ ?_
     rotate_left
     · intro hb _; exact absurd hb (by first | (simp; done) | (simp [hf9]; done) | (simp; omega))
     clear Hz; intro _ Hz
     refine goCh Hz (.moveZ rfl <| .eqlZ rfl rfl <| .pickT rfl rfl <| .move rfl <| .nil) ?_
     clear Hz Az; intro Az Hz
     refine bool_cases Hz (t := 97) rfl ?_ ?_
     rotate_left
     · intro hb _; exact absurd hb (by first | (simp; done) | (simp [hf9]; done) | (simp; omega))
     clear Hz; intro _ Hz
     refine goCh Hz (.moveZ rfl <| .eqlZ rfl rfl <| .moveZ rfl <| .nil) ?_
     clear Hz Az; intro Az Hz
     refine bool_cases Hz (t := 100) rfl ?_ ?_
     · intro hb _; exact absurd hb (by first | (simp; done) | (simp [hf9]; done) | (simp; omega))
     clear Hz; intro _ Hz
     refine goCh Hz (.moveZ rfl <| .eqlZ rfl rfl <| .pickFZ rfl rfl <| .pickT rfl rfl <| .assign rfl <| .nil) ?_
     clear Hz Az; intro Az Hz
     refine nl (hK48 _ _ ?_); clear hK48
     refine wp_ret ?_
     try dsimp only [Exit.then, Exit.inBlock]
     refine (ret1 (fn := Tryd.f5) Hz rfl rfl ?_)
     exact ⟨by first | rfl | (simp; done) | (simp [hf9]; done), m1702.below⟩
    refine e_alloc Hz m1692 85 fct21 rfl ?_
    clear Hz Az m1692; intro g1730 Az w1731 Hz m1731 hB1731 hg1731
    clear hB1731 hg1731
    refine hK _ _ (fun _ => (m1731.to ⟨il, il, il, il, il, il, il, il, il, il, il, il, il, trivial⟩)) ?_; clear hK K
    have m1732 := m1731.freezeR 84 rfl; clear m1731
    have hE2 : ([] ++ (ss.map strD)) ++ [[.v (.int .i64 s0v.bl), .v (.int .i64 s0v.sz), .v (.int .i64 s0v.fr), .v (.int .i64 s0v.to), .l 2 (s0v.its.map itD)]] = (ss ++ [s0v]).map strD := by rw [List.nil_append, List.map_append]; rfl
    rw [hE2] at m1732 Hz
    refine stepE_only 7 rfl (by kernel_rfl) rfl (fun K hK => ?_)
    refine e_call Hz Tryd.func10 rfl rfl rfl rfl (all_no (ss ++ [s0v]) _ _ _ _ ((m1732.rd (i := 84) rfl).any) (by simp; omega) (fun s hs => (hok s (by rcases List.mem_append.1 hs with h9 | h9; (exact h9); (rw [List.mem_singleton.1 h9]; exact List.mem_of_getElem? hs0))).1) (twice_no hsg (by omega) hs0)) ?_
    rintro e w1733 ⟨rfl, hb1733⟩
    have m1734 := m1732.later hb1733
    clear m1732
    clear hb1733
    refine ⟨_, rfl, ?_⟩; clear Hz Az; intro Az Hz
    refine hK _ _ (m1734.to ⟨il, il, il, il, il, il, il, il, il, il, il, il, il, trivial⟩) ?_; clear hK K
    refine goA hP1516 [8, 9, 10] 3 2303 4095 Hz (m1734.to ⟨il, il, il, il, il, il, il, il, il, il, il, il, il, trivial⟩) (.move rfl <| .extract rfl rfl <| .extract rfl rfl <| .nil) ?_
    clear Hz Az; intro Az Hz
    refine stepE_end 12 rfl (by kernel_rfl) rfl (by rfl) (fun K hK => ?_)
    refine e_storeW Hz m1734 85 rfl rfl rfl rfl rfl fct7 ?_
    clear m1734; intro w1739 m1739 hB1739
    clear hB1739
    refine hK _ _ ?_; clear hK
    refine goB hP1516 [13] 1 8191 16383 Hz (.assign rfl <| .nil) ?_
    clear Hz Az; intro Az Hz
    refine wpAnyE_done (by kernel_rfl) ?_ _
    refine hK43 _ _ ?_; clear hK43
    replace Hz : Has 105 [(6, _), (12, _), (13, _), (15, _)] Az := Hz.only [6, 12, 13, 15]
    refine sr fun K49 hK49 => ?_
    refine goCh Hz (.move rfl <| .eql rfl rfl <| .move rfl <| .eqlB rfl rfl U4 <| .move rfl <| .nil) ?_
    clear Hz Az; intro Az Hz
    refine bool_cases Hz (t := 93) rfl ?_ ?_
    rotate_left
    · intro hb _; exact absurd hb (by first | (simp; done) | (simp [hf9]; done) | (simp; omega))
    clear Hz; intro _ Hz
    refine goCh Hz (.moveZ rfl <| .eqlZ rfl rfl <| .pickT rfl rfl <| .move rfl <| .nil) ?_
    clear Hz Az; intro Az Hz
    refine bool_cases Hz (t := 97) rfl ?_ ?_
    rotate_left
    · intro hb _; exact absurd hb (by first | (simp; done) | (simp [hf9]; done) | (simp; omega))
    clear Hz; intro _ Hz
    refine goCh Hz (.moveZ rfl <| .eqlZ rfl rfl <| .moveZ rfl <| .nil) ?_
    clear Hz Az; intro Az Hz
    refine bool_cases Hz (t := 100) rfl ?_ ?_
    · intro hb _; exact absurd hb (by first | (simp; done) | (simp [hf9]; done) | (simp; omega))
    clear Hz; intro _ Hz
    refine goCh Hz (.moveZ rfl <| .eqlZ rfl rfl <| .pickFZ rfl rfl <| .pickT rfl rfl <| .assign rfl <| .nil) ?_
    clear Hz Az; intro Az Hz
    refine nl (hK49 _ _ ?_); clear hK49
    refine wp_ret ?_
    try dsimp only [Exit.then, Exit.inBlock]
    refine (ret1 (fn := Tryd.f5) Hz rfl rfl ?_)
    exact ⟨by first | rfl | (simp; done) | (simp [hf9]; done), m1739.below⟩
   refine e_alloc Hz m1689 85 fct21 rfl ?_
   clear Hz Az m1689; intro g1767 Az w1768 Hz m1768 hB1768 hg1768
   clear hB1768 hg1768
   refine hK _ _ (fun _ => (m1768.to ⟨il, il, il, il, il, il, il, il, il, il, il, il, il, trivial⟩)) ?_; clear hK K
   have m1770 := m1768.freezeR 83 rfl; clear m1768
   refine stepE_only 6 rfl (by kernel_rfl) rfl (fun K hK => ?_)
   refine e_appR Hz m1770 84 rfl rfl rfl (m1770.rd (i := 83) rfl) U25 fct20 rfl rfl (by decide) (by simp; omega) rfl ?_
   clear Hz Az m1770; intro p1769 c1769 Az w1771 Hz m1771
   refine hK _ _ (m1771.to ⟨il, il, il, il, il, il, il, il, il, il, il, il, il, trivial⟩) ?_; clear hK K
   have m1772 := m1771.freezeR 84 rfl; clear m1771
   have hE2 : ([] ++ (ss.map strD)) ++ [[.v (.int .i64 s0v.bl), .v (.int .i64 s0v.sz), .v (.int .i64 s0v.fr), .v (.int .i64 s0v.to), .l 2 (s0v.its.map itD)]] = (ss ++ [s0v]).map strD := by rw [List.nil_append, List.map_append]; rfl
   rw [hE2] at m1772 Hz
   refine stepE_only 7 rfl (by kernel_rfl) rfl (fun K hK => ?_)
   refine e_call Hz Tryd.func10 rfl rfl rfl rfl (all_no (ss ++ [s0v]) _ _ _ _ ((m1772.rd (i := 84) rfl).any) (by simp; omega) (fun s hs => (hok s (by rcases List.mem_append.1 hs with h9 | h9; (exact h9); (rw [List.mem_singleton.1 h9]; exact List.mem_of_getElem? hs0))).1) (twice_no hsg (by omega) hs0)) ?_
   rintro e w1773 ⟨rfl, hb1773⟩
   have m1774 := m1772.later hb1773
   clear m1772
   clear hb1773
   refine ⟨_, rfl, ?_⟩; clear Hz Az; intro Az Hz
   refine hK _ _ (m1774.to ⟨il, il, il, il, il, il, il, il, il, il, il, il, il, trivial⟩) ?_; clear hK K
   refine goA hP1516 [8, 9, 10] 3 2303 4095 Hz (m1774.to ⟨il, il, il, il, il, il, il, il, il, il, il, il, il, trivial⟩) (.move rfl <| .extract rfl rfl <| .extract rfl rfl <| .nil) ?_
   clear Hz Az; intro Az Hz
   refine stepE_end 12 rfl (by kernel_rfl) rfl (by rfl) (fun K hK => ?_)
   refine e_storeW Hz m1774 85 rfl rfl rfl rfl rfl fct7 ?_
   clear m1774; intro w1779 m1779 hB1779
   clear hB1779
   refine hK _ _ ?_; clear hK
   refine goB hP1516 [13] 1 8191 16383 Hz (.assign rfl <| .nil) ?_
   clear Hz Az; intro Az Hz
   refine wpAnyE_done (by kernel_rfl) ?_ _
   refine hK43 _ _ ?_; clear hK43
   replace Hz : Has 105 [(6, _), (12, _), (13, _), (15, _)] Az := Hz.only [6, 12, 13, 15]
   refine sr fun K50 hK50 => ?_
   refine goCh Hz (.move rfl <| .eql rfl rfl <| .move rfl <| .eqlB rfl rfl U4 <| .move rfl <| .nil) ?_
   clear Hz Az; intro Az Hz
   refine bool_cases Hz (t := 93) rfl ?_ ?_
   rotate_left
   · intro hb _; exact absurd hb (by first | (simp; done) | (simp [hf9]; done) | (simp; omega))
   clear Hz; intro _ Hz
   refine goCh Hz (.moveZ rfl <| .eqlZ rfl rfl <| .pickT rfl rfl <| .move rfl <| .nil) ?_
   clear Hz Az; intro Az Hz
   refine bool_cases Hz (t := 97) rfl ?_ ?_
   rotate_left
   · intro hb _; exact absurd hb (by first | (simp; done) | (simp [hf9]; done) | (simp; omega))
   clear Hz; intro _ Hz
   refine goCh Hz (.moveZ rfl <| .eqlZ rfl rfl <| .moveZ rfl <| .nil) ?_
   clear Hz Az; intro Az Hz
   refine bool_cases Hz (t := 100) rfl ?_ ?_
   · intro hb _; exact absurd hb (by first | (simp; done) | (simp [hf9]; done) | (simp; omega))
   clear Hz; intro _ Hz
   refine goCh Hz (.moveZ rfl <| .eqlZ rfl rfl <| .pickFZ rfl rfl <| .pickT rfl rfl <| .assign rfl <| .nil) ?_
   clear Hz Az; intro Az Hz
   refine nl (hK50 _ _ ?_); clear hK50
   refine wp_ret ?_
   try dsimp only [Exit.then, Exit.inBlock]
   refine (ret1 (fn := Tryd.f5) Hz rfl rfl ?_)
   exact ⟨by first | rfl | (simp; done) | (simp [hf9]; done), m1779.below⟩
  refine e_alloc Hz m1686 84 fct21 rfl ?_
  clear Hz Az m1686; intro g1807 Az w1808 Hz m1808 hB1808 hg1808
  clear hB1808 hg1808
  refine hK _ _ (fun _ => (m1808.to ⟨il, il, il, il, il, il, il, il, il, il, il, il, il, trivial⟩)) ?_; clear hK K
  have m1809 := m1808.nilR 85 35 5
  clear m1808
  refine stepE_only 1 rfl (by kernel_rfl) rfl (fun K hK => ?_)
  refine e_appR Hz m1809 85 rfl rfl rfl (m1809.rd (i := 70) rfl) U25 fct20 rfl rfl (by decide) (by simp; omega) rfl ?_
  clear Hz Az m1809; intro p1810 c1810 Az w1811 Hz m1811
  refine hK _ _ (m1811.to ⟨il, il, il, il, il, il, il, il, il, il, il, il, il, trivial⟩) ?_; clear hK K
  have m1813 := m1811.freezeR 83 rfl; clear m1811
  refine stepE_only 6 rfl (by kernel_rfl) rfl (fun K hK => ?_)
  refine e_appR Hz m1813 85 rfl rfl rfl (m1813.rd (i := 83) rfl) U25 fct20 rfl rfl (by decide) (by simp; omega) rfl ?_
  clear Hz Az m1813; intro p1812 c1812 Az w1814 Hz m1814
  refine hK _ _ (m1814.to ⟨il, il, il, il, il, il, il, il, il, il, il, il, il, trivial⟩) ?_; clear hK K
  have m1815 := m1814.freezeR 85 rfl; clear m1814
  have hE2 : ([] ++ (ss.map strD)) ++ [[.v (.int .i64 s0v.bl), .v (.int .i64 s0v.sz), .v (.int .i64 s0v.fr), .v (.int .i64 s0v.to), .l 2 (s0v.its.map itD)]] = (ss ++ [s0v]).map strD := by rw [List.nil_append, List.map_append]; rfl
  rw [hE2] at m1815 Hz
  refine stepE_only 7 rfl (by kernel_rfl) rfl (fun K hK => ?_)
  refine e_call Hz Tryd.func10 rfl rfl rfl rfl (all_no (ss ++ [s0v]) _ _ _ _ ((m1815.rd (i := 85) rfl).any) (by simp; omega) (fun s hs => (hok s (by rcases List.mem_append.1 hs with h9 | h9; (exact h9); (rw [List.mem_singleton.1 h9]; exact List.mem_of_getElem? hs0))).1) (twice_no hsg (by omega) hs0)) ?_
  rintro e w1816 ⟨rfl, hb1816⟩
  have m1817 := m1815.later hb1816
  clear m1815
  clear hb1816
  refine ⟨_, rfl, ?_⟩; clear Hz Az; intro Az Hz
  refine hK _ _ (m1817.to ⟨il, il, il, il, il, il, il, il, il, il, il, il, il, trivial⟩) ?_; clear hK K
  refine goA hP1516 [8, 9, 10] 3 2303 4095 Hz (m1817.to ⟨il, il, il, il, il, il, il, il, il, il, il, il, il, trivial⟩) (.move rfl <| .extract rfl rfl <| .extract rfl rfl <| .nil) ?_
  clear Hz Az; intro Az Hz
  refine stepE_end 12 rfl (by kernel_rfl) rfl (by rfl) (fun K hK => ?_)
  refine e_storeW Hz m1817 84 rfl rfl rfl rfl rfl fct7 ?_
  clear m1817; intro w1822 m1822 hB1822
  clear hB1822
  refine hK _ _ ?_; clear hK
  refine goB hP1516 [13] 1 8191 16383 Hz (.assign rfl <| .nil) ?_
  clear Hz Az; intro Az Hz
  refine wpAnyE_done (by kernel_rfl) ?_ _
  refine hK43 _ _ ?_; clear hK43
  replace Hz : Has 105 [(6, _), (12, _), (13, _), (15, _)] Az := Hz.only [6, 12, 13, 15]
  refine sr fun K51 hK51 => ?_
  refine goCh Hz (.move rfl <| .eql rfl rfl <| .move rfl <| .eqlB rfl rfl U4 <| .move rfl <| .nil) ?_
  clear Hz Az; intro Az Hz
  refine bool_cases Hz (t := 93) rfl ?_ ?_
  rotate_left
  · intro hb _; exact absurd hb (by first | (simp; done) | (simp [hf9]; done) | (simp; omega))
  clear Hz; intro _ Hz
  refine goCh Hz (.moveZ rfl <| .eqlZ rfl rfl <| .pickT rfl rfl <| .move rfl <| .nil) ?_
  clear Hz Az; intro Az Hz
  refine bool_cases Hz (t := 97) rfl ?_ ?_
  rotate_left
  · intro hb _; exact absurd hb (by first | (simp; done) | (simp [hf9]; done) | (simp; omega))
  clear Hz; intro _ Hz
  refine goCh Hz (.moveZ rfl <| .eqlZ rfl rfl <| .moveZ rfl <| .nil) ?_
  clear Hz Az; intro Az Hz
  refine bool_cases Hz (t := 100) rfl ?_ ?_
  · intro hb _; exact absurd hb (by first | (simp; done) | (simp [hf9]; done) | (simp; omega))
  clear Hz; intro _ Hz
  refine goCh Hz (.moveZ rfl <| .eqlZ rfl rfl <| .pickFZ rfl rfl <| .pickT rfl rfl <| .assign rfl <| .nil) ?_
  clear Hz Az; intro Az Hz
  refine nl (hK51 _ _ ?_); clear hK51
  refine wp_ret ?_
  try dsimp only [Exit.then, Exit.inBlock]
  refine (ret1 (fn := Tryd.f5) Hz rfl rfl ?_)
  exact ⟨by first | rfl | (simp; done) | (simp [hf9]; done), m1822.below⟩
 refine e_alloc Hz m1516 83 fct21 rfl ?_
 clear Hz Az m1516; intro g1850 Az w1851 Hz m1851 hB1851 hg1851
 clear hB1851 hg1851
 refine hK _ _ (fun _ => (m1851.to ⟨il, il, il, il, il, il, il, il, il, il, il, il, il, trivial⟩)) ?_; clear hK K
 refine d_two 1 5 rfl rfl (by kernel_rfl) rfl rfl (fun K hK => ?_) (fun K hK => ?_)
 ·
  have m1852 := m1851.nilR 84 35 5
  clear m1851
  refine e_appR Hz m1852 84 rfl rfl rfl (m1852.rd (i := 70) rfl) U25 fct20 rfl rfl (by decide) (by simp; omega) rfl ?_
  clear Hz Az m1852; intro p1853 c1853 Az w1854 Hz m1854
  refine hK _ _ (fun _ => (m1854.to ⟨il, il, il, il, il, il, il, il, il, il, il, il, il, trivial⟩)) ?_; clear hK K
  refine stepE_only 5 rfl (by kernel_rfl) rfl (fun K hK => ?_)
  refine e_litR Hz m1854 85 (mm := 5) rfl (.cons rfl rfl (.cons (.v _) (.cons (.v _) (.cons (.v _) (.cons (.v _) (.cons (m1854.rd (i := 82) rfl) .nil))))) <| .nil) U25 fct20 rfl rfl rfl rfl rfl ?_
  clear Hz Az m1854; intro g1855 Az w1856 Hz m1856
  refine hK _ _ (m1856.to ⟨il, il, il, il, il, il, il, il, il, il, il, il, il, trivial⟩) ?_; clear hK K
  have m1858 := m1856.freezeR 85 rfl; clear m1856
  refine stepE_only 6 rfl (by kernel_rfl) rfl (fun K hK => ?_)
  refine e_appR Hz m1858 84 rfl rfl rfl (m1858.rd (i := 85) rfl) U25 fct20 rfl rfl (by decide) (by simp; omega) rfl ?_
  clear Hz Az m1858; intro p1857 c1857 Az w1859 Hz m1859
  refine hK _ _ (m1859.to ⟨il, il, il, il, il, il, il, il, il, il, il, il, il, trivial⟩) ?_; clear hK K
  have m1860 := m1859.freezeR 84 rfl; clear m1859
  have hE2 : ([] ++ (ss.map strD)) ++ [[.v (.int .i64 s0v.bl), .v (.int .i64 s0v.sz), .v (.int .i64 s0v.fr), .v (.int .i64 s0v.to), .l 2 (s0v.its.map itD)]] = (ss ++ [s0v]).map strD := by rw [List.nil_append, List.map_append]; rfl
  rw [hE2] at m1860 Hz
  refine stepE_only 7 rfl (by kernel_rfl) rfl (fun K hK => ?_)
  refine e_call Hz Tryd.func10 rfl rfl rfl rfl (all_no (ss ++ [s0v]) _ _ _ _ ((m1860.rd (i := 84) rfl).any) (by simp; omega) (fun s hs => (hok s (by rcases List.mem_append.1 hs with h9 | h9; (exact h9); (rw [List.mem_singleton.1 h9]; exact List.mem_of_getElem? hs0))).1) (twice_no hsg (by omega) hs0)) ?_
  rintro e w1861 ⟨rfl, hb1861⟩
  have m1862 := m1860.later hb1861
  clear m1860
  clear hb1861
  refine ⟨_, rfl, ?_⟩; clear Hz Az; intro Az Hz
  refine hK _ _ (m1862.to ⟨il, il, il, il, il, il, il, il, il, il, il, il, il, trivial⟩) ?_; clear hK K
  refine goA hP1516 [8, 9, 10] 3 2303 4095 Hz (m1862.to ⟨il, il, il, il, il, il, il, il, il, il, il, il, il, trivial⟩) (.move rfl <| .extract rfl rfl <| .extract rfl rfl <| .nil) ?_
  clear Hz Az; intro Az Hz
  refine stepE_end 12 rfl (by kernel_rfl) rfl (by rfl) (fun K hK => ?_)
  refine e_storeW Hz m1862 83 rfl rfl rfl rfl rfl fct7 ?_
  clear m1862; intro w1867 m1867 hB1867
  clear hB1867
  refine hK _ _ ?_; clear hK
  refine goB hP1516 [13] 1 8191 16383 Hz (.assign rfl <| .nil) ?_
  clear Hz Az; intro Az Hz
  refine wpAnyE_done (by kernel_rfl) ?_ _
  refine hK43 _ _ ?_; clear hK43
  replace Hz : Has 105 [(6, _), (12, _), (13, _), (15, _)] Az := Hz.only [6, 12, 13, 15]
  refine sr fun K52 hK52 => ?_
  refine goCh Hz (.move rfl <| .eql rfl rfl <| .move rfl <| .eqlB rfl rfl U4 <| .move rfl <| .nil) ?_
  clear Hz Az; intro Az Hz
  refine bool_cases Hz (t := 93) rfl ?_ ?_
  rotate_left
  · intro hb _; exact absurd hb (by first | (simp; done) | (simp [hf9]; done) | (simp; omega))
  clear Hz; intro _ Hz
  refine goCh Hz (.moveZ rfl <| .eqlZ rfl rfl <| .pickT rfl rfl <| .move rfl <| .nil) ?_
  clear Hz Az; intro Az Hz
  refine bool_cases Hz (t := 97) rfl ?_ ?_
  rotate_left
  · intro hb _; exact absurd hb (by first | (simp; done) | (simp [hf9]; done) | (simp; omega))
  clear Hz; intro _ Hz
  refine goCh Hz (.moveZ rfl <| .eqlZ rfl rfl <| .moveZ rfl <| .nil) ?_
  clear Hz Az; intro Az Hz
  refine bool_cases Hz (t := 100) rfl ?_ ?_
  · intro hb _; exact absurd hb (by first | (simp; done) | (simp [hf9]; done) | (simp; omega))
  clear Hz; intro _ Hz
  refine goCh Hz (.moveZ rfl <| .eqlZ rfl rfl <| .pickFZ rfl rfl <| .pickT rfl rfl <| .assign rfl <| .nil) ?_
  clear Hz Az; intro Az Hz
  refine nl (hK52 _ _ ?_); clear hK52
  refine wp_ret ?_
  try dsimp only [Exit.then, Exit.inBlock]
  refine (ret1 (fn := Tryd.f5) Hz rfl rfl ?_)
  exact ⟨by first | rfl | (simp; done) | (simp [hf9]; done), m1867.below⟩
 refine e_litR Hz m1851 84 (mm := 5) rfl (.cons rfl rfl (.cons (.v _) (.cons (.v _) (.cons (.v _) (.cons (.v _) (.cons (m1851.rd (i := 82) rfl) .nil))))) <| .nil) U25 fct20 rfl rfl rfl rfl rfl ?_
 clear Hz Az m1851; intro g1895 Az w1896 Hz m1896
 refine hK _ _ (fun _ => (m1896.to ⟨il, il, il, il, il, il, il, il, il, il, il, il, il, trivial⟩)) ?_; clear hK K
 have m1897 := m1896.nilR 85 35 5
 clear m1896
 refine stepE_only 1 rfl (by kernel_rfl) rfl (fun K hK => ?_)
 refine e_appR Hz m1897 85 rfl rfl rfl (m1897.rd (i := 70) rfl) U25 fct20 rfl rfl (by decide) (by simp; omega) rfl ?_
 clear Hz Az m1897; intro p1898 c1898 Az w1899 Hz m1899
 refine hK _ _ (m1899.to ⟨il, il, il, il, il, il, il, il, il, il, il, il, il, trivial⟩) ?_; clear hK K
 have m1901 := m1899.freezeR 84 rfl; clear m1899
 refine stepE_only 6 rfl (by kernel_rfl) rfl (fun K hK => ?_)
 refine e_appR Hz m1901 85 rfl rfl rfl (m1901.rd (i := 84) rfl) U25 fct20 rfl rfl (by decide) (by simp; omega) rfl ?_
 clear Hz Az m1901; intro p1900 c1900 Az w1902 Hz m1902
 refine hK _ _ (m1902.to ⟨il, il, il, il, il, il, il, il, il, il, il, il, il, trivial⟩) ?_; clear hK K
 have m1903 := m1902.freezeR 85 rfl; clear m1902
 have hE2 : ([] ++ (ss.map strD)) ++ [[.v (.int .i64 s0v.bl), .v (.int .i64 s0v.sz), .v (.int .i64 s0v.fr), .v (.int .i64 s0v.to), .l 2 (s0v.its.map itD)]] = (ss ++ [s0v]).map strD := by rw [List.nil_append, List.map_append]; rfl
 rw [hE2] at m1903 Hz
 refine stepE_only 7 rfl (by kernel_rfl) rfl (fun K hK => ?_)
 refine e_call Hz Tryd.func10 rfl rfl rfl rfl (all_no (ss ++ [s0v]) _ _ _ _ ((m1903.rd (i := 85) rfl).any) (by simp; omega) (fun s hs => (hok s (by rcases List.mem_append.1 hs with h9 | h9; (exact h9); (rw [List.mem_singleton.1 h9]; exact List.mem_of_getElem? hs0))).1) (twice_no hsg (by omega) hs0)) ?_
 rintro e w1904 ⟨rfl, hb1904⟩
 have m1905 := m1903.later hb1904
 clear m1903
 clear hb1904
 refine ⟨_, rfl, ?_⟩; clear Hz Az; intro Az Hz
 refine hK _ _ (m1905.to ⟨il, il, il, il, il, il, il, il, il, il, il, il, il, trivial⟩) ?_; clear hK K
 refine goA hP1516 [8, 9, 10] 3 2303 4095 Hz (m1905.to ⟨il, il, il, il, il, il, il, il, il, il, il, il, il, trivial⟩) (.move rfl <| .extract rfl rfl <| .extract rfl rfl <| .nil) ?_
 clear Hz Az; intro Az Hz
 refine stepE_end 12 rfl (by kernel_rfl) rfl (by rfl) (fun K hK => ?_)
 refine e_storeW Hz m1905 83 rfl rfl rfl rfl rfl fct7 ?_
 clear m1905; intro w1910 m1910 hB1910
 clear hB1910
 refine hK _ _ ?_; clear hK
 refine goB hP1516 [13] 1 8191 16383 Hz (.assign rfl <| .nil) ?_
 clear Hz Az; intro Az Hz
 refine wpAnyE_done (by kernel_rfl) ?_ _
 refine hK43 _ _ ?_; clear hK43
 replace Hz : Has 105 [(6, _), (12, _), (13, _), (15, _)] Az := Hz.only [6, 12, 13, 15]
 refine sr fun K53 hK53 => ?_
 refine goCh Hz (.move rfl <| .eql rfl rfl <| .move rfl <| .eqlB rfl rfl U4 <| .move rfl <| .nil) ?_
 clear Hz Az; intro Az Hz
 refine bool_cases Hz (t := 93) rfl ?_ ?_
 rotate_left
 · intro hb _; exact absurd hb (by first | (simp; done) | (simp [hf9]; done) | (simp; omega))
 clear Hz; intro _ Hz
 refine goCh Hz (.moveZ rfl <| .eqlZ rfl rfl <| .pickT rfl rfl <| .move rfl <| .nil) ?_
 clear Hz Az; intro Az Hz
 refine bool_cases Hz (t := 97) rfl ?_ ?_
 rotate_left
 · intro hb _; exact absurd hb (by first | (simp; done) | (simp [hf9]; done) | (simp; omega))
 clear Hz; intro _ Hz
 refine goCh Hz (.moveZ rfl <| .eqlZ rfl rfl <| .moveZ rfl <| .nil) ?_
 clear Hz Az; intro Az Hz
 refine bool_cases Hz (t := 100) rfl ?_ ?_
 · intro hb _; exact absurd hb (by first | (simp; done) | (simp [hf9]; done) | (simp; omega))
 clear Hz; intro _ Hz
 refine goCh Hz (.moveZ rfl <| .eqlZ rfl rfl <| .pickFZ rfl rfl <| .pickT rfl rfl <| .assign rfl <| .nil) ?_
 clear Hz Az; intro Az Hz
 refine nl (hK53 _ _ ?_); clear hK53
 refine wp_ret ?_
 try dsimp only [Exit.then, Exit.inBlock]
 refine (ret1 (fn := Tryd.f5) Hz rfl rfl ?_)
 exact ⟨by first | rfl | (simp; done) | (simp [hf9]; done), m1910.below⟩
end Go.Proofs.YtflcgpajodfkoaaDoor.K
