/- ChainOverrides' walk. -/
import Derived.Test.YtflcgpajodfkoaaDoorCha7m
namespace Go.Proofs.YtflcgpajodfkoaaDoor.K
open Go.ChangeShapes Go.WideShapes Go.ChangeAt Go.RowKit
set_option linter.unusedVariables false
set_option linter.unusedSimpArgs false
set_option maxRecDepth 100000
set_option maxHeartbeats 4000000
theorem overrides_walk (l ts : List Int) (pl : Option Addr) (cl : Nat) (pt0 : Option Addr) (ct0 : Nat) (i9 : Int) (w0 : World) (h1 : Rd (fun _ => True) w0 (.slice pl l.length cl) (.ns .u8 l)) (hlb : ∀ j, j < l.length → 0 ≤ l.getD j 0 ∧ l.getD j 0 ≤ 255) (h2 : Rd (fun _ => True) w0 (.slice pt0 ts.length ct0) (.ns .u8 ts)) (htb : ∀ j, j < ts.length → 0 ≤ ts.getD j 0 ∧ ts.getD j 0 ≤ 255) (hi9 : 0 ≤ i9 ∧ i9 ≤ 255) :
   Calls Tryd.prog 6 #[.slice pl l.length cl, .slice pt0 ts.length ct0, .int .u8 i9] w0 fun e w' => e = .returned (.bool true) ∧ Below w0.heap.size w0 w' := by
 refine ent3 Tryd.func6 rfl Tryd.ntmps6 fun Az Hz => ?_
 have m0 := MemOk.start (fun _ => False) w0
 refine regS Hz (.assign rfl <| .nil) ?_
 clear Hz Az; intro Az Hz
 refine wp_seq_k (fun K0 hK0 => ?_)
 refine zsr fun K1 hK1 => ?_
 refine wpList_plain rfl (fun K hK => ?_)
 refine e_call Hz Tryd.func8 rfl rfl rfl rfl (cknown_any _) ?_
 rintro e w2 ⟨rfl, hb2⟩
 have m3 := m0.later hb2
 clear m0
 clear hb2
 refine ⟨_, rfl, ?_⟩; clear Hz Az; intro Az Hz
 refine hK _ _ ?_; clear hK
 refine goCh Hz (.not rfl .nil) ?_
 clear Hz Az; intro Az Hz
 refine znl (hK1 _ _ ?_); clear hK1
 refine wp_cond_false (Hz.ev (x := .tmp 22) rfl) ?_
 refine zss (hK0 _ _ ?_); clear hK0
 refine wp_seq_k (fun K2 hK2 => ?_)
 refine zsr fun K3 hK3 => ?_
 refine goCh Hz (.move rfl <| .len rfl U22 <| .gtr rfl rfl <| .move rfl <| .nil) ?_
 clear Hz Az; intro Az Hz
 refine bool_cases Hz (t := 26) rfl ?_ ?_
 ·
  clear Hz; intro hb14 Hz; try simp only [QQ, Qax] at hb14
  refine goCh Hz (.sk <| .sk <| .sk <| .pickT rfl rfl <| .move rfl <| .sk <| .sk <| .sk <| .pickT rfl rfl <| .nil) ?_
  clear Hz Az; intro Az Hz
  refine znl (hK3 _ _ ?_); clear hK3
  refine wp_cond_true (Hz.ev (x := .tmp 35) rfl) ?_
  replace Hz : Has 152 [(0, _), (1, _), (2, _), (6, _)] Az := Hz.only [0, 1, 2, 6]
  refine regS Hz (.assign rfl <| .nil) ?_
  clear Hz Az; intro Az Hz
  refine wp_ret ?_
  try dsimp only [Exit.then, Exit.inBlock]
  refine (ret1 (fn := Tryd.f6) Hz rfl rfl ?_)
  exact ⟨by first | rfl | (simp; done) | (rw [hMi, hke]; simp), m3.below⟩
 clear Hz; intro hb14 Hz; try simp only [QQ, Qax] at hb14
 have hl80 : l.length ≤ 80 := by have := hb14; first | omega | (simp at this; omega)
 refine goCh Hz (.moveZ rfl <| .lenZ rfl U22 <| .gtrZ rfl rfl <| .pickF rfl rfl <| .move rfl <| .nil) ?_
 clear Hz Az; intro Az Hz
 refine bool_cases Hz (t := 31) rfl ?_ ?_
 ·
  clear Hz; intro hb31 Hz; try simp only [QQ, Qax] at hb31
  refine goCh Hz (.sk <| .sk <| .sk <| .pickT rfl rfl <| .nil) ?_
  clear Hz Az; intro Az Hz
  refine znl (hK3 _ _ ?_); clear hK3
  refine wp_cond_true (Hz.ev (x := .tmp 35) rfl) ?_
  replace Hz : Has 152 [(0, _), (1, _), (2, _), (6, _)] Az := Hz.only [0, 1, 2, 6]
  refine regS Hz (.assign rfl <| .nil) ?_
  clear Hz Az; intro Az Hz
  refine wp_ret ?_
  try dsimp only [Exit.then, Exit.inBlock]
  refine (ret1 (fn := Tryd.f6) Hz rfl rfl ?_)
  exact ⟨by first | rfl | (simp; done) | (rw [hMi, hke]; simp), m3.below⟩
 clear Hz; intro hb31 Hz; try simp only [QQ, Qax] at hb31
 have ht8 : ts.length ≤ 6 := by have := hb31; first | omega | (simp at this; omega)
 refine goCh Hz (.moveZ rfl <| .lenZ rfl U22 <| .lssZ rfl rfl <| .pickF rfl rfl <| .nil) ?_
 clear Hz Az; intro Az Hz
 refine znl (hK3 _ _ ?_); clear hK3
 refine bool_cases Hz (t := 35) rfl ?_ ?_
 ·
  clear Hz; intro hb42 Hz; try simp only [QQ, Qax] at hb42
  refine wp_cond_true (Hz.ev (x := .tmp 35) rfl) ?_
  replace Hz : Has 152 [(0, _), (1, _), (2, _), (6, _)] Az := Hz.only [0, 1, 2, 6]
  refine regS Hz (.assign rfl <| .nil) ?_
  clear Hz Az; intro Az Hz
  refine wp_ret ?_
  try dsimp only [Exit.then, Exit.inBlock]
  refine (ret1 (fn := Tryd.f6) Hz rfl rfl ?_)
  exact ⟨by first | rfl | (simp; done) | (rw [hMi, hke]; simp), m3.below⟩
 clear Hz; intro hb42 Hz; try simp only [QQ, Qax] at hb42
 have ht2 : 2 ≤ ts.length := by have := hb42; first | omega | (simp at this; omega)
 refine wp_cond_false (Hz.ev (x := .tmp 35) rfl) ?_
 refine zss (hK2 _ _ ?_); clear hK2
 replace Hz : Has 152 [(0, _), (1, _), (2, _), (6, _)] Az := Hz.only [0, 1, 2, 6]
 refine zsr fun K4 hK4 => ?_
 refine goCh Hz (.move rfl <| .move rfl <| .nil) ?_
 clear Hz Az; intro Az Hz
 refine wpList_plain rfl (fun K hK => ?_)
 refine e_call Hz Tryd.func9 rfl rfl rfl rfl (streams_any l ts _ _ _ _ _ ((h1.now' m3 rfl).any) ((h2.now' m3 rfl).any) (by omega) hlb (by omega) htb) ?_
 rintro e w50 ⟨y, ss, p50, pp50, pn50, pw50, c50, np50, cp50, nn50, cn50, cw50, rfl, hS, hsl, hsg, hd50, he50, hb50⟩
 have m51 := m3.callF2 70 71 rfl rfl hb50 hd50 he50
 clear m3
 clear hb50 hd50 he50
 have hsm := hS.sm
 have hok := hsg.oks hS (by omega) (by omega)
 have hss9 : ss.length ≤ 8 := by omega
 have htot : totL ss ≤ 1000000 := by have := tot_bd (fun s hs => (hok s hs).1.len); omega
 obtain ⟨kq, hkq, hkl⟩ := tmod_natC (a := i9) (n := ss.length - 1) hi9.1 (by omega)
 obtain ⟨A, B, f9, g9, n9, hsA, hsB, hfol, hoA, hoB, hAb, hn9, hAi, hBi, hMi⟩ := over_facts hS (by omega) hsg (q := kq) (by omega)
 refine ⟨_, rfl, ?_⟩; clear Hz Az; intro Az Hz
 refine hK _ _ ?_; clear hK
 refine goCh Hz (.move rfl <| .extract rfl rfl <| .extract rfl rfl <| .nil) ?_
 clear Hz Az; intro Az Hz
 refine wpList_plain rfl (fun K hK => ?_)
 refine e_alloc Hz m51 72 fct12 rfl ?_
 clear Hz Az m51; intro g56 Az w57 Hz m57 hB57 hg57
 clear hB57 hg57
 refine hK _ _ ?_; clear hK
 refine goCh Hz (.assign rfl .nil) ?_
 clear Hz Az; intro Az Hz
 refine wpList_plain rfl (fun K hK => ?_)
 refine e_storeW Hz m57 72 rfl rfl rfl rfl rfl fct10 ?_
 clear m57; intro w59 m59 hB59
 clear hB59
 refine hK _ _ ?_; clear hK
 refine znl (hK4 _ _ ?_); clear hK4
 replace Hz : Has 152 [(2, _), (6, _), (7, _)] Az := Hz.only [2, 6, 7]
 refine regS Hz (.move rfl <| .conv rfl U5 U3 (IntWalk.i64_in _ (by omega)) <| .move rfl <| .len rfl U25 <| .sub rfl rfl (r := ((ss.length - 1 : Nat) : Int)) (by rw [IntWalk.i64_in _ (by omega)]; omega) <| .rem rfl rfl (by omega) (r := (kq : Int)) hkq <| .add rfl rfl (r := ((kq + 1 : Nat) : Int)) (by rw [IntWalk.i64_in _ (by omega)]; omega) <| .assign rfl <| .nil) ?_
 clear Hz Az; intro Az Hz
 refine wp_seq_k (fun K5 hK5 => ?_)
 have hC5 : ∀ (a : Act) (w : World), (∃ (B10 B11 : Nat) (pa pb : Option Addr) (ca cb : Nat), Has 152 [(10, .pointer (some ⟨B10, 0, none⟩)), (11, .pointer (some ⟨B11, 0, none⟩))] a ∧ MemOk (cn w0) w0 [(10, .box B10 35 [.int .i64 A.bl, .int .i64 A.sz, .int .i64 A.fr, .int .i64 A.to, .slice pa (A.its.map itD).length ca]), (11, .box B11 35 [.int .i64 B.bl, .int .i64 B.sz, .int .i64 B.fr, .int .i64 B.to, .slice pb (B.its.map itD).length cb]), (31, .dat (.slice pa (A.its.map itD).length ca) (.l 2 (A.its.map itD))), (32, .dat (.slice pb (B.its.map itD).length cb) (.l 2 (B.its.map itD)))] w) → K5 a w := by
   clear Hz m59
   rintro Az w69 ⟨B10, B11, pa, pb, ca, cb, Hz, m69⟩
   refine hK5 _ _ ?_; clear hK5
   refine zsr fun K6 hK6 => ?_
   refine goCh Hz (.loadBR m69 (i := 10) rfl rfl U35 rfl fct7 (by simp) (by dsimp only [List.drop, List.take] <;> rfl) <| .loadBR m69 (i := 11) rfl rfl U35 rfl fct7 (by simp) (by dsimp only [List.drop, List.take] <;> rfl) <| .nil) ?_
   clear Hz Az; intro Az Hz
   refine wpList_plain rfl (fun K hK => ?_)
   refine e_call Hz Tryd.func11 rfl rfl rfl rfl (merge_yes A B _ _ _ _ _ _ _ ((m69.rd (i := 31) rfl).any) ((m69.rd (i := 32) rfl).any) hoA.1 hoB.1 hoA.2 hoB.2 hfol) ?_
   rintro e w74 ⟨p74, c74, rfl, hd74, hb74⟩
   have m75 := m69.callF 100 rfl hb74 hd74
   clear m69
   clear hb74 hd74
   refine ⟨_, rfl, ?_⟩; clear Hz Az; intro Az Hz
   refine hK _ _ ?_; clear hK
   refine goCh Hz (.move rfl <| .extract rfl rfl <| .extract rfl rfl <| .nil) ?_
   clear Hz Az; intro Az Hz
   refine wpList_plain rfl (fun K hK => ?_)
   refine e_alloc Hz m75 101 fct21 rfl ?_
   clear Hz Az m75; intro g80 Az w81 Hz m81 hB81 hg81
   clear hB81 hg81
   refine hK _ _ ?_; clear hK
   refine wpList_plain rfl (fun K hK => ?_)
   refine e_storeW Hz m81 101 rfl rfl rfl rfl rfl fct7 ?_
   clear m81; intro w82 m82 hB82
   clear hB82
   refine hK _ _ ?_; clear hK
   refine goCh Hz (.assign rfl .nil) ?_
   clear Hz Az; intro Az Hz
   refine znl (hK6 _ _ ?_); clear hK6
   refine wp_seq_k (fun K7 hK7 => ?_)
   replace Hz : Has 152 [(10, _), (11, _), (12, _), (13, _)] Az := Hz.only [10, 11, 12, 13]
   refine zsr fun K8 hK8 => ?_
   refine goCh Hz (.move rfl <| .neq rfl rfl <| .move rfl <| .nil) ?_
   clear Hz Az; intro Az Hz
   refine bool_cases Hz (t := 66) rfl ?_ ?_
   · intro hb _; exact absurd hb (by first | (simp [mergeV]; done) | (simp [wantS]; done) | (simp; done) | (simp; omega))
   clear Hz; intro _ Hz
   refine goCh Hz (.faZ 2 rfl U35 <| .loadB1Z m82 (i := 101) rfl rfl rfl U2 rfl <| .faZ 2 rfl U35 <| .loadB1Z m82 (i := 10) rfl rfl rfl U2 rfl <| .neqZ rfl rfl <| .pickF rfl rfl <| .move rfl <| .nil) ?_
   clear Hz Az; intro Az Hz
   refine bool_cases Hz (t := 73) rfl ?_ ?_
   · intro hb _; exact absurd hb (by first | (simp [mergeV]; done) | (simp [wantS]; done) | (simp; done) | (simp; omega))
   clear Hz; intro _ Hz
   refine goCh Hz (.faZ 3 rfl U35 <| .loadB1Z m82 (i := 101) rfl rfl rfl U2 rfl <| .faZ 3 rfl U35 <| .loadB1Z m82 (i := 11) rfl rfl rfl U2 rfl <| .neqZ rfl rfl <| .pickF rfl rfl <| .nil) ?_
   clear Hz Az; intro Az Hz
   refine znl (hK8 _ _ ?_); clear hK8
   refine bool_cases Hz (t := 79) rfl ?_ ?_
   · intro hb _; exact absurd hb (by first | (simp [mergeV]; done) | (simp [wantS]; done) | (simp; done) | (simp; omega))
   clear Hz; intro _ Hz
   refine wp_cond_false (Hz.ev (x := .tmp 79) rfl) ?_
   refine zss (hK7 _ _ ?_); clear hK7
   replace Hz : Has 152 [(10, _), (11, _), (12, _)] Az := Hz.only [10, 11, 12]
   refine regS Hz (.assign rfl <| .nil) ?_
   clear Hz Az; intro Az Hz
   refine wp_seq_k (fun K9 hK9 => ?_)
   refine regS Hz (.assign rfl <| .nil) ?_
   clear Hz Az; intro Az Hz
   refine wp_block ?_
   refine wp_loop_ghost (fun g a w => ∃ (k : Nat) (B10 B11 B12 : Nat) (pa pb pm : Option Addr) (ca cb cm : Nat), k ≤ n9 ∧ g = n9 - k ∧ Has 152 [(10, .pointer (some ⟨B10, 0, none⟩)), (11, .pointer (some ⟨B11, 0, none⟩)), (12, .pointer (some ⟨B12, 0, none⟩)), (14, .int .i64 (((fmI (fun k => (g9 k).or (f9 k)) (List.range k)).length : Nat) : Int)), (15, .int .i64 (k : Int))] a ∧ MemOk (cn w0) w0 [(10, .box B10 35 [.int .i64 A.bl, .int .i64 A.sz, .int .i64 A.fr, .int .i64 A.to, .slice pa (A.its.map itD).length ca]), (11, .box B11 35 [.int .i64 B.bl, .int .i64 B.sz, .int .i64 B.fr, .int .i64 B.to, .slice pb (B.its.map itD).length cb]), (31, .dat (.slice pa (A.its.map itD).length ca) (.l 2 (A.its.map itD))), (32, .dat (.slice pb (B.its.map itD).length cb) (.l 2 (B.its.map itD))), (12, .box B12 35 [.int .i64 (mergeV A B).bl, .int .i64 (mergeV A B).sz, .int .i64 (mergeV A B).fr, .int .i64 (mergeV A B).to, .slice pm (mergeV A B).its.length cm]), (33, .dat (.slice pm (mergeV A B).its.length cm) (.l 2 ((mergeV A B).its.map itD)))] w) (n9) ?_ ?_
   · exact ⟨0, _, _, _, _, _, _, _, _, _, Nat.zero_le _, rfl, Hz.only [10, 11, 12, 14, 15], m82.ren [(10, 10), (11, 11), (31, 31), (32, 32), (12, 101), (33, 100)] (by decide)⟩
   clear Hz m82
   rintro g Az w110 ⟨k, B10, B11, B12, pa, pb, pm, ca, cb, cm, hkl, hg, Hz, m110⟩
   refine wp_seq_k (fun K10 hK10 => ?_)
   refine regS Hz (.move rfl <| .fa 0 rfl U35 <| .lb m110 10 U3 rfl rfl rfl <| .lss rfl rfl <| .nil) ?_
   clear Hz Az; intro Az Hz
   refine bool_cases Hz (t := 83) rfl ?_ ?_
   ·
    clear Hz; intro hb115 Hz; try simp only [QQ, Qax] at hb115
    have hk : k < n9 := by have := hb115; rw [hAb] at this; omega
    refine wp_cond_true (Hz.ev (x := .tmp 83) rfl) ?_
    refine zss (hK10 _ _ ?_); clear hK10
    refine wp_seq_k (fun K11 hK11 => ?_)
    refine wp_block ?_
    refine regS Hz (.assign rfl <| .assign rfl <| .nil) ?_
    clear Hz Az; intro Az Hz
    refine wp_seq_k (fun K12 hK12 => ?_)
    refine zsr fun K13 hK13 => ?_
    refine goCh Hz (.loadBR m110 (i := 10) rfl rfl U35 rfl fct7 (by simp) (by dsimp only [List.drop, List.take] <;> rfl) <| .loadBR m110 (i := 11) rfl rfl U35 rfl fct7 (by simp) (by dsimp only [List.drop, List.take] <;> rfl) <| .nil) ?_
    clear Hz Az; intro Az Hz
    refine wpList_plain rfl (fun K hK => ?_)
    refine e_litR Hz m110 200 (mm := 5) rfl (.cons rfl rfl (.cons (.v _) (.cons (.v _) (.cons (.v _) (.cons (.v _) (.cons (m110.rd (i := 31) rfl) .nil))))) <| .cons rfl rfl (.cons (.v _) (.cons (.v _) (.cons (.v _) (.cons (.v _) (.cons (m110.rd (i := 32) rfl) .nil))))) <| .nil) U25 fct20 rfl rfl rfl rfl rfl ?_
    clear Hz Az m110; intro g122 Az w123 Hz m123
    refine hK _ _ ?_; clear hK
    refine goCh Hz (.len rfl U25 <| .move rfl <| .nil) ?_
    clear Hz Az; intro Az Hz
    refine znl (hK13 _ _ ?_); clear hK13
    refine wp_block ?_
    have m126 := m123.freezeR 200 rfl; clear m123
    refine wp_loop_ghost (fun g a w => ∃ (c9 : Nat) (B10 B11 B12 : Nat) (pa pb pm : Option Addr) (ca cb cm : Nat) (pr : Option Addr) (cr : Nat), c9 ≤ 2 ∧ g = 2 - c9 ∧ Has 152 [(10, .pointer (some ⟨B10, 0, none⟩)), (11, .pointer (some ⟨B11, 0, none⟩)), (12, .pointer (some ⟨B12, 0, none⟩)), (14, .int .i64 (((fmI (fun k => (g9 k).or (f9 k)) (List.range k)).length : Nat) : Int)), (15, .int .i64 (k : Int)), (16, .string (wantS (lkAll ([A, B].take c9) k))), (17, .bool (lkAll ([A, B].take c9) k).isSome), (88, .slice pr 2 cr), (89, .int .i64 2), (90, .int .i64 (c9 : Int))] a ∧ MemOk (cn w0) w0 [(10, .box B10 35 [.int .i64 A.bl, .int .i64 A.sz, .int .i64 A.fr, .int .i64 A.to, .slice pa (A.its.map itD).length ca]), (11, .box B11 35 [.int .i64 B.bl, .int .i64 B.sz, .int .i64 B.fr, .int .i64 B.to, .slice pb (B.its.map itD).length cb]), (31, .dat (.slice pa (A.its.map itD).length ca) (.l 2 (A.its.map itD))), (32, .dat (.slice pb (B.its.map itD).length cb) (.l 2 (B.its.map itD))), (12, .box B12 35 [.int .i64 (mergeV A B).bl, .int .i64 (mergeV A B).sz, .int .i64 (mergeV A B).fr, .int .i64 (mergeV A B).to, .slice pm (mergeV A B).its.length cm]), (33, .dat (.slice pm (mergeV A B).its.length cm) (.l 2 ((mergeV A B).its.map itD))), (34, .dat (.slice pr 2 cr) (.l 5 ([A, B].map strD)))] w) (2) ?_ ?_
    · exact ⟨0, _, _, _, _, _, _, _, _, _, _, _, by decide, rfl, Hz.only [10, 11, 12, 14, 15, 16, 17, 88, 89, 90], m126.ren [(10, 10), (11, 11), (31, 31), (32, 32), (12, 12), (33, 33), (34, 200)] (by decide)⟩
    clear Hz m126
    rintro g Az w127 ⟨c9, B10, B11, B12, pa, pb, pm, ca, cb, cm, pr, cr, hcl, hg2, Hz, m127⟩
    refine regS Hz (.lss rfl rfl <| .nil) ?_
    clear Hz Az; intro Az Hz
    refine wp_seq_k (fun K14 hK14 => ?_)
    refine bool_cases Hz (t := 91) rfl ?_ ?_
    ·
     clear Hz; intro hb129 Hz; try simp only [QQ, Qax] at hb129
     have hc2 : c9 < 2 := by have := hb129; first | omega | (simp at this; omega)
     obtain ⟨xv, hxv⟩ : ∃ e, [A, B][c9]? = some e := ⟨_, List.getElem?_eq_getElem (by simpa using hc2)⟩
     have hxl : xv.its.length ≤ 256 := by have h9 := List.mem_of_getElem? hxv; simp at h9; rcases h9 with rfl | rfl; (exact hoA.1.len); (exact hoB.1.len)
     refine wp_cond_true (Hz.ev (x := .tmp 91) rfl) ?_
     refine zss (hK14 _ _ ?_); clear hK14
     refine wp_seq_k (fun K15 hK15 => ?_)
     refine wp_block ?_
     refine zsr fun K16 hK16 => ?_
     obtain ⟨b131, o131, vs131, hp131, hR131, ho131, m131⟩ := m127.openR (i := 34) rfl (c9) (r := [.v (.int .i64 xv.bl), .v (.int .i64 xv.sz), .v (.int .i64 xv.fr), .v (.int .i64 xv.to), .l 2 (xv.its.map itD)]) (strD_get hxv) 300 rfl
     cases hp131; clear m127 ho131
     rcases hR131 with _ | ⟨hd131_0, _ | ⟨hd131_1, _ | ⟨hd131_2, _ | ⟨hd131_3, _ | ⟨hd131_4, _ | _⟩⟩⟩⟩⟩
     obtain rfl := hd131_0.v_out
     clear hd131_0
     obtain rfl := hd131_1.v_out
     clear hd131_1
     obtain rfl := hd131_2.v_out
     clear hd131_2
     obtain rfl := hd131_3.v_out
     clear hd131_3
     obtain ⟨p132, c132, hv132, hc132⟩ := hd131_4.l_shape; subst hv132
     have m132 := m131.dat 301 rfl (hd131_4.cast (fun _ h => (free_add rfl h))); clear m131 hd131_4
     refine goCh Hz (.c rfl (fun _ h => y_idx h rfl rfl U25 fct7 (c9) rfl (by omega)) <| .loadCR m132 (i := 300) rfl rfl U35 rfl fct7 <| .nil) ?_
     clear Hz Az; intro Az Hz
     refine wpList_plain rfl (fun K hK => ?_)
     refine e_alloc Hz m132 302 fct21 rfl ?_
     clear Hz Az m132; intro g135 Az w136 Hz m136 hB136 hg136
     clear hB136 hg136
     refine hK _ _ ?_; clear hK
     refine wpList_plain rfl (fun K hK => ?_)
     refine e_storeW Hz m136 302 rfl rfl rfl rfl rfl fct7 ?_
     clear m136; intro w137 m137 hB137
     clear hB137
     refine hK _ _ ?_; clear hK
     refine znl (hK16 _ _ ?_); clear hK16
     refine regS Hz (.assign rfl <| .nil) ?_
     clear Hz Az; intro Az Hz
     refine wp_block ?_
     refine wp_loop_ghost (fun g a w => ∃ (j : Nat) (B10 B11 B12 : Nat) (pa pb pm : Option Addr) (ca cb cm : Nat) (pr px : Option Addr) (cr cx B19 : Nat), j ≤ xv.its.length ∧ g = xv.its.length - j ∧ Has 152 [(10, .pointer (some ⟨B10, 0, none⟩)), (11, .pointer (some ⟨B11, 0, none⟩)), (12, .pointer (some ⟨B12, 0, none⟩)), (14, .int .i64 (((fmI (fun k => (g9 k).or (f9 k)) (List.range k)).length : Nat) : Int)), (15, .int .i64 (k : Int)), (16, .string (wantS (lkp (xv.its.take j) k (lkAll ([A, B].take c9) k)))), (17, .bool (lkp (xv.its.take j) k (lkAll ([A, B].take c9) k)).isSome), (88, .slice pr 2 cr), (89, .int .i64 2), (90, .int .i64 (c9 : Int)), (19, .pointer (some ⟨B19, 0, none⟩)), (20, .int .i64 (j : Int))] a ∧ MemOk (cn w0) w0 [(10, .box B10 35 [.int .i64 A.bl, .int .i64 A.sz, .int .i64 A.fr, .int .i64 A.to, .slice pa (A.its.map itD).length ca]), (11, .box B11 35 [.int .i64 B.bl, .int .i64 B.sz, .int .i64 B.fr, .int .i64 B.to, .slice pb (B.its.map itD).length cb]), (31, .dat (.slice pa (A.its.map itD).length ca) (.l 2 (A.its.map itD))), (32, .dat (.slice pb (B.its.map itD).length cb) (.l 2 (B.its.map itD))), (12, .box B12 35 [.int .i64 (mergeV A B).bl, .int .i64 (mergeV A B).sz, .int .i64 (mergeV A B).fr, .int .i64 (mergeV A B).to, .slice pm (mergeV A B).its.length cm]), (33, .dat (.slice pm (mergeV A B).its.length cm) (.l 2 ((mergeV A B).its.map itD))), (34, .dat (.slice pr 2 cr) (.l 5 ([A, B].map strD))), (19, .box B19 35 [.int .i64 xv.bl, .int .i64 xv.sz, .int .i64 xv.fr, .int .i64 xv.to, .slice px (xv.its.map itD).length cx]), (35, .dat (.slice px (xv.its.map itD).length cx) (.l 2 (xv.its.map itD)))] w) (xv.its.length) ?_ ?_
     · exact ⟨0, _, _, _, _, _, _, _, _, _, _, _, _, _, _, Nat.zero_le _, rfl, Hz.only [10, 11, 12, 14, 15, 16, 17, 88, 89, 90, 19, 20], m137.ren [(10, 10), (11, 11), (31, 31), (32, 32), (12, 12), (33, 33), (34, 34), (19, 302), (35, 301)] (by decide)⟩
     clear Hz m137
     rintro g Az w139 ⟨j, B10, B11, B12, pa, pb, pm, ca, cb, cm, pr, px, cr, cx, B19, hjl, hg3, Hz, m139⟩
     refine wp_seq_k (fun K17 hK17 => ?_)
     refine regS Hz (.move rfl <| .fa 4 rfl U35 <| .lb m139 19 U33 rfl rfl rfl <| .len rfl U33 <| .lss rfl rfl <| .nil) ?_
     clear Hz Az; intro Az Hz
     refine bool_cases Hz (t := 98) rfl ?_ ?_
     ·
      clear Hz; intro hb145 Hz; try simp only [QQ, Qax] at hb145
      have hj : j < xv.its.length := by have := hb145; first | (simp at this; omega) | omega
      obtain ⟨⟨xb, xd⟩, hxs⟩ : ∃ e, xv.its[j]? = some e := ⟨_, List.getElem?_eq_getElem hj⟩
      refine wp_cond_true (Hz.ev (x := .tmp 98) rfl) ?_
      refine zss (hK17 _ _ ?_); clear hK17
      refine wp_seq_k (fun K18 hK18 => ?_)
      refine wp_block ?_
      refine zsr fun K19 hK19 => ?_
      refine goCh Hz (.fa 4 rfl U35 <| .lb m139 19 U33 rfl rfl rfl <| .move rfl <| .nil) ?_
      clear Hz Az; intro Az Hz
      obtain ⟨b153, o153, vs153, hp153, hR153, ho153, m153⟩ := m139.openR (i := 35) rfl (j) (r := [.v (.int .i64 xb), .ns .u8 xd]) (itD_get hxs) 400 rfl
      cases hp153; clear m139 ho153
      rcases hR153 with _ | ⟨hd153_0, _ | ⟨hd153_1, _ | _⟩⟩
      obtain rfl := hd153_0.v_out
      clear hd153_0
      obtain ⟨p154, c154, hv154, hc154⟩ := hd153_1.ns_shape; subst hv154
      have m154 := m153.dat 401 rfl (hd153_1.cast (fun _ h => (free_add rfl h))); clear m153 hd153_1
      refine goCh Hz (.c rfl (fun _ h => y_idx h rfl rfl U33 fct2 (j) rfl (by rw [List.length_map]; omega)) <| .fieldAddrQ 0 rfl U58 rfl (s := 0) (by kernel_rfl) rfl <| .loadC0 m154 (i := 400) rfl rfl U3 rfl <| .move rfl <| .eql rfl rfl <| .nil) ?_
      clear Hz Az; intro Az Hz
      refine znl (hK19 _ _ ?_); clear hK19
      refine bool_cases Hz (t := 108) rfl ?_ ?_
      ·
       clear Hz; intro hb160 Hz; try simp only [QQ, Qax] at hb160
       have hxk := hb160
       refine wp_cond_true (Hz.ev (x := .tmp 108) rfl) ?_
       replace Hz : Has 152 [(10, _), (11, _), (12, _), (14, _), (15, _), (16, _), (17, _), (88, _), (89, _), (90, _), (19, _), (20, _)] Az := Hz.only [10, 11, 12, 14, 15, 16, 17, 88, 89, 90, 19, 20]
       refine wp_region_lit ?_
       refine goCh Hz (.fa 4 rfl U35 <| .lb m154 19 U33 rfl rfl rfl <| .move rfl <| .nil) ?_
       clear Hz Az; intro Az Hz
       obtain ⟨b165, o165, vs165, hp165, hR165, ho165, m165⟩ := m154.openR (i := 35) rfl (j) (r := [.v (.int .i64 xb), .ns .u8 xd]) (itD_get hxs) 402 rfl
       cases hp165; clear m154 ho165
       rcases hR165 with _ | ⟨hd165_0, _ | ⟨hd165_1, _ | _⟩⟩
       obtain rfl := hd165_0.v_out
       clear hd165_0
       obtain ⟨p166, c166, hv166, hc166⟩ := hd165_1.ns_shape; subst hv166
       have m166 := m165.dat 403 rfl (hd165_1.cast (fun _ h => (free_add rfl h))); clear m165 hd165_1
       refine goCh Hz (.c rfl (fun _ h => y_idx h rfl rfl U33 fct2 (j) rfl (by rw [List.length_map]; omega)) <| .fieldAddrQ 1 rfl U58 rfl (s := 0) (by kernel_rfl) rfl <| .loadC1 m166 (i := 402) (q := 1) rfl rfl rfl U22 rfl <| .str rfl (m166.nums (i := 403) rfl) U22 U5 U9 <| .assign rfl <| .assign rfl <| .nil) ?_
       clear Hz Az; intro Az Hz
       refine znl (hK18 _ _ ?_); clear hK18
       replace Hz : Has 152 [(10, _), (11, _), (12, _), (14, _), (15, _), (16, _), (17, _), (88, _), (89, _), (90, _), (19, _), (20, _)] Az := Hz.only [10, 11, 12, 14, 15, 16, 17, 88, 89, 90, 19, 20]
       refine wp_region_lit ?_
       refine goCh Hz (.move rfl <| .add rfl rfl (r := ((j + 1 : Nat) : Int)) (by rw [IntWalk.i64_in _ (by omega)]; omega) <| .assign rfl <| .nil) ?_
       clear Hz Az; intro Az Hz
       refine wpList_nil ?_
       show ∃ n', n' < _ ∧ _
       have hE : lkp (xv.its.take (j + 1)) k (lkAll ([A, B].take c9) k) = some xd := lkp_yes hxs hxk
       rw [show (strOfNums xd) = wantS (some xd) from rfl] at Hz
       have hT : (some xd : Option (List Int)).isSome = true := rfl
       exact ⟨xv.its.length - (j + 1), by omega, j + 1, _, _, _, _, _, _, _, _, _, _, _, _, _, _, by omega, rfl, by rw [hE]; exact Hz.only [10, 11, 12, 14, 15, 16, 17, 88, 89, 90, 19, 20], m166.ren [(10, 10), (11, 11), (31, 31), (32, 32), (12, 12), (33, 33), (34, 34), (19, 19), (35, 35)] (by decide)⟩
      clear Hz; intro hb160 Hz; try simp only [QQ, Qax] at hb160
      have hxk := hb160
      refine wp_cond_false (Hz.ev (x := .tmp 108) rfl) ?_
      refine zss (hK18 _ _ ?_); clear hK18
      replace Hz : Has 152 [(10, _), (11, _), (12, _), (14, _), (15, _), (16, _), (17, _), (88, _), (89, _), (90, _), (19, _), (20, _)] Az := Hz.only [10, 11, 12, 14, 15, 16, 17, 88, 89, 90, 19, 20]
      refine wp_region_lit ?_
      refine goCh Hz (.move rfl <| .add rfl rfl (r := ((j + 1 : Nat) : Int)) (by rw [IntWalk.i64_in _ (by omega)]; omega) <| .assign rfl <| .nil) ?_
      clear Hz Az; intro Az Hz
      refine wpList_nil ?_
      show ∃ n', n' < _ ∧ _
      exact ⟨xv.its.length - (j + 1), by omega, j + 1, _, _, _, _, _, _, _, _, _, _, _, _, _, _, by omega, rfl, by rw [lkp_no hxs hxk]; exact Hz.only [10, 11, 12, 14, 15, 16, 17, 88, 89, 90, 19, 20], m154.ren [(10, 10), (11, 11), (31, 31), (32, 32), (12, 12), (33, 33), (34, 34), (19, 19), (35, 35)] (by decide)⟩
     clear Hz; intro hb145 Hz; try simp only [QQ, Qax] at hb145
     obtain rfl : j = xv.its.length := by have := hb145; first | (simp at this; omega) | omega
     rw [List.take_length] at Hz
     refine wp_cond_false (Hz.ev (x := .tmp 98) rfl) ?_
     refine wp_exit ?_
     refine hK15 _ _ ?_; clear hK15
     refine wp_region_lit ?_
     refine goCh Hz (.add rfl rfl (r := ((c9 + 1 : Nat) : Int)) (by rw [IntWalk.i64_in _ (by omega)]; omega) <| .move rfl <| .nil) ?_
     clear Hz Az; intro Az Hz
     refine wpList_nil ?_
     show ∃ n', n' < _ ∧ _
     exact ⟨2 - (c9 + 1), by omega, c9 + 1, _, _, _, _, _, _, _, _, _, _, _, by omega, rfl, by rw [lkAll_snoc hxv]; exact Hz.only [10, 11, 12, 14, 15, 16, 17, 88, 89, 90], m139.ren [(10, 10), (11, 11), (31, 31), (32, 32), (12, 12), (33, 33), (34, 34)] (by decide)⟩
    clear Hz; intro hb129 Hz; try simp only [QQ, Qax] at hb129
    obtain rfl : c9 = 2 := by have := hb129; first | omega | (simp at this; omega)
    rw [show [A, B].take 2 = [A, B] from rfl, lk_two hAi hBi hk] at Hz
    refine wp_cond_false (Hz.ev (x := .tmp 91) rfl) ?_
    refine wp_exit ?_
    refine hK12 _ _ ?_; clear hK12
    refine wp_seq_k (fun K20 hK20 => ?_)
    refine regS Hz (.move rfl <| .not rfl <| .nil) ?_
    clear Hz Az; intro Az Hz
    refine bool_cases Hz (t := 118) rfl ?_ ?_
    ·
     clear Hz; intro hb185 Hz; try simp only [QQ, Qax] at hb185
     have hnone : (g9 k).or (f9 k) = none := by have := hb185; simpa using this
     refine wp_cond_true (Hz.ev (x := .tmp 118) rfl) ?_
     refine wp_exit ?_
     refine hK11 _ _ ?_; clear hK11
     refine wp_region_lit ?_
     refine goCh Hz (.move rfl <| .add rfl rfl (r := ((k + 1 : Nat) : Int)) (by rw [IntWalk.i64_in _ (by omega)]; omega) <| .assign rfl <| .nil) ?_
     clear Hz Az; intro Az Hz
     refine wpList_nil ?_
     show ∃ n', n' < _ ∧ _
     rw [← fm_len_none hnone] at Hz
     exact ⟨n9 - (k + 1), by omega, k + 1, _, _, _, _, _, _, _, _, _, by omega, rfl, Hz.only [10, 11, 12, 14, 15], m127.ren [(10, 10), (11, 11), (31, 31), (32, 32), (12, 12), (33, 33)] (by decide)⟩
    clear Hz; intro hb185 Hz; try simp only [QQ, Qax] at hb185
    obtain ⟨d9, hsome⟩ : ∃ d, (g9 k).or (f9 k) = some d := by have := hb185; cases h9 : (g9 k).or (f9 k) with
      | none => rw [h9] at this; simp at this
      | some d => exact ⟨d, rfl⟩
    rw [hsome] at Hz
    have hmg : (mergeV A B).its[(fmI (fun k => (g9 k).or (f9 k)) (List.range k)).length]? = some ((k : Int), d9) := by rw [hMi]; exact fm_get (h := (fun k => (g9 k).or (f9 k))) hsome n9 hk
    have hml := (List.getElem?_eq_some_iff.1 hmg).1
    have hfl := fm_len_le (fun k => (g9 k).or (f9 k)) k
    refine wp_cond_false (Hz.ev (x := .tmp 118) rfl) ?_
    refine zss (hK20 _ _ ?_); clear hK20
    refine wp_seq_k (fun K21 hK21 => ?_)
    refine zsr fun K22 hK22 => ?_
    refine goCh Hz (.move rfl <| .fa 4 rfl U35 <| .lb m127 12 U33 rfl rfl rfl <| .len rfl U33 <| .geq rfl rfl <| .move rfl <| .nil) ?_
    clear Hz Az; intro Az Hz
    refine bool_cases Hz (t := 124) rfl ?_ ?_
    · intro hb _; exact absurd hb (by first | (simp [mergeV]; done) | (simp [wantS]; done) | (simp; done) | (simp; omega))
    clear Hz; intro _ Hz
    refine goCh Hz (.faZ 4 rfl U35 <| .loadB1Z m127 (i := 12) rfl rfl rfl U33 rfl <| .moveZ rfl <| .nil) ?_
    clear Hz Az; intro Az Hz
    obtain ⟨b205, o205, vs205, hp205, hR205, ho205, m205⟩ := m127.openR (i := 33) rfl ((fmI (fun k => (g9 k).or (f9 k)) (List.range k)).length) (r := [.v (.int .i64 (k : Int)), .ns .u8 d9]) (itD_get hmg) 300 rfl
    cases hp205; clear m127 ho205
    rcases hR205 with _ | ⟨hd205_0, _ | ⟨hd205_1, _ | _⟩⟩
    obtain rfl := hd205_0.v_out
    clear hd205_0
    obtain ⟨p206, c206, hv206, hc206⟩ := hd205_1.ns_shape; subst hv206
    have m206 := m205.dat 301 rfl (hd205_1.cast (fun _ h => (free_add rfl h))); clear m205 hd205_1
    refine goCh Hz (.g rfl rfl rfl rfl (fun _ h => y_idx h rfl rfl U33 fct2 ((fmI (fun k => (g9 k).or (f9 k)) (List.range k)).length) rfl hml) <| .fieldAddrQZ 0 rfl U58 rfl (s := 0) (by kernel_rfl) rfl <| .loadC0Z m206 (i := 300) rfl rfl U3 rfl <| .moveZ rfl <| .neqZ rfl rfl <| .pickF rfl rfl <| .move rfl <| .nil) ?_
    clear Hz Az; intro Az Hz
    refine bool_cases Hz (t := 134) rfl ?_ ?_
    · intro hb _; exact absurd hb (by first | (simp [mergeV]; done) | (simp [wantS]; done) | (simp; done) | (simp; omega))
    clear Hz; intro _ Hz
    refine goCh Hz (.faZ 4 rfl U35 <| .loadB1Z m206 (i := 12) rfl rfl rfl U33 rfl <| .moveZ rfl <| .nil) ?_
    clear Hz Az; intro Az Hz
    obtain ⟨b218, o218, vs218, hp218, hR218, ho218, m218⟩ := m206.openR (i := 33) rfl ((fmI (fun k => (g9 k).or (f9 k)) (List.range k)).length) (r := [.v (.int .i64 (k : Int)), .ns .u8 d9]) (itD_get hmg) 302 rfl
    cases hp218; clear m206 ho218
    rcases hR218 with _ | ⟨hd218_0, _ | ⟨hd218_1, _ | _⟩⟩
    obtain rfl := hd218_0.v_out
    clear hd218_0
    obtain ⟨p219, c219, hv219, hc219⟩ := hd218_1.ns_shape; subst hv219
    have m219 := m218.dat 303 rfl (hd218_1.cast (fun _ h => (free_add rfl h))); clear m218 hd218_1
    refine goCh Hz (.g rfl rfl rfl rfl (fun _ h => y_idx h rfl rfl U33 fct2 ((fmI (fun k => (g9 k).or (f9 k)) (List.range k)).length) rfl hml) <| .fieldAddrQZ 1 rfl U58 rfl (s := 0) (by kernel_rfl) rfl <| .loadC1Z m219 (i := 302) (q := 1) rfl rfl rfl U22 rfl <| .strZ rfl (m219.nums (i := 303) rfl) U22 U5 U9 <| .moveZ rfl <| .neqSZ rfl rfl <| .pickF rfl rfl <| .nil) ?_
    clear Hz Az; intro Az Hz
    refine znl (hK22 _ _ ?_); clear hK22
    refine bool_cases Hz (t := 144) rfl ?_ ?_
    · intro hb _; exact absurd hb (by first | (simp [mergeV]; done) | (simp [wantS]; done) | (simp; done) | (simp; omega))
    clear Hz; intro _ Hz
    refine wp_cond_false (Hz.ev (x := .tmp 144) rfl) ?_
    refine zss (hK21 _ _ ?_); clear hK21
    replace Hz : Has 152 [(10, _), (11, _), (12, _), (14, _), (15, _), (16, _), (17, _), (88, _), (89, _), (90, _)] Az := Hz.only [10, 11, 12, 14, 15, 16, 17, 88, 89, 90]
    refine wp_region_lit ?_
    refine goCh Hz (.move rfl <| .add rfl rfl (r := (((fmI (fun k => (g9 k).or (f9 k)) (List.range k)).length : Nat) : Int) + 1) (IntWalk.i64_in _ (by omega)) <| .assign rfl <| .nil) ?_
    clear Hz Az; intro Az Hz
    refine znl (hK11 _ _ ?_); clear hK11
    refine wp_region_lit ?_
    refine goCh Hz (.move rfl <| .add rfl rfl (r := ((k + 1 : Nat) : Int)) (by rw [IntWalk.i64_in _ (by omega)]; omega) <| .assign rfl <| .nil) ?_
    clear Hz Az; intro Az Hz
    refine wpList_nil ?_
    show ∃ n', n' < _ ∧ _
    rw [show (((fmI (fun k => (g9 k).or (f9 k)) (List.range k)).length : Nat) : Int) + 1 = (((fmI (fun k => (g9 k).or (f9 k)) (List.range (k + 1))).length : Nat) : Int) from by rw [fm_len_some hsome]; omega] at Hz
    exact ⟨n9 - (k + 1), by omega, k + 1, _, _, _, _, _, _, _, _, _, by omega, rfl, Hz.only [10, 11, 12, 14, 15], m219.ren [(10, 10), (11, 11), (31, 31), (32, 32), (12, 12), (33, 33)] (by decide)⟩
   clear Hz; intro hb115 Hz; try simp only [QQ, Qax] at hb115
   have hke : k = n9 := by have := hb115; rw [hAb] at this; omega
   refine wp_cond_false (Hz.ev (x := .tmp 83) rfl) ?_
   refine wp_exit ?_
   refine hK9 _ _ ?_; clear hK9
   refine regS Hz (.move rfl <| .fa 4 rfl U35 <| .lb m110 12 U33 rfl rfl rfl <| .len rfl U33 <| .eql rfl rfl <| .assign rfl <| .nil) ?_
   clear Hz Az; intro Az Hz
   refine wp_ret ?_
   try dsimp only [Exit.then, Exit.inBlock]
   refine (ret1 (fn := Tryd.f6) Hz rfl rfl ?_)
   exact ⟨by first | rfl | (simp; done) | (rw [hMi, hke]; simp), m110.below⟩
 replace Hz : Has 152 [(6, _), (7, _), (9, _)] Az := Hz.only [6, 7, 9]
 obtain ⟨b242, o242, vs242, hp242, hR242, ho242, m242⟩ := m59.openR (i := 70) rfl (kq) (r := [.v (.int .i64 A.bl), .v (.int .i64 A.sz), .v (.int .i64 A.fr), .v (.int .i64 A.to), .l 2 (A.its.map itD)]) (strD_get hsA) 73 rfl
 cases hp242; clear m59 ho242
 rcases hR242 with _ | ⟨hd242_0, _ | ⟨hd242_1, _ | ⟨hd242_2, _ | ⟨hd242_3, _ | ⟨hd242_4, _ | _⟩⟩⟩⟩⟩
 obtain rfl := hd242_0.v_out
 clear hd242_0
 obtain rfl := hd242_1.v_out
 clear hd242_1
 obtain rfl := hd242_2.v_out
 clear hd242_2
 obtain rfl := hd242_3.v_out
 clear hd242_3
 obtain ⟨p243, c243, hv243, hc243⟩ := hd242_4.l_shape; subst hv243
 have m243 := m242.dat 74 rfl (hd242_4.cast (fun _ h => (free_add rfl h))); clear m242 hd242_4
 obtain ⟨b244, o244, vs244, hp244, hR244, ho244, m244⟩ := m243.openR (i := 70) rfl ((kq + 1)) (r := [.v (.int .i64 B.bl), .v (.int .i64 B.sz), .v (.int .i64 B.fr), .v (.int .i64 B.to), .l 2 (B.its.map itD)]) (strD_get hsB) 75 rfl
 cases hp244; clear m243 ho244
 rcases hR244 with _ | ⟨hd244_0, _ | ⟨hd244_1, _ | ⟨hd244_2, _ | ⟨hd244_3, _ | ⟨hd244_4, _ | _⟩⟩⟩⟩⟩
 obtain rfl := hd244_0.v_out
 clear hd244_0
 obtain rfl := hd244_1.v_out
 clear hd244_1
 obtain rfl := hd244_2.v_out
 clear hd244_2
 obtain rfl := hd244_3.v_out
 clear hd244_3
 obtain ⟨p245, c245, hv245, hc245⟩ := hd244_4.l_shape; subst hv245
 have m245 := m244.dat 76 rfl (hd244_4.cast (fun _ h => (free_add rfl h))); clear m244 hd244_4
 have m246 : MemOk _ _ [(70, _), (71, _), (72, _), (73, _), (74, _), (75, _), (76, _)] _ := m245.only [70, 71, 72, 73, 74, 75, 76]; clear m245
 refine region_p 13 (B := [(70, _), (71, _), (72, _), (73, _), (74, _), (75, _), (76, _)]) (m246.to ⟨il, il, il, il, il, il, il, trivial⟩) m246 (by kernel_rfl) (fun w247 hP247 m247 => ?_); clear m246
 refine goR hP247 [0, 1, 2, 3, 4, 5, 6, 7, 8] [4, 8] 9 0 511 Hz (m247.to ⟨il, il, il, il, il, il, il, trivial⟩) (.move rfl <| .move rfl <| .sub rfl rfl (r := (kq : Int)) (by rw [IntWalk.i64_in _ (by omega)]; omega) <| .p (fun _ _ h => y_idx h rfl rfl U25 fct7 (kq) rfl (by omega)) <| .loadCR hh (i := 73) rfl rfl U35 rfl fct7 <| .move rfl <| .move rfl <| .p (fun _ _ h => y_idx h rfl rfl U25 fct7 ((kq + 1)) rfl (by omega)) <| .loadCR hh (i := 75) rfl rfl U35 rfl fct7 <| .nil) ?_
 clear Hz Az; intro Az Hz
 refine d_two 9 10 rfl rfl (by kernel_rfl) rfl rfl (fun K hK => ?_) (fun K hK => ?_)
 ·
  refine e_alloc Hz m247 77 fct21 rfl ?_
  clear Hz Az m247; intro g257 Az w258 Hz m258 hB258 hg258
  clear hB258 hg258
  refine hK _ _ (fun _ => (m258.to ⟨il, il, il, il, il, il, il, trivial⟩)) ?_; clear hK K
  refine stepE_only 10 rfl (by kernel_rfl) rfl (fun K hK => ?_)
  refine e_alloc Hz m258 78 fct21 rfl ?_
  clear Hz Az m258; intro g259 Az w260 Hz m260 hB260 hg260
  clear hB260 hg260
  refine hK _ _ (m260.to ⟨il, il, il, il, il, il, il, trivial⟩) ?_; clear hK K
  refine stepE_only 11 rfl (by kernel_rfl) rfl (fun K hK => ?_)
  refine e_storeW Hz m260 77 rfl rfl rfl rfl rfl fct7 ?_
  clear m260; intro w261 m261 hB261
  clear hB261
  refine hK _ _ (m261.to ⟨il, il, il, il, il, il, il, trivial⟩) ?_; clear hK K
  refine stepE_only 12 rfl (by kernel_rfl) rfl (fun K hK => ?_)
  refine e_storeW Hz m261 78 rfl rfl rfl rfl rfl fct7 ?_
  clear m261; intro w262 m262 hB262
  clear hB262
  refine hK _ _ (m262.to ⟨il, il, il, il, il, il, il, trivial⟩) ?_; clear hK K
  refine wpAnyE_done (by kernel_rfl) ?_ _
  show K5 _ _
  exact hC5 _ _ ⟨_, _, _, _, _, _, Hz.only [10, 11], m262.ren [(10, 77), (11, 78), (31, 74), (32, 76)] (by decide)⟩
 refine e_alloc Hz m247 77 fct21 rfl ?_
 clear Hz Az m247; intro g263 Az w264 Hz m264 hB264 hg264
 clear hB264 hg264
 refine hK _ _ (fun _ => (m264.to ⟨il, il, il, il, il, il, il, trivial⟩)) ?_; clear hK K
 refine stepE_only 9 rfl (by kernel_rfl) rfl (fun K hK => ?_)
 refine e_alloc Hz m264 78 fct21 rfl ?_
 clear Hz Az m264; intro g265 Az w266 Hz m266 hB266 hg266
 clear hB266 hg266
 refine hK _ _ (m266.to ⟨il, il, il, il, il, il, il, trivial⟩) ?_; clear hK K
 refine stepE_only 11 rfl (by kernel_rfl) rfl (fun K hK => ?_)
 refine e_storeW Hz m266 78 rfl rfl rfl rfl rfl fct7 ?_
 clear m266; intro w267 m267 hB267
 clear hB267
 refine hK _ _ (m267.to ⟨il, il, il, il, il, il, il, trivial⟩) ?_; clear hK K
 refine stepE_only 12 rfl (by kernel_rfl) rfl (fun K hK => ?_)
 refine e_storeW Hz m267 77 rfl rfl rfl rfl rfl fct7 ?_
 clear m267; intro w268 m268 hB268
 clear hB268
 refine hK _ _ (m268.to ⟨il, il, il, il, il, il, il, trivial⟩) ?_; clear hK K
 refine wpAnyE_done (by kernel_rfl) ?_ _
 show K5 _ _
 exact hC5 _ _ ⟨_, _, _, _, _, _, Hz.only [10, 11], m268.ren [(10, 78), (11, 77), (31, 74), (32, 76)] (by decide)⟩
end Go.Proofs.YtflcgpajodfkoaaDoor.K
