/- General laws of walks: Chz1, Chz3, Chz2, Chz4, ChuR, Chz5, Chu13, Int1, Int7, Pack1, Pack2, Pack3, Pack4, Pack5, RegionB, PackG, Gen, Gen2, Codec, VX1. -/
import Derived.Test.YtamjnimaeecmoaaGreatG5
import Derived.Test.YtamjnimaeecmoaaGreatG3
import Derived.Test.YtamjnimaeecmoaaGreatG1
import Derived.Laws.Bits64
import Derived.RegionTactic
import Derived.ChangeAlike
import Derived.Lib.SlBytesConst
import Derived.Deep.Matrix
section
namespace Go.Proofs.YtamjnimaeecmoaaGreat.K
open Go.ChangeShapes Go.WideShapes Go.ChangeAt Go.RowKit
set_option linter.unusedVariables false
set_option linter.unusedSimpArgs false
theorem fl71zad : flatS Tryz.prog 71 [.int .i64 0, .slice none 0 0] = true := by kernel_rfl
set_option maxRecDepth 100000
set_option maxHeartbeats 4000000
theorem zshape_x (vo ch cn sz : Int) (w0 : World) (hsh : ShOk vo ch cn sz) :
   Calls Tryz.prog 95 #[.int .i64 vo, .int .i64 ch, .int .i64 cn, .int .i64 sz] w0 fun e w' => e = .returned (.bool true) ∧ Below w0.heap.size w0 w' := by
 refine ent4 Tryz.func95 rfl Tryz.ntmps95 fun Az Hz => ?_
 have m0 := MemOk.start (fun _ => False) w0
 obtain ⟨⟨q1, q2⟩, ⟨q3, q4⟩, ⟨q5, q6⟩, ⟨q7, q8⟩⟩ := hsh
 refine regS Hz (.assign rfl .nil) fun Az Hz => ?_
 refine zsr fun K0 hK0 => ?_
 refine goCh Hz (.move rfl <| .geq rfl rfl <| .move rfl .nil) fun Az Hz => ?_
 refine bc Hz 11 ?_ ?_
 rotate_left
 · intro hb _; exact absurd hb (by first | (simp; done) | (simp; omega))
 clear Hz; intro _ Hz
 refine goCh Hz (.moveZ rfl <| .lssZ rfl rfl <| .pickT rfl rfl <| .move rfl .nil) fun Az Hz => ?_
 refine bc Hz 15 ?_ ?_
 rotate_left
 · intro hb _; exact absurd hb (by first | (simp; done) | (simp; omega))
 clear Hz; intro _ Hz
 refine goCh Hz (.moveZ rfl <| .geqZ rfl rfl <| .pickT rfl rfl <| .move rfl .nil) fun Az Hz => ?_
 refine bc Hz 19 ?_ ?_
 rotate_left
 · intro hb _; exact absurd hb (by first | (simp; done) | (simp; omega))
 clear Hz; intro _ Hz
 refine goCh Hz (.moveZ rfl <| .lssZ rfl rfl <| .pickT rfl rfl <| .move rfl .nil) fun Az Hz => ?_
 refine bc Hz 23 ?_ ?_
 rotate_left
 · intro hb _; exact absurd hb (by first | (simp; done) | (simp; omega))
 clear Hz; intro _ Hz
 refine goCh Hz (.moveZ rfl <| .geqZ rfl rfl <| .pickT rfl rfl <| .move rfl .nil) fun Az Hz => ?_
 refine bc Hz 27 ?_ ?_
 rotate_left
 · intro hb _; exact absurd hb (by first | (simp; done) | (simp; omega))
 clear Hz; intro _ Hz
 refine goCh Hz (.moveZ rfl <| .leqZ rfl rfl <| .pickT rfl rfl <| .move rfl .nil) fun Az Hz => ?_
 refine bc Hz 31 ?_ ?_
 rotate_left
 · intro hb _; exact absurd hb (by first | (simp; done) | (simp; omega))
 clear Hz; intro _ Hz
 refine goCh Hz (.moveZ rfl <| .geqZ rfl rfl <| .pickT rfl rfl <| .move rfl .nil) fun Az Hz => ?_
 refine bc Hz 35 ?_ ?_
 rotate_left
 · intro hb _; exact absurd hb (by first | (simp; done) | (simp; omega))
 clear Hz; intro _ Hz
 refine gz hK0 Hz (.moveZ rfl <| .leqZ rfl rfl <| .pickT rfl rfl <| .assign rfl <| .nil) fun Az Hz => ?_
 refine rt1 Hz ?_
 exact ⟨by (first | rfl | (simp; done) | (simp; omega)), m0.below⟩
theorem zpright_x (X : Cx) (vo ch cn sz fr to fl : Int) (W : List (Int × List (Int × List Int))) (pw : Option Addr) (nw cw : Nat) (w0 : World) (hP : PuOk vo ch cn sz fr to fl W) (m0 : MemOk X w0 [(1, .dat (.slice pw nw cw) (.l 2 (W.map wrD)))] w0) :
   Calls Tryz.prog 66 #[.agg #[.int .i64 vo, .int .i64 ch, .int .i64 cn, .int .i64 sz, .int .i64 fr, .int .i64 to, .int .i64 fl, .slice pw nw cw]] w0 fun e w' => e = .returned (.bool true) ∧ MemOk X w0 [(1, .dat (.slice pw nw cw) (.l 2 (W.map wrD)))] w' := by
 refine ent1 Tryz.func66 rfl Tryz.ntmps66 fun Az Hz => ?_
 have hW := wpre_len hP
 have hnw : nw = W.length := nnOf (m0.rd (i := 1) rfl)
 revert Hz
 subst hnw
 intro Hz
 have hP9 := hP
 obtain ⟨p1, ⟨p2, p3⟩, ⟨p4, p5⟩, ⟨p6, p7⟩, p8, -⟩ := hP9
 refine zsr fun K0 hK0 => ?_
 refine plz (e_box Hz m0 30 (cs := [_, _, _, _, _, _, _, _]) rfl rfl rfl fun g1 Az w2 Hz m2 _ _ => ?_)
 refine gz hK0 Hz (.assign rfl .nil) fun Az Hz => ?_
 refine wsk fun K1 hK1 => ?_
 refine zsr fun K2 hK2 => ?_
 refine goCh Hz (.fa 0 rfl U90 <| .lb m2 30 U3 rfl rfl rfl <| .fa 1 rfl U90 <| .lb m2 30 U3 rfl rfl rfl <| .fa 2 rfl U90 <| .lb m2 30 U3 rfl rfl rfl <| .fa 3 rfl U90 <| .lb m2 30 U3 rfl rfl rfl .nil) fun Az Hz => ?_
 refine plz (ecb Hz Tryz.func95 rfl m2 (zshape_x _ _ _ _ _ hP.1) fun Az w20 Hz m21 => ?_)
 refine goCh Hz (.not rfl <| .move rfl <| .faZ 4 rfl U90 <| .loadB1Z m21 (i := 30) rfl rfl rfl U2 rfl <| .lssZ rfl rfl <| .pickF rfl rfl <| .move rfl .nil) fun Az Hz => ?_
 refine bc Hz 21 ?_ ?_
 · intro hb _; exact absurd hb (by first | (simp; done) | (simp; omega))
 clear Hz; intro _ Hz
 refine goCh Hz (.faZ 4 rfl U90 <| .loadB1Z m21 (i := 30) rfl rfl rfl U2 rfl <| .faZ 5 rfl U90 <| .loadB1Z m21 (i := 30) rfl rfl rfl U2 rfl <| .gtrZ rfl rfl <| .pickF rfl rfl <| .move rfl .nil) fun Az Hz => ?_
 refine bc Hz 28 ?_ ?_
 · intro hb _; exact absurd hb (by first | (simp; done) | (simp; omega))
 clear Hz; intro _ Hz
 refine goCh Hz (.faZ 5 rfl U90 <| .loadB1Z m21 (i := 30) rfl rfl rfl U2 rfl <| .gtrZ rfl rfl <| .pickF rfl rfl <| .move rfl .nil) fun Az Hz => ?_
 refine bc Hz 33 ?_ ?_
 · intro hb _; exact absurd hb (by first | (simp; done) | (simp; omega))
 clear Hz; intro _ Hz
 refine goCh Hz (.faZ 6 rfl U90 <| .loadB1Z m21 (i := 30) rfl rfl rfl U2 rfl <| .lssZ rfl rfl <| .pickF rfl rfl <| .move rfl .nil) fun Az Hz => ?_
 refine bc Hz 38 ?_ ?_
 · intro hb _; exact absurd hb (by first | (simp; done) | (simp; omega))
 clear Hz; intro _ Hz
 refine goCh Hz (.faZ 6 rfl U90 <| .loadB1Z m21 (i := 30) rfl rfl rfl U2 rfl <| .faZ 5 rfl U90 <| .loadB1Z m21 (i := 30) rfl rfl rfl U2 rfl <| .gtrZ rfl rfl <| .pickF rfl rfl <| .move rfl .nil) fun Az Hz => ?_
 refine bc Hz 45 ?_ ?_
 · intro hb _; exact absurd hb (by first | (simp; done) | (simp; omega))
 clear Hz; intro _ Hz
 refine gz hK2 Hz (.faZ 7 rfl U90 <| .loadB1Z m21 (i := 30) rfl rfl rfl U31 rfl <| .lenZ rfl U31 <| .gtrZ rfl rfl <| .pickF rfl rfl <| .nil) fun Az Hz => ?_
 refine bc Hz 50 ?_ ?_
 · intro hb _; exact absurd hb (by first | (simp; done) | (simp; omega))
 clear Hz; intro _ Hz
 refine wcf Hz ?_
 refine zss (hK1 _ _ ?_)
 replace Hz := Hz.oz [1, 2]
 refine regS Hz (.fa 4 rfl U90 <| .lb m21 30 U2 rfl rfl rfl <| .assign rfl .nil) fun Az Hz => ?_
 refine wsk fun K3 hK3 => ?_
 refine regS Hz (.assign rfl .nil) fun Az Hz => ?_
 refine wp_block ?_
 refine wp_loop_ghost (fun g a w => ∃ (k gP : Nat), k ≤ W.length ∧ g = W.length - k ∧ Has 88 [(1, .pointer (some ⟨gP, 0, none⟩)), (3, .int .i64 (if k = 0 then fr else (W.getD (k - 1) w1).1)), (4, .int .i64 k)] a ∧ MemOk X w0 [(1, .dat (.slice pw W.length cw) (.l 2 (W.map wrD))), (2, .box gP 90 [.int .i64 vo, .int .i64 ch, .int .i64 cn, .int .i64 sz, .int .i64 fr, .int .i64 to, .int .i64 fl, .slice pw W.length cw])] w) (W.length) ?_ ?_
 · exact ⟨0, _, Nat.zero_le _, rfl, Hz.only [1, 3, 4], m21.ren [(1, 1), (2, 30)] (by decide)⟩
 clear Hz m21
 rintro g Az w70 ⟨k, gP, hkl, hg, Hz, m70⟩
 refine wsk fun K4 hK4 => ?_
 refine regS Hz (.move rfl <| .fa 7 rfl U90 <| .lb m70 2 U31 rfl rfl rfl <| .len rfl U31 <| .lss rfl rfl .nil) fun Az Hz => ?_
 refine bc Hz 57 ?_ ?_
 ·
  intro hb76 Hz; try simp only [QQ, Qax] at hb76
  have hk : k < W.length := by have := hb76; first | omega | (simp at this; omega)
  obtain ⟨⟨xs, xl⟩, hes⟩ : ∃ e, W[k]? = some e := ⟨_, List.getElem?_eq_getElem hk⟩
  have hxl : xl.length ≤ 1000000 := hW _ (List.mem_of_getElem? hes)
  have hx9 : W.getD k w1 = (xs, xl) := by rw [List.getD, hes]; rfl
  have hpk := hP.2.2.2.2.2 k hk
  rw [hx9] at hpk
  dsimp only at hpk
  refine wct Hz ?_
  refine zss (hK4 _ _ ?_)
  refine wsk fun K5 hK5 => ?_
  refine wp_block ?_
  refine zsr fun K6 hK6 => ?_
  refine goCh Hz (.fa 7 rfl U90 <| .lb m70 2 U31 rfl rfl rfl <| .move rfl .nil) fun Az Hz => ?_
  obtain ⟨b84, o84, vs84, hp84, hR84, ho84, m84⟩ := m70.openR (i := 1) rfl (k) (r := [.v (.int .i64 xs), .l 2 (xl.map itD)]) (wrD_get hes) 100 rfl
  revert Hz
  cases hp84; clear m70 ho84
  rcases hR84 with _ | ⟨hd84_0, _ | ⟨hd84_1, _ | _⟩⟩
  obtain rfl := hd84_0.v_out
  clear hd84_0
  obtain ⟨p85, c85, hv85, hc85⟩ := hd84_1.l_shape; subst hv85
  intro Hz
  have m85 := m84.dat 101 rfl (hd84_1.cast (fun _ h => (free_add rfl h))); clear m84 hd84_1
  refine goCh Hz (.c rfl (fun _ h_ => y_idx h_ rfl rfl U31 fct15 (k) rfl hk) <| .loadCR m85 (i := 100) rfl rfl U109 rfl fct15 .nil) fun Az Hz => ?_
  refine plz (e_alloc Hz m85 102 fct18 rfl fun g88 Az w89 Hz m89 _ _ => ?_)
  refine plz (stw Hz m89 102 fct15 fun w90 m90 _ => ?_)
  refine znl (hK6 _ _ ?_)
  refine wsk fun K7 hK7 => ?_
  replace Hz := Hz.oz [1, 3, 4, 5]
  refine zsr fun K8 hK8 => ?_
  refine goCh Hz (.fa 0 rfl U109 <| .lb m90 102 U2 rfl rfl rfl <| .move rfl <| .leq rfl rfl <| .move rfl .nil) fun Az Hz => ?_
  refine bc Hz 69 ?_ ?_
  · intro hb _; exact absurd hb (by have h7 := hpk.1; revert h7; generalize (if k = 0 then fr else (W.getD (k - 1) w1).1) = z; intro h7; simp; omega)
  clear Hz; intro _ Hz
  refine goCh Hz (.faZ 0 rfl U109 <| .loadB1Z m90 (i := 102) rfl rfl rfl U2 rfl <| .faZ 5 rfl U90 <| .loadB1Z m90 (i := 2) rfl rfl rfl U2 rfl <| .gtrZ rfl rfl <| .pickF rfl rfl <| .move rfl .nil) fun Az Hz => ?_
  refine bc Hz 76 ?_ ?_
  · intro hb _; exact absurd hb (by first | (simp; done) | (simp; omega))
  clear Hz; intro _ Hz
  refine goCh Hz (.faZ 2 rfl U90 <| .loadB1Z m90 (i := 2) rfl rfl rfl U3 rfl <| .faZ 3 rfl U90 <| .loadB1Z m90 (i := 2) rfl rfl rfl U3 rfl <| .faZ 1 rfl U109 <| .loadB1Z m90 (i := 102) rfl rfl rfl U40 rfl .nil) fun Az Hz => ?_
  refine stz Hz (ecl Hz Tryz.func96 rfl (ritems_any _ _ xl _ _ _ _ (m90.rd (i := 101) rfl).any (by omega)) ?_)
  rintro e w117 ⟨bi9, rfl, hbi, hb117⟩
  revert Hz
  obtain rfl : bi9 = true := hbi.2 hpk.2.2
  intro Hz
  have m118 := m90.later hb117
  refine ⟨_, rfl, ?_⟩; intro Az Hz
  refine gz hK8 Hz (.notZ rfl <| .pickF rfl rfl <| .nil) fun Az Hz => ?_
  refine wcf Hz ?_
  refine zss (hK7 _ _ ?_)
  replace Hz := Hz.oz [1, 3, 4, 5]
  refine wp_region_lit ?_
  refine gz hK5 Hz (.fa 0 rfl U109 <| .lb m118 102 U2 rfl rfl rfl <| .assign rfl <| .nil) fun Az Hz => ?_
  refine wp_region_lit ?_
  refine goCh Hz (.move rfl <| .inc (k + 1) <| .assign rfl .nil) fun Az Hz => ?_
  refine wpList_nil ?_
  show ∃ n', n' < _ ∧ _
  have hla : xs = (if k + 1 = 0 then fr else (W.getD (k + 1 - 1) w1).1) := by rw [if_neg (by omega), Nat.add_sub_cancel, List.getD, hes]; rfl
  rw [hla] at Hz
  exact ⟨W.length - (k + 1), by omega, k + 1, _, by omega, rfl, Hz.only [1, 3, 4], m118.only [1, 2]⟩
 intro hb76 Hz; try simp only [QQ, Qax] at hb76
 revert Hz
 obtain rfl : k = W.length := by have := hb76; first | omega | (simp at this; omega)
 intro Hz
 refine wcf Hz ?_
 refine wp_exit ?_
 refine hK3 _ _ ?_
 refine regS Hz (.assign rfl .nil) fun Az Hz => ?_
 refine rt1 Hz ?_
 exact ⟨rfl, m70.only [1]⟩
theorem zadd_x (X : Cx) (h : List Ver) (s9 : Int) (d : List Int) (p pd : Option Addr) (nn c cd : Nat) (w0 : World) (hl : h.length ≤ 1000000) (hd : d.length ≤ 1000000) (m0 : MemOk X w0 [(1, .dat (.slice p nn c) (.l 2 (h.map itD))), (2, .dat (.slice pd d.length cd) (.ns .u8 d))] w0) :
   Calls Tryz.prog 67 #[.slice p nn c, .int .i64 s9, .slice pd d.length cd] w0 fun e w' => ∃ (p9 : Option Addr) (c9 : Nat), e = .returned (.slice p9 (addF h s9 d).length c9) ∧ MemOk X w0 [(1, .dat (.slice p nn c) (.l 2 (h.map itD))), (2, .dat (.slice pd d.length cd) (.ns .u8 d)), (9, .dat (.slice p9 (addF h s9 d).length c9) (.l 2 ((addF h s9 d).map itD)))] w' := by
 refine ent3 Tryz.func67 rfl Tryz.ntmps67 fun Az Hz => ?_
 have hnn : nn = h.length := nnOf (m0.rd (i := 1) rfl)
 revert Hz
 subst hnn
 intro Hz
 refine regS Hz (.assign rfl .nil) fun Az Hz => ?_
 refine wsk fun K0 hK0 => ?_
 refine zsr fun K1 hK1 => ?_
 refine goCh Hz (.move rfl <| .lss rfl rfl <| .move rfl .nil) fun Az Hz => ?_
 refine bc Hz 9 ?_ ?_
 ·
  intro hb8 Hz; try simp only [QQ, Qax] at hb8
  have htn : ¬ (1 ≤ s9 ∧ s9 ≤ 1099511627776) := by have := hb8; first | omega | (simp at this; omega)
  refine goCh Hz (.sk <| .sk <| .pickT rfl rfl <| .move rfl <| .sk <| .sk <| .sk <| .sk .nil) fun Az Hz => ?_
  refine st_skipU Hz rfl rfl rfl rfl fun Az Hz => ?_
  refine st_skipU Hz rfl rfl rfl rfl fun Az Hz => ?_
  refine st_skipU Hz rfl rfl rfl rfl fun Az Hz => ?_
  refine st_skipU Hz rfl rfl rfl rfl fun Az Hz => ?_
  refine st_skipU Hz rfl rfl rfl rfl fun Az Hz => ?_
  refine st_skipU Hz rfl rfl rfl rfl fun Az Hz => ?_
  refine st_skipU Hz rfl rfl rfl rfl fun Az Hz => ?_
  refine st_skipU Hz rfl rfl rfl rfl fun Az Hz => ?_
  refine st_skipU Hz rfl rfl rfl rfl fun Az Hz => ?_
  refine gz hK1 Hz (.sk <| .pickT rfl rfl <| .nil) fun Az Hz => ?_
  refine wct Hz ?_
  replace Hz := Hz.oz [0, 1, 2, 6, 9, 12, 13, 17, 28]
  refine regS Hz (.move rfl <| .assign rfl .nil) fun Az Hz => ?_
  refine rt1 Hz ?_
  have hAd : addF h s9 d = h := by unfold addF; rw [if_neg (fun h9 => htn h9.1)]
  have m31 := m0.dat 9 rfl (m0.rd (i := 1) rfl)
  rw [hAd]
  exact ⟨_, _, rfl, m31.ren [(1, 1), (2, 2), (9, 9)] (by decide)⟩
 intro hb8 Hz; try simp only [QQ, Qax] at hb8
 have ht1 : 1 ≤ s9 := by have := hb8; first | omega | (simp at this; omega)
 refine goCh Hz (.moveZ rfl <| .gtrZ rfl rfl <| .pickF rfl rfl <| .move rfl .nil) fun Az Hz => ?_
 refine bc Hz 13 ?_ ?_
 ·
  intro hb36 Hz; try simp only [QQ, Qax] at hb36
  have htn : ¬ (1 ≤ s9 ∧ s9 ≤ 1099511627776) := by have := hb36; first | omega | (simp at this; omega)
  refine goCh Hz (.sk <| .sk <| .sk <| .sk .nil) fun Az Hz => ?_
  refine st_skipU Hz rfl rfl rfl rfl fun Az Hz => ?_
  refine st_skipU Hz rfl rfl rfl rfl fun Az Hz => ?_
  refine st_skipU Hz rfl rfl rfl rfl fun Az Hz => ?_
  refine st_skipU Hz rfl rfl rfl rfl fun Az Hz => ?_
  refine st_skipU Hz rfl rfl rfl rfl fun Az Hz => ?_
  refine st_skipU Hz rfl rfl rfl rfl fun Az Hz => ?_
  refine st_skipU Hz rfl rfl rfl rfl fun Az Hz => ?_
  refine st_skipU Hz rfl rfl rfl rfl fun Az Hz => ?_
  refine st_skipU Hz rfl rfl rfl rfl fun Az Hz => ?_
  refine gz hK1 Hz (.sk <| .pickT rfl rfl <| .nil) fun Az Hz => ?_
  refine wct Hz ?_
  replace Hz := Hz.oz [0, 1, 2, 6, 9, 12, 13, 17, 28]
  refine regS Hz (.move rfl <| .assign rfl .nil) fun Az Hz => ?_
  refine rt1 Hz ?_
  have hAd : addF h s9 d = h := by unfold addF; rw [if_neg (fun h9 => htn h9.1)]
  have m55 := m0.dat 9 rfl (m0.rd (i := 1) rfl)
  rw [hAd]
  exact ⟨_, _, rfl, m55.ren [(1, 1), (2, 2), (9, 9)] (by decide)⟩
 intro hb36 Hz; try simp only [QQ, Qax] at hb36
 have htm : 1 ≤ s9 ∧ s9 ≤ 1099511627776 := by have := hb36; first | omega | (simp at this; omega)
 refine goCh Hz (.moveZ rfl <| .lenZ rfl U69 <| .gtrZ rfl rfl <| .moveZ rfl .nil) fun Az Hz => ?_
 refine bc Hz 17 ?_ ?_
 ·
  intro hb60 Hz; try simp only [QQ, Qax] at hb60
  have hl0 : 0 < h.length := by have := hb60; first | omega | (simp at this; omega)
  obtain ⟨⟨xs, xd⟩, hes⟩ : ∃ e, h[h.length - 1]? = some e := ⟨_, List.getElem?_eq_getElem (by omega)⟩
  have hx9 : (h.getD (h.length - 1) v0).1 = xs := by rw [List.getD, hes]; rfl
  refine goCh Hz (.moveZ rfl <| .moveZ rfl <| .moveZ rfl <| .lenZ rfl U69 <| .subZ rfl rfl (r := ((h.length - 1 : Nat) : Int)) (by rw [IntWalk.i64_in _ (by omega)]; omega) .nil) fun Az Hz => ?_
  obtain ⟨b66, o66, vs66, hp66, hR66, ho66, m66⟩ := m0.openR (i := 1) rfl (h.length - 1) (r := [.v (.int .i64 xs), .ns .u8 xd]) (itD_get hes) 20 rfl
  revert Hz
  cases hp66; clear m0 ho66
  rcases hR66 with _ | ⟨hd66_0, _ | ⟨hd66_1, _ | _⟩⟩
  obtain rfl := hd66_0.v_out
  clear hd66_0
  obtain ⟨p67, c67, hv67, hc67⟩ := hd66_1.ns_shape; subst hv67
  intro Hz
  have m67 := m66.dat 21 rfl (hd66_1.cast (fun _ h => (free_add rfl h))); clear m66 hd66_1
  refine gz hK1 Hz (.g rfl rfl rfl rfl (fun _ h_ => y_idx h_ rfl rfl U69 fct0 (h.length - 1) rfl (by omega)) <| .fieldAddrQZ 0 rfl U71 rfl (s := 0) (by kernel_rfl) rfl <| .loadC0Z m67 (i := 20) rfl rfl U2 rfl <| .leqZ rfl rfl <| .pickTZ rfl rfl <| .pickF rfl rfl <| .nil) fun Az Hz => ?_
  refine bc Hz 28 ?_ ?_
  ·
   intro hb74 Hz; try simp only [QQ, Qax] at hb74
   have hbad : s9 ≤ xs := by have := hb74; first | omega | (simp at this; omega)
   refine wct Hz ?_
   replace Hz := Hz.oz [0, 1, 2, 6, 9, 12, 13, 17, 28]
   refine regS Hz (.move rfl <| .assign rfl .nil) fun Az Hz => ?_
   refine rt1 Hz ?_
   have hAd : addF h s9 d = h := by unfold addF; rw [if_neg (fun h9 => h9.2.elim (fun e => by rw [e] at hl0; simp at hl0) (fun h8 => by omega))]
   have m78 := m67.dat 9 rfl (m67.rd (i := 1) rfl)
   rw [hAd]
   exact ⟨_, _, rfl, m78.ren [(1, 1), (2, 2), (9, 9)] (by decide)⟩
  intro hb74 Hz; try simp only [QQ, Qax] at hb74
  have hgood : xs < s9 := by have := hb74; first | omega | (simp at this; omega)
  refine wcf Hz ?_
  refine zss (hK0 _ _ ?_)
  replace Hz := Hz.oz [0, 1, 2, 6, 9, 12, 13, 17, 28]
  refine zsr fun K2 hK2 => ?_
  refine goCh Hz (.move rfl .nil) fun Az Hz => ?_
  have m82 := m67.nilR 22 71 2
  refine plz (e_appR Hz m82 22 rfl rfl rfl (m82.rd (i := 1) rfl) U69 fct42 rfl rfl (by decide) (by simp only [List.length_append, List.length_nil, List.length_map, List.length_cons]; omega) rfl fun p83 c83 Az w84 Hz m84 => ?_)
  refine goCh Hz (.move rfl <| .move rfl .nil) fun Az Hz => ?_
  refine plz (e_app0M Hz m84 23 rfl rfl (m84.nums (i := 2) rfl) U22 fct19 (by decide) (by omega) rfl fun p87 c87 Az w88 Hz m88 => ?_)
  refine goCh Hz (.build rfl fct41 fl71zad rfl (by dsimp only [setL, List.set] <;> rfl) .nil) fun Az Hz => ?_
  have m91 := m88.freezeN 23 rfl
  refine plz (e_litR Hz m91 24 (mm := 2) rfl (.cons rfl rfl (.cons (.v _) (.cons (m91.rd (i := 23) rfl) .nil)) .nil) U69 fct42 rfl rfl rfl rfl rfl fun g90 Az w92 Hz m92 => ?_)
  have m94 := m92.freezeR 24 rfl
  refine plz (e_appR Hz m94 22 rfl rfl rfl (m94.rd (i := 24) rfl) U69 fct42 rfl rfl (by decide) (by simp only [List.length_append, List.length_nil, List.length_map, List.length_cons]; omega) rfl fun p93 c93 Az w95 Hz m95 => ?_)
  refine gz hK2 Hz (.assign rfl .nil) fun Az Hz => ?_
  refine rt1 Hz ?_
  have hAd : addF h s9 d = h ++ [(s9, d)] := by unfold addF; rw [if_pos ⟨htm, .inr (by omega)⟩]
  have m97 := m95.freezeR 22 rfl
  have hE : h.map itD ++ [[D.v (.int .i64 s9), .ns .u8 d]] = (h ++ [(s9, d)]).map itD := by rw [List.map_append]; rfl
  try rw [List.nil_append] at m97
  try simp only [List.nil_append] at m97
  rw [hE] at m97
  try simp only [List.nil_append]
  rw [hE]
  rw [List.length_map] at m97
  rw [List.length_map, hAd]
  exact ⟨_, _, rfl, m97.ren [(1, 1), (2, 2), (9, 22)] (by decide)⟩
 intro hb60 Hz; try simp only [QQ, Qax] at hb60
 have hnil : h = [] := List.length_eq_zero_iff.1 (by have := hb60; first | omega | (simp at this; omega) | (simp at this; simp [this]))
 refine gz hK1 Hz (.sk <| .sk <| .sk <| .sk <| .sk <| .sk <| .sk <| .sk <| .sk <| .pickFZ rfl rfl <| .pickF rfl rfl <| .nil) fun Az Hz => ?_
 refine wcf Hz ?_
 refine zss (hK0 _ _ ?_)
 replace Hz := Hz.oz [0, 1, 2, 6, 9, 12, 13, 17, 28]
 refine zsr fun K3 hK3 => ?_
 refine goCh Hz (.move rfl .nil) fun Az Hz => ?_
 have m112 := m0.nilR 20 71 2
 refine plz (e_appR Hz m112 20 rfl rfl rfl (m112.rd (i := 1) rfl) U69 fct42 rfl rfl (by decide) (by simp only [List.length_append, List.length_nil, List.length_map, List.length_cons]; omega) rfl fun p113 c113 Az w114 Hz m114 => ?_)
 refine goCh Hz (.move rfl <| .move rfl .nil) fun Az Hz => ?_
 refine plz (e_app0M Hz m114 21 rfl rfl (m114.nums (i := 2) rfl) U22 fct19 (by decide) (by omega) rfl fun p117 c117 Az w118 Hz m118 => ?_)
 refine goCh Hz (.build rfl fct41 fl71zad rfl (by dsimp only [setL, List.set] <;> rfl) .nil) fun Az Hz => ?_
 have m121 := m118.freezeN 21 rfl
 refine plz (e_litR Hz m121 22 (mm := 2) rfl (.cons rfl rfl (.cons (.v _) (.cons (m121.rd (i := 21) rfl) .nil)) .nil) U69 fct42 rfl rfl rfl rfl rfl fun g120 Az w122 Hz m122 => ?_)
 have m124 := m122.freezeR 22 rfl
 refine plz (e_appR Hz m124 20 rfl rfl rfl (m124.rd (i := 22) rfl) U69 fct42 rfl rfl (by decide) (by simp only [List.length_append, List.length_nil, List.length_map, List.length_cons]; omega) rfl fun p123 c123 Az w125 Hz m125 => ?_)
 refine gz hK3 Hz (.assign rfl .nil) fun Az Hz => ?_
 refine rt1 Hz ?_
 have hAd : addF h s9 d = h ++ [(s9, d)] := by unfold addF; rw [if_pos ⟨htm, .inl hnil⟩]
 have m127 := m125.freezeR 20 rfl
 have hE : h.map itD ++ [[D.v (.int .i64 s9), .ns .u8 d]] = (h ++ [(s9, d)]).map itD := by rw [List.map_append]; rfl
 try rw [List.nil_append] at m127
 try simp only [List.nil_append] at m127
 rw [hE] at m127
 try simp only [List.nil_append]
 rw [hE]
 rw [List.length_map] at m127
 rw [List.length_map, hAd]
 exact ⟨_, _, rfl, m127.ren [(1, 1), (2, 2), (9, 20)] (by decide)⟩
theorem zprune_x (X : Cx) (h : List Ver) (f : Int) (p : Option Addr) (nn c : Nat) (w0 : World) (hl : h.length ≤ 1000000) (hr : Rise h) (m0 : MemOk X w0 [(1, .dat (.slice p nn c) (.l 2 (h.map itD)))] w0) :
   Calls Tryz.prog 68 #[.slice p nn c, .int .i64 f] w0 fun e w' => ∃ (p9 : Option Addr) (c9 : Nat), e = .returned (.slice p9 (pruneF h f).length c9) ∧ MemOk X w0 [(1, .dat (.slice p nn c) (.l 2 (h.map itD))), (9, .dat (.slice p9 (pruneF h f).length c9) (.l 2 ((pruneF h f).map itD)))] w' := by
 refine ent2 Tryz.func68 rfl Tryz.ntmps68 fun Az Hz => ?_
 have hnn : nn = h.length := nnOf (m0.rd (i := 1) rfl)
 revert Hz
 subst hnn
 intro Hz
 refine regS Hz (.assign rfl .nil) fun Az Hz => ?_
 refine regS Hz (.assign rfl .nil) fun Az Hz => ?_
 refine wsk fun K0 hK0 => ?_
 refine regS Hz (.assign rfl .nil) fun Az Hz => ?_
 refine wp_block ?_
 refine wp_loop_ghost (fun g a w => ∃ (i : Nat) (p9 : Option Addr) (c9 : Nat), i ≤ h.length ∧ g = h.length - i ∧ Has 36 [(0, .slice p h.length c), (1, .int .i64 f), (5, .slice p9 ((rpr h f i).map itD).length c9), (6, .int .i64 i)] a ∧ MemOk X w0 [(1, .dat (.slice p h.length c) (.l 2 (h.map itD))), (9, .row (.slice p9 ((rpr h f i).map itD).length c9) 71 2 ((rpr h f i).map itD))] w) (h.length) ?_ ?_
 · have mz := m0.nilR 9 71 2
   have hz : ([] : List (List D)) = ((rpr h f 0).map itD) := by rw [rpr_zero]; rfl
   have hz2 : 0 = ((rpr h f 0).map itD).length := by rw [rpr_zero]; rfl
   rw [hz] at mz
   exact ⟨0, none, 0, Nat.zero_le _, rfl, by rw [← hz2]; exact Hz.only [0, 1, 5, 6], by rw [← hz2]; exact mz.only [1, 9]⟩
 clear Hz m0
 rintro g Az w4 ⟨i, p9, c9, hil, hg, Hz, m4⟩
 refine wsk fun K1 hK1 => ?_
 refine regS Hz (.move rfl <| .move rfl <| .len rfl U69 <| .lss rfl rfl .nil) fun Az Hz => ?_
 refine bc Hz 10 ?_ ?_
 ·
  intro hb9 Hz; try simp only [QQ, Qax] at hb9
  have hi : i < h.length := by have := hb9; first | omega | (simp at this; omega)
  obtain ⟨⟨xs, xd⟩, hes⟩ : ∃ e, h[i]? = some e := ⟨_, List.getElem?_eq_getElem hi⟩
  refine wct Hz ?_
  refine zss (hK1 _ _ ?_)
  refine wsk fun K2 hK2 => ?_
  refine wp_block ?_
  refine zsr fun K3 hK3 => ?_
  refine goCh Hz (.move rfl <| .inc (i + 1) <| .move rfl <| .len rfl U69 <| .geq rfl rfl <| .move rfl .nil) fun Az Hz => ?_
  refine bc Hz 18 ?_ ?_
  ·
   intro hb22 Hz; try simp only [QQ, Qax] at hb22
   have hlast : h.length ≤ i + 1 := by have := hb22; first | omega | (simp at this; omega)
   have hkeep : upN h f ≤ i + 1 := by have := upN_le h f; omega
   refine gz hK3 Hz (.sk <| .sk <| .sk <| .sk <| .sk <| .sk <| .sk <| .sk <| .pickT rfl rfl <| .nil) fun Az Hz => ?_
   refine wct Hz ?_
   replace Hz := Hz.oz [0, 1, 5, 6, 27]
   refine wp_region_lit ?_
   refine goCh Hz (.move rfl <| .move rfl <| .move rfl .nil) fun Az Hz => ?_
   obtain ⟨b36, o36, vs36, hp36, hR36, ho36, m36⟩ := m4.openR (i := 1) rfl (i) (r := [.v (.int .i64 xs), .ns .u8 xd]) (itD_get hes) 100 rfl
   revert Hz
   cases hp36; clear m4 ho36
   rcases hR36 with _ | ⟨hd36_0, _ | ⟨hd36_1, _ | _⟩⟩
   obtain rfl := hd36_0.v_out
   clear hd36_0
   obtain ⟨p37, c37, hv37, hc37⟩ := hd36_1.ns_shape; subst hv37
   intro Hz
   have m37 := m36.dat 101 rfl (hd36_1.cast (fun _ h => (free_add rfl h))); clear m36 hd36_1
   refine goCh Hz (.c rfl (fun _ h_ => y_idx h_ rfl rfl U69 fct0 (i) rfl hi) <| .loadCR m37 (i := 100) rfl rfl U71 rfl fct0 .nil) fun Az Hz => ?_
   refine plz (e_litR Hz m37 102 (mm := 2) rfl (.cons rfl rfl (.cons (.v _) (.cons (m37.rd (i := 101) rfl) .nil)) .nil) U69 fct42 rfl rfl rfl rfl rfl fun g40 Az w41 Hz m41 => ?_)
   have m43 := m41.freezeR 102 rfl
   refine plz (e_appR Hz m43 9 rfl rfl rfl (m43.rd (i := 102) rfl) U69 fct42 rfl rfl (by decide) (by rw [List.length_map]; simp; have : (rpr h f i).length ≤ h.length := (by unfold rpr; rw [List.length_drop, List.length_take]; omega); omega) rfl fun p42 c42 Az w44 Hz m44 => ?_)
   refine gz hK2 Hz (.assign rfl .nil) fun Az Hz => ?_
   replace Hz := Hz.oz [0, 1, 5, 6, 27]
   refine wp_region_lit ?_
   refine goCh Hz (.move rfl <| .inc (i + 1) <| .assign rfl .nil) fun Az Hz => ?_
   refine wpList_nil ?_
   show ∃ n', n' < _ ∧ _
   have hE : ((rpr h f i).map itD) ++ [[D.v (.int .i64 xs), .ns .u8 xd]] = ((rpr h f (i + 1)).map itD) := by rw [rpr_yes hes hkeep, List.map_append]; rfl
   rw [hE] at m44 Hz
   exact ⟨h.length - (i + 1), by omega, i + 1, _, _, by omega, rfl, Hz.only [0, 1, 5, 6], m44.ren [(1, 1), (9, 9)] (by decide)⟩
  intro hb22 Hz; try simp only [QQ, Qax] at hb22
  have hi2 : i + 1 < h.length := by have := hb22; first | omega | (simp at this; omega)
  obtain ⟨⟨ys, yd⟩, hes2⟩ : ∃ e, h[i + 1]? = some e := ⟨_, List.getElem?_eq_getElem hi2⟩
  have hy9 : (h.getD (i + 1) v0).1 = ys := by rw [List.getD, hes2]; rfl
  refine goCh Hz (.moveZ rfl <| .moveZ rfl <| .addZ rfl rfl (r := ((i + 1 : Nat) : Int)) (by rw [IntWalk.i64_in _ (by omega)]; omega) .nil) fun Az Hz => ?_
  obtain ⟨b53, o53, vs53, hp53, hR53, ho53, m53⟩ := m4.openR (i := 1) rfl (i + 1) (r := [.v (.int .i64 ys), .ns .u8 yd]) (itD_get hes2) 100 rfl
  revert Hz
  cases hp53; clear m4 ho53
  rcases hR53 with _ | ⟨hd53_0, _ | ⟨hd53_1, _ | _⟩⟩
  obtain rfl := hd53_0.v_out
  clear hd53_0
  obtain ⟨p54, c54, hv54, hc54⟩ := hd53_1.ns_shape; subst hv54
  intro Hz
  have m54 := m53.dat 101 rfl (hd53_1.cast (fun _ h => (free_add rfl h))); clear m53 hd53_1
  refine gz hK3 Hz (.g rfl rfl rfl rfl (fun _ h_ => y_idx h_ rfl rfl U69 fct0 (i + 1) rfl (by omega)) <| .fieldAddrQZ 0 rfl U71 rfl (s := 0) (by kernel_rfl) rfl <| .loadC0Z m54 (i := 100) rfl rfl U2 rfl <| .moveZ rfl <| .gtrZ rfl rfl <| .pickF rfl rfl <| .nil) fun Az Hz => ?_
  refine bc Hz 27 ?_ ?_
  ·
   intro hb61 Hz; try simp only [QQ, Qax] at hb61
   have hkeep : upN h f ≤ i + 1 := by first | assumption | exact (rpr_gt hr hi2).1 (by rw [hy9]; have := hb61; first | omega | (simp at this; omega))
   refine wct Hz ?_
   replace Hz := Hz.oz [0, 1, 5, 6, 27]
   refine wp_region_lit ?_
   refine goCh Hz (.move rfl <| .move rfl <| .move rfl .nil) fun Az Hz => ?_
   obtain ⟨b66, o66, vs66, hp66, hR66, ho66, m66⟩ := m54.openR (i := 1) rfl (i) (r := [.v (.int .i64 xs), .ns .u8 xd]) (itD_get hes) 102 rfl
   revert Hz
   cases hp66; clear m54 ho66
   rcases hR66 with _ | ⟨hd66_0, _ | ⟨hd66_1, _ | _⟩⟩
   obtain rfl := hd66_0.v_out
   clear hd66_0
   obtain ⟨p67, c67, hv67, hc67⟩ := hd66_1.ns_shape; subst hv67
   intro Hz
   have m67 := m66.dat 103 rfl (hd66_1.cast (fun _ h => (free_add rfl h))); clear m66 hd66_1
   refine goCh Hz (.c rfl (fun _ h_ => y_idx h_ rfl rfl U69 fct0 (i) rfl hi) <| .loadCR m67 (i := 102) rfl rfl U71 rfl fct0 .nil) fun Az Hz => ?_
   refine plz (e_litR Hz m67 104 (mm := 2) rfl (.cons rfl rfl (.cons (.v _) (.cons (m67.rd (i := 103) rfl) .nil)) .nil) U69 fct42 rfl rfl rfl rfl rfl fun g70 Az w71 Hz m71 => ?_)
   have m73 := m71.freezeR 104 rfl
   refine plz (e_appR Hz m73 9 rfl rfl rfl (m73.rd (i := 104) rfl) U69 fct42 rfl rfl (by decide) (by rw [List.length_map]; simp; have : (rpr h f i).length ≤ h.length := (by unfold rpr; rw [List.length_drop, List.length_take]; omega); omega) rfl fun p72 c72 Az w74 Hz m74 => ?_)
   refine gz hK2 Hz (.assign rfl .nil) fun Az Hz => ?_
   replace Hz := Hz.oz [0, 1, 5, 6, 27]
   refine wp_region_lit ?_
   refine goCh Hz (.move rfl <| .inc (i + 1) <| .assign rfl .nil) fun Az Hz => ?_
   refine wpList_nil ?_
   show ∃ n', n' < _ ∧ _
   have hE : ((rpr h f i).map itD) ++ [[D.v (.int .i64 xs), .ns .u8 xd]] = ((rpr h f (i + 1)).map itD) := by rw [rpr_yes hes hkeep, List.map_append]; rfl
   rw [hE] at m74 Hz
   exact ⟨h.length - (i + 1), by omega, i + 1, _, _, by omega, rfl, Hz.only [0, 1, 5, 6], m74.ren [(1, 1), (9, 9)] (by decide)⟩
  intro hb61 Hz; try simp only [QQ, Qax] at hb61
  have hdrop : i + 1 < upN h f := by have h9 := mt (rpr_gt (f := f) hr hi2).2; have h8 : ¬ f < (h.getD (i + 1) v0).1 := (by rw [hy9]; have := hb61; first | omega | (simp at this; omega)); have := h9 h8; omega
  refine wcf Hz ?_
  refine zss (hK2 _ _ ?_)
  replace Hz := Hz.oz [0, 1, 5, 6, 27]
  refine wp_region_lit ?_
  refine goCh Hz (.move rfl <| .inc (i + 1) <| .assign rfl .nil) fun Az Hz => ?_
  refine wpList_nil ?_
  show ∃ n', n' < _ ∧ _
  have hE : ((rpr h f i).map itD) = ((rpr h f (i + 1)).map itD) := by rw [rpr_no hdrop]
  rw [hE] at m54 Hz
  exact ⟨h.length - (i + 1), by omega, i + 1, _, _, by omega, rfl, Hz.only [0, 1, 5, 6], m54.ren [(1, 1), (9, 9)] (by decide)⟩
 intro hb9 Hz; try simp only [QQ, Qax] at hb9
 revert Hz
 obtain rfl : i = h.length := by have := hb9; first | omega | (simp at this; omega)
 intro Hz
 refine wcf Hz ?_
 refine wp_exit ?_
 refine hK0 _ _ ?_
 refine regS Hz (.move rfl <| .assign rfl .nil) fun Az Hz => ?_
 refine rt1 Hz ?_
 have m86 := m4.freezeR 9 rfl
 rw [rpr_all, List.length_map] at m86
 rw [rpr_all, List.length_map]
 exact ⟨_, _, rfl, m86.ren [(1, 1), (9, 9)] (by decide)⟩
end Go.Proofs.YtamjnimaeecmoaaGreat.K
end
section
namespace Go.Proofs.YtamjnimaeecmoaaGreat.K
open Go.ChangeShapes Go.WideShapes Go.ChangeAt Go.RowKit
set_option linter.unusedVariables false
set_option linter.unusedSimpArgs false
set_option maxRecDepth 100000
set_option maxHeartbeats 4000000
theorem zapply_x (X : Cx) (vo ch cn sz mk fl fr to fl2 : Int) (H : List (List Ver)) (W : List (Int × List (Int × List Int))) (p pw : Option Addr) (nn c nw cw : Nat) (w0 : World) (hok : HB 900000 H) (hH : (H.length : Int) = cn) (hP : PuOk vo ch cn sz fr to fl2 W) (hfm : fr ≤ mk) (m0 : MemOk X w0 [(1, .dat (.slice p nn c) (.l 1 (H.map hD))), (2, .dat (.slice pw nw cw) (.l 2 (W.map wrD)))] w0) :
   Calls Tryz.prog 36 #[.agg #[.int .i64 vo, .int .i64 ch, .int .i64 cn, .int .i64 sz, .int .i64 mk, .int .i64 fl, .slice p nn c], .agg #[.int .i64 vo, .int .i64 ch, .int .i64 cn, .int .i64 sz, .int .i64 fr, .int .i64 to, .int .i64 fl2, .slice pw nw cw]] w0 fun e w' => ∃ (p9 : Option Addr) (c9 : Nat), e = .returned (.agg #[.int .i64 vo, .int .i64 ch, .int .i64 cn, .int .i64 sz, .int .i64 (max mk to), .int .i64 (max fl fl2), .slice p9 nn c9]) ∧ MemOk X w0 [(1, .dat (.slice p nn c) (.l 1 (H.map hD))), (2, .dat (.slice pw nw cw) (.l 2 (W.map wrD))), (9, .row (.slice p9 nn c9) 69 1 (((applyW mk H W).map (fun h => pruneF h (max fl fl2))).map hD))] w' := by
 refine ent2 Tryz.func36 rfl Tryz.ntmps36 fun Az Hz => ?_
 have hl : H.length ≤ 1000000 := by have := hP.1.2.2.1; omega
 have hWl := hP.2.2.2.2.1
 have hnn : nn = H.length := nnOf (m0.rd (i := 1) rfl)
 have hnw : nw = W.length := nnOf (m0.rd (i := 2) rfl)
 revert Hz
 subst hnn; subst hnw
 intro Hz
 refine zsr fun K0 hK0 => ?_
 refine plz (e_box Hz m0 30 (cs := [_, _, _, _, _, _, _]) rfl rfl rfl fun g1 Az w2 Hz m2 _ _ => ?_)
 refine plz (e_box Hz m2 31 (cs := [_, _, _, _, _, _, _, _]) rfl rfl rfl fun g3 Az w4 Hz m4 _ _ => ?_)
 refine plz (e_alloc Hz m4 32 fct17 rfl fun g5 Az w6 Hz m6 _ _ => ?_)
 refine znl (hK0 _ _ ?_)
 refine wsk fun K1 hK1 => ?_
 refine zsr fun K2 hK2 => ?_
 refine goCh Hz (.loadBR m6 (i := 31) rfl rfl U90 rfl fct14 (by simp) (by dsimp only [List.drop, List.take] <;> rfl) .nil) fun Az Hz => ?_
 refine plz (ecl Hz Tryz.func66 rfl (zpright_x _ vo ch cn sz fr to fl2 W _ _ _ _ hP (m6.into [(1, 2)] (by decide) rfl)) ?_)
 rintro e w9 ⟨rfl, hm9⟩
 have mx9 := m6.back hm9 [(2, 1)] (by decide); clear hm9 m6
 have m9 := mx9.oz [2, 1, 30, 31, 32]
 refine ⟨_, rfl, ?_⟩; intro Az Hz
 refine goCh Hz (.not rfl <| .move rfl <| .faZ 0 rfl U28 <| .loadB1Z m9 (i := 30) rfl rfl rfl U3 rfl <| .faZ 0 rfl U90 <| .loadB1Z m9 (i := 31) rfl rfl rfl U3 rfl <| .neqZ rfl rfl <| .pickF rfl rfl <| .move rfl .nil) fun Az Hz => ?_
 refine bc Hz 21 ?_ ?_
 · intro hb _; exact absurd hb (by first | (simp; done) | (simp; omega))
 clear Hz; intro _ Hz
 refine goCh Hz (.faZ 1 rfl U28 <| .loadB1Z m9 (i := 30) rfl rfl rfl U3 rfl <| .faZ 1 rfl U90 <| .loadB1Z m9 (i := 31) rfl rfl rfl U3 rfl <| .neqZ rfl rfl <| .pickF rfl rfl <| .move rfl .nil) fun Az Hz => ?_
 refine bc Hz 28 ?_ ?_
 · intro hb _; exact absurd hb (by first | (simp; done) | (simp; omega))
 clear Hz; intro _ Hz
 refine goCh Hz (.faZ 2 rfl U28 <| .loadB1Z m9 (i := 30) rfl rfl rfl U3 rfl <| .faZ 2 rfl U90 <| .loadB1Z m9 (i := 31) rfl rfl rfl U3 rfl <| .neqZ rfl rfl <| .pickF rfl rfl <| .move rfl .nil) fun Az Hz => ?_
 refine bc Hz 35 ?_ ?_
 · intro hb _; exact absurd hb (by first | (simp; done) | (simp; omega))
 clear Hz; intro _ Hz
 refine goCh Hz (.faZ 3 rfl U28 <| .loadB1Z m9 (i := 30) rfl rfl rfl U3 rfl <| .faZ 3 rfl U90 <| .loadB1Z m9 (i := 31) rfl rfl rfl U3 rfl <| .neqZ rfl rfl <| .pickF rfl rfl <| .move rfl .nil) fun Az Hz => ?_
 refine bc Hz 42 ?_ ?_
 · intro hb _; exact absurd hb (by first | (simp; done) | (simp; omega))
 clear Hz; intro _ Hz
 refine gz hK2 Hz (.faZ 4 rfl U28 <| .loadB1Z m9 (i := 30) rfl rfl rfl U2 rfl <| .faZ 4 rfl U90 <| .loadB1Z m9 (i := 31) rfl rfl rfl U2 rfl <| .lssZ rfl rfl <| .pickF rfl rfl <| .nil) fun Az Hz => ?_
 refine bc Hz 48 ?_ ?_
 · intro hb _; exact absurd hb (by first | (simp; done) | (simp; omega))
 clear Hz; intro _ Hz
 refine wcf Hz ?_
 refine zss (hK1 _ _ ?_)
 replace Hz := Hz.oz [2, 3, 4, 28]
 refine zsr fun K3 hK3 => ?_
 refine goCh Hz (.fa 6 rfl U28 <| .lb m9 30 U26 rfl rfl rfl .nil) fun Az Hz => ?_
 have m57 := m9.nilR 33 69 1
 refine plz (e_appR Hz m57 33 rfl rfl rfl (m57.rd (i := 1) rfl) U26 fct9 rfl rfl (by decide) (by simp only [List.length_append, List.length_nil, List.length_map, List.length_cons]; omega) rfl fun p58 c58 Az w59 Hz m59 => ?_)
 refine gz hK3 Hz (.assign rfl .nil) fun Az Hz => ?_
 refine wsk fun K4 hK4 => ?_
 refine regS Hz (.assign rfl .nil) fun Az Hz => ?_
 refine wp_block ?_
 refine wp_loop_ghost (fun g a w => ∃ (k gA gB gR : Nat) (Hk : List (List Ver)) (p9 : Option Addr) (c9 : Nat), k ≤ W.length ∧ g = W.length - k ∧ Hk = applyW mk H (W.take k) ∧ HB (900000 + 8 * k) Hk ∧ Has 132 [(2, .pointer (some ⟨gA, 0, none⟩)), (3, .pointer (some ⟨gB, 0, none⟩)), (4, .pointer (some ⟨gR, 0, none⟩)), (5, .slice p9 H.length c9), (6, .int .i64 k)] a ∧ MemOk X w0 [(1, .dat (.slice p H.length c) (.l 1 (H.map hD))), (2, .dat (.slice pw W.length cw) (.l 2 (W.map wrD))), (9, .row (.slice p9 H.length c9) 69 1 (Hk.map hD)), (10, .box gA 28 [.int .i64 vo, .int .i64 ch, .int .i64 cn, .int .i64 sz, .int .i64 mk, .int .i64 fl, .slice p H.length c]), (11, .box gB 90 [.int .i64 vo, .int .i64 ch, .int .i64 cn, .int .i64 sz, .int .i64 fr, .int .i64 to, .int .i64 fl2, .slice pw W.length cw]), (12, .box gR 28 [.int .i64 0, .int .i64 0, .int .i64 0, .int .i64 0, .int .i64 0, .int .i64 0, .slice none 0 0])] w) (W.length) ?_ ?_
 · simp only [List.nil_append, List.length_nil, List.length_append, List.length_map, Nat.zero_add] at m59 Hz
   exact ⟨0, _, _, _, H, _, _, Nat.zero_le _, rfl, rfl, hok.up (by omega), Hz.only [2, 3, 4, 5, 6], m59.ren [(1, 1), (2, 2), (9, 33), (10, 30), (11, 31), (12, 32)] (by decide)⟩
 clear Hz m59
 rintro g Az w62 ⟨k, gA, gB, gR, Hk, p9, c9, hkl, hg, hHk, hHB, Hz, m62⟩
 refine wsk fun K5 hK5 => ?_
 refine regS Hz (.move rfl <| .fa 7 rfl U90 <| .lb m62 11 U31 rfl rfl rfl <| .len rfl U31 <| .lss rfl rfl .nil) fun Az Hz => ?_
 refine bc Hz 57 ?_ ?_
 ·
  intro hb68 Hz; try simp only [QQ, Qax] at hb68
  have hk : k < W.length := by have := hb68; first | omega | (simp at this; omega)
  obtain ⟨⟨xs, xl⟩, hes⟩ : ∃ e, W[k]? = some e := ⟨_, List.getElem?_eq_getElem hk⟩
  have hit : ∀ {j : Nat} {xb : Int} {xd : List Int}, xl[j]? = some (xb, xd) → (0 ≤ xb ∧ xb < cn) ∧ (xd.length ≤ 32 ∧ xl.length ≤ 8) := fun h7 => wpre_at hP hes h7
  have hx8 : xl.length ≤ 8 := wpre_8 hP hes
  have hml : (xl.map itD).length = xl.length := List.length_map _
  refine wct Hz ?_
  refine zss (hK5 _ _ ?_)
  refine wsk fun K6 hK6 => ?_
  refine wp_block ?_
  refine zsr fun K7 hK7 => ?_
  refine goCh Hz (.fa 7 rfl U90 <| .lb m62 11 U31 rfl rfl rfl <| .move rfl .nil) fun Az Hz => ?_
  obtain ⟨b76, o76, vs76, hp76, hR76, ho76, m76⟩ := m62.openR (i := 2) rfl (k) (r := [.v (.int .i64 xs), .l 2 (xl.map itD)]) (wrD_get hes) 100 rfl
  revert Hz
  cases hp76; clear m62 ho76
  rcases hR76 with _ | ⟨hd76_0, _ | ⟨hd76_1, _ | _⟩⟩
  obtain rfl := hd76_0.v_out
  clear hd76_0
  obtain ⟨p77, c77, hv77, hc77⟩ := hd76_1.l_shape; subst hv77
  intro Hz
  have m77 := m76.dat 101 rfl (hd76_1.cast (fun _ h => (free_add rfl h))); clear m76 hd76_1
  refine goCh Hz (.c rfl (fun _ h_ => y_idx h_ rfl rfl U31 fct15 (k) rfl hk) <| .loadCR m77 (i := 100) rfl rfl U109 rfl fct15 .nil) fun Az Hz => ?_
  refine plz (e_alloc Hz m77 102 fct18 rfl fun g80 Az w81 Hz m81 _ _ => ?_)
  refine plz (stw Hz m81 102 fct15 fun w82 m82 _ => ?_)
  refine znl (hK7 _ _ ?_)
  replace Hz := Hz.oz [2, 3, 4, 5, 6, 7]
  refine regS Hz (.assign rfl .nil) fun Az Hz => ?_
  refine wp_block ?_
  refine wp_loop_ghost (fun g a w => ∃ (j gA gB gR gW : Nat) (L2 : List (List Ver)) (p9 : Option Addr) (c9 : Nat) (px : Option Addr) (cx : Nat), j ≤ xl.length ∧ g = xl.length - j ∧ L2 = addW xs Hk (xl.take j) ∧ (xs ≤ mk → j = 0) ∧ L2.length = H.length ∧ HB (900000 + 8 * k + j) L2 ∧ Has 132 [(2, .pointer (some ⟨gA, 0, none⟩)), (3, .pointer (some ⟨gB, 0, none⟩)), (4, .pointer (some ⟨gR, 0, none⟩)), (5, .slice p9 H.length c9), (6, .int .i64 k), (7, .pointer (some ⟨gW, 0, none⟩)), (8, .int .i64 j)] a ∧ MemOk X w0 [(1, .dat (.slice p H.length c) (.l 1 (H.map hD))), (2, .dat (.slice (some ⟨b76, o76, none⟩) W.length cw) (.l 2 (W.map wrD))), (9, .row (.slice p9 H.length c9) 69 1 (L2.map hD)), (10, .box gA 28 [.int .i64 vo, .int .i64 ch, .int .i64 cn, .int .i64 sz, .int .i64 mk, .int .i64 fl, .slice p H.length c]), (11, .box gB 90 [.int .i64 vo, .int .i64 ch, .int .i64 cn, .int .i64 sz, .int .i64 fr, .int .i64 to, .int .i64 fl2, .slice (some ⟨b76, o76, none⟩) W.length cw]), (12, .box gR 28 [.int .i64 0, .int .i64 0, .int .i64 0, .int .i64 0, .int .i64 0, .int .i64 0, .slice none 0 0]), (13, .box gW 109 [.int .i64 xs, .slice px (xl.map itD).length cx]), (14, .dat (.slice px (xl.map itD).length cx) (.l 2 (xl.map itD)))] w) (xl.length) ?_ ?_
  · exact ⟨0, _, _, _, _, Hk, _, _, _, _, Nat.zero_le _, rfl, rfl, fun _ => rfl, by rw [hHk, applyW_len], hHB, Hz.only [2, 3, 4, 5, 6, 7, 8], m82.ren [(1, 1), (2, 2), (9, 9), (10, 10), (11, 11), (12, 12), (13, 102), (14, 101)] (by decide)⟩
  clear Hz m82
  rintro g Az w85 ⟨j, gA, gB, gR, gW, L2, p9, c9, px, cx, hjl, hg2, hL2, hj0, hLl, hLB, Hz, m85⟩
  refine wsk fun K8 hK8 => ?_
  refine zsr fun K9 hK9 => ?_
  refine goCh Hz (.move rfl <| .fa 1 rfl U109 <| .lb m85 13 U40 rfl rfl rfl <| .len rfl U40 <| .lss rfl rfl <| .move rfl .nil) fun Az Hz => ?_
  refine bc Hz 70 ?_ ?_
  ·
   intro hb98 Hz; try simp only [QQ, Qax] at hb98
   have hj : j < xl.length := by have := hb98; first | (rw [List.length_map] at this; omega) | (simp at this; omega)
   refine gz hK9 Hz (.faZ 0 rfl U109 <| .loadB1Z m85 (i := 13) rfl rfl rfl U2 rfl <| .faZ 4 rfl U28 <| .loadB1Z m85 (i := 10) rfl rfl rfl U2 rfl <| .gtrZ rfl rfl <| .pickT rfl rfl <| .nil) fun Az Hz => ?_
   refine bc Hz 76 ?_ ?_
   ·
    intro hb105 Hz; try simp only [QQ, Qax] at hb105
    have hgt : mk < xs := by have := hb105; first | omega | (simp at this; omega)
    obtain ⟨⟨xb, xd⟩, hxs⟩ : ∃ e, xl[j]? = some e := ⟨_, List.getElem?_eq_getElem hj⟩
    have hxb := (hit hxs).1
    have hxd : xd.length ≤ 1000000 := by have := (hit hxs).2; omega
    obtain ⟨h9, hes9⟩ : ∃ e, L2[xb.toNat]? = some e := ⟨_, List.getElem?_eq_getElem (by omega)⟩
    have hx9 : L2.getD xb.toNat [] = h9 := by rw [List.getD, hes9]; rfl
    have hh9 := hLB.at (List.mem_of_getElem? hes9)
    refine wct Hz ?_
    refine zss (hK8 _ _ ?_)
    refine wsk fun K10 hK10 => ?_
    refine wp_block ?_
    replace Hz := Hz.oz [2, 3, 4, 5, 6, 7, 8]
    refine zsr fun K11 hK11 => ?_
    refine goCh Hz (.fa 1 rfl U109 <| .lb m85 13 U40 rfl rfl rfl <| .move rfl .nil) fun Az Hz => ?_
    obtain ⟨b114, o114, vs114, hp114, hR114, ho114, m114⟩ := m85.openR (i := 14) rfl (j) (r := [.v (.int .i64 xb), .ns .u8 xd]) (itD_get hxs) 200 rfl
    revert Hz
    cases hp114; clear m85 ho114
    rcases hR114 with _ | ⟨hd114_0, _ | ⟨hd114_1, _ | _⟩⟩
    obtain rfl := hd114_0.v_out
    clear hd114_0
    obtain ⟨p115, c115, hv115, hc115⟩ := hd114_1.ns_shape; subst hv115
    intro Hz
    have m115 := m114.dat 201 rfl (hd114_1.cast (fun _ h => (free_add rfl h))); clear m114 hd114_1
    refine gz hK11 Hz (.c rfl (fun _ h_ => y_idx h_ rfl rfl U40 fct16 (j) rfl (by rw [List.length_map]; omega)) <| .fieldAddrQ 0 rfl U111 rfl (s := 0) (by kernel_rfl) rfl <| .loadC0 m115 (i := 200) rfl rfl U3 rfl <| .assign rfl <| .nil) fun Az Hz => ?_
    replace Hz := Hz.oz [2, 3, 4, 5, 6, 7, 8, 9]
    obtain ⟨gr122, cr122, hp122, m122⟩ := m115.openC (i := 9) rfl (Nat.lt_of_le_of_lt (Nat.zero_le (xb.toNat)) (by first | omega | (rw [List.length_map]; omega)))
    revert Hz
    cases hp122
    intro Hz
    obtain ⟨vs123, hc123, hR123⟩ := m122.eltC (i := 9) rfl (xb.toNat) (r := [.l 2 (h9.map itD)]) (hD_get hes9)
    revert Hz
    rcases hR123 with _ | ⟨hd123_0, _ | _⟩
    obtain ⟨p124, c124, hv124, hw124⟩ := hd123_0.l_shape; subst hv124
    intro Hz
    have m124 := m122.dat 202 rfl (hd123_0.cast (fun _ h => h)); clear m122 hd123_0
    obtain ⟨b125, o125, vs125, hp125, hR125, ho125, m125⟩ := m124.openR (i := 14) rfl (j) (r := [.v (.int .i64 xb), .ns .u8 xd]) (itD_get hxs) 203 rfl
    revert Hz
    cases hp125; clear m124 ho125
    rcases hR125 with _ | ⟨hd125_0, _ | ⟨hd125_1, _ | _⟩⟩
    obtain rfl := hd125_0.v_out
    clear hd125_0
    obtain ⟨p126, c126, hv126, hc126⟩ := hd125_1.ns_shape; subst hv126
    intro Hz
    have m126 := m125.dat 204 rfl (hd125_1.cast (fun _ h => (free_add rfl h))); clear m125 hd125_1
    have m127 := m126.oz [1, 2, 9, 10, 11, 12, 13, 14, 200, 201, 202, 203, 204]
    refine region_p 16 (B := [(1, _), (2, _), (9, _), (10, _), (11, _), (12, _), (13, _), (14, _), (200, _), (201, _), (202, _), (203, _), (204, _)]) (m127.to ⟨il, il, il, il, il, il, il, il, il, il, il, il, il, trivial⟩) m127 (by kernel_rfl) (fun w128 hP128 m128 => ?_); clear m127
    refine goR hP128 [0, 1, 2, 3, 4, 5, 6, 7, 8, 9, 10, 11, 12, 13] [5, 7, 9, 13] 14 0 16383 Hz (m128.to ⟨il, il, il, il, il, il, il, il, il, il, il, il, il, trivial⟩) (.move rfl <| .move rfl <| .move rfl <| .move rfl <| .p (fun _ _ h_ => y_idx h_ rfl rfl U26 fct13 (xb.toNat) (Int.toNat_of_nonneg hxb.1).symm (by first | omega | (rw [List.length_map]; omega))) <| .c (fun _ hW _ h_ => y_loadRC1 h_ hW (i := 9) rfl (xb.toNat) hc123 rfl U69 rfl) <| .fa 0 rfl U109 <| .lb hh 13 U2 rfl rfl rfl <| .fa 1 rfl U109 <| .lb hh 13 U40 rfl rfl rfl <| .move rfl <| .p (fun _ _ h_ => y_idx h_ rfl rfl U40 fct16 (j) rfl (by rw [List.length_map]; omega)) <| .fieldAddrQ 1 rfl U111 rfl (s := 0) (by kernel_rfl) rfl <| .loadC1 hh (i := 203) (q := 1) rfl rfl rfl U22 rfl .nil) fun Az Hz => ?_
    refine so 14 ?_
    refine ecl Hz Tryz.func67 rfl (zadd_x _ h9 xs xd _ _ _ _ _ _ hh9.2.1 hxd (m128.into [(1, 202), (2, 204)] (by decide) rfl)) ?_
    rintro e w143 ⟨p143, c143, rfl, hm143⟩
    have mx143 := m128.back hm143 [(202, 1), (204, 2), (205, 9)] (by decide); clear hm143 m128
    have m143 := mx143.oz [202, 204, 205, 1, 2, 9, 10, 11, 12, 13, 14, 200, 201, 203]
    refine ⟨_, rfl, ?_⟩; intro Az Hz
    refine ⟨m143.to ⟨il, il, il, il, il, il, il, il, il, il, il, il, il, trivial⟩, ?_⟩
    refine goA hP128 [15] 1 32767 65535 Hz (m143.to ⟨il, il, il, il, il, il, il, il, il, il, il, il, il, trivial⟩) (.p (fun _ _ h_ => y_idx h_ rfl rfl U26 fct13 (xb.toNat) (Int.toNat_of_nonneg hxb.1).symm (by omega)) .nil) fun Az Hz => ?_
    have m146 := m143.closeC 9 rfl
    refine se 16 ?_
    refine e_storeR1 Hz m146 9 rfl (xb.toNat) (by rw [List.length_map]; omega) rfl rfl rfl rfl fct13 (m146.rd (i := 205) rfl) fun w147 m147 => ?_
    have hset : (L2.map hD).set xb.toNat [D.l 2 ((addF h9 xs xd).map itD)] = (L2.set xb.toNat (addF h9 xs xd)).map hD := by rw [List.map_set]; rfl
    rw [hset] at m147
    refine wpAnyE_done (by kernel_rfl) ?_ _
    refine hK10 _ _ ?_
    replace Hz := Hz.oz [2, 3, 4, 5, 6, 7, 8]
    refine wp_region_lit ?_
    refine goCh Hz (.move rfl <| .inc (j + 1) <| .assign rfl .nil) fun Az Hz => ?_
    refine wpList_nil ?_
    show ∃ n', n' < _ ∧ _
    exact ⟨xl.length - (j + 1), by omega, j + 1, _, _, _, _, L2.set xb.toNat (addF h9 xs xd), _, _, _, _, by omega, rfl, by rw [addW_snoc hxs, ← hL2, hx9], fun h8 => by omega, by rw [List.length_set]; exact hLl, hLB.set hh9.1 hxd (by omega), Hz.only [2, 3, 4, 5, 6, 7, 8], m147.ren [(1, 1), (2, 2), (9, 9), (10, 10), (11, 11), (12, 12), (13, 13), (14, 14)] (by decide)⟩
   intro hb105 Hz; try simp only [QQ, Qax] at hb105
   have hj9 : xs ≤ mk ∨ j = xl.length := .inl (by have := hb105; first | omega | (simp at this; omega))
   refine wcf Hz ?_
   refine wp_exit ?_
   refine hK6 _ _ ?_
   replace Hz := Hz.oz [2, 3, 4, 5, 6, 7, 8]
   refine wp_region_lit ?_
   refine goCh Hz (.move rfl <| .inc (k + 1) <| .assign rfl .nil) fun Az Hz => ?_
   refine wpList_nil ?_
   show ∃ n', n' < _ ∧ _
   have hstep : L2 = applyW mk H (W.take (k + 1)) := by
     rw [applyW_snoc hes, ← hHk]
     by_cases hle9 : xs ≤ mk
     · rw [if_pos hle9, hL2, hj0 hle9, List.take_zero]; rfl
     rw [if_neg hle9, hL2, hj9.resolve_left hle9, List.take_length]
   exact ⟨W.length - (k + 1), by omega, k + 1, _, _, _, L2, _, _, by omega, rfl, hstep, hLB.up (by omega), Hz.only [2, 3, 4, 5, 6], m85.ren [(1, 1), (2, 2), (9, 9), (10, 10), (11, 11), (12, 12)] (by decide)⟩
  intro hb98 Hz; try simp only [QQ, Qax] at hb98
  have hj9 : xs ≤ mk ∨ j = xl.length := .inr (by have := hb98; first | (rw [List.length_map] at this; omega) | (simp at this; omega))
  refine gz hK9 Hz (.sk <| .sk <| .sk <| .sk <| .sk <| .pickF rfl rfl <| .nil) fun Az Hz => ?_
  refine wcf Hz ?_
  refine wp_exit ?_
  refine hK6 _ _ ?_
  replace Hz := Hz.oz [2, 3, 4, 5, 6, 7, 8]
  refine wp_region_lit ?_
  refine goCh Hz (.move rfl <| .inc (k + 1) <| .assign rfl .nil) fun Az Hz => ?_
  refine wpList_nil ?_
  show ∃ n', n' < _ ∧ _
  have hstep : L2 = applyW mk H (W.take (k + 1)) := by
    rw [applyW_snoc hes, ← hHk]
    by_cases hle9 : xs ≤ mk
    · rw [if_pos hle9, hL2, hj0 hle9, List.take_zero]; rfl
    rw [if_neg hle9, hL2, hj9.resolve_left hle9, List.take_length]
  exact ⟨W.length - (k + 1), by omega, k + 1, _, _, _, L2, _, _, by omega, rfl, hstep, hLB.up (by omega), Hz.only [2, 3, 4, 5, 6], m85.ren [(1, 1), (2, 2), (9, 9), (10, 10), (11, 11), (12, 12)] (by decide)⟩
 intro hb68 Hz; try simp only [QQ, Qax] at hb68
 revert Hz
 obtain rfl : k = W.length := by have := hb68; first | omega | (simp at this; omega)
 intro Hz
 rw [List.take_length] at hHk
 have hfl : Hk.length = H.length := by rw [hHk, applyW_len]
 refine wcf Hz ?_
 refine wp_exit ?_
 refine hK4 _ _ ?_
 refine wsk fun K12 hK12 => ?_
 have m166 := m62.oz [1, 2, 9, 10, 11, 12]
 refine region_p 11 (B := [(1, _), (2, _), (9, _), (10, _), (11, _), (12, _)]) (m166.to ⟨il, il, il, il, il, il, trivial⟩) m166 (by kernel_rfl) (fun w167 hP167 m167 => ?_); clear m166
 refine goR hP167 [0, 1, 2, 3, 4, 5, 6, 7, 10] [1, 3, 6] 9 0 1279 Hz (m167.to ⟨il, il, il, il, il, il, trivial⟩) (.fa 4 rfl U28 <| .lb hh 10 U2 rfl rfl rfl <| .fa 5 rfl U90 <| .lb hh 11 U2 rfl rfl rfl <| .p (fun _ _ h_ => y_max h_ rfl rfl rfl) <| .fa 5 rfl U28 <| .lb hh 10 U2 rfl rfl rfl <| .fa 6 rfl U90 <| .fa 4 rfl U28 .nil) fun Az Hz => ?_
 refine dtw 8 11 ?_ ?_
 ·
  refine e_y Hz rfl (y_loadB1 Hz m167 (i := 11) rfl rfl rfl U2 rfl) fun Az Hz => ?_
  refine ⟨fun _ => (m167.to ⟨il, il, il, il, il, il, trivial⟩), ?_⟩
  refine goA hP167 [9] 1 1535 2047 Hz (m167.to ⟨il, il, il, il, il, il, trivial⟩) (.p (fun _ _ h_ => y_max h_ rfl rfl rfl) .nil) fun Az Hz => ?_
  refine se 11 ?_
  refine st1 Hz m167 10 fct10 fun w179 m179 _ => ?_
  refine goB hP167 [12] 1 4095 8191 Hz (.fa 5 rfl U28 .nil) fun Az Hz => ?_
  refine se 13 ?_
  refine st1 Hz m179 10 fct10 fun w181 m181 _ => ?_
  refine wpAnyE_done (by kernel_rfl) ?_ _
  refine hK12 _ _ ?_
  refine wsk fun K13 hK13 => ?_
  replace Hz := Hz.oz [2, 3, 4, 5, 6]
  refine regS Hz (.assign rfl .nil) fun Az Hz => ?_
  refine wp_block ?_
  refine wp_loop_ghost (fun g a w => ∃ (k gA gB gR : Nat) (L3 : List (List Ver)) (p9 : Option Addr) (c9 : Nat), k ≤ H.length ∧ g = H.length - k ∧ L3 = ((Hk.take k).map (fun h => pruneF h (max fl fl2)) ++ Hk.drop k) ∧ Has 132 [(2, .pointer (some ⟨gA, 0, none⟩)), (3, .pointer (some ⟨gB, 0, none⟩)), (4, .pointer (some ⟨gR, 0, none⟩)), (5, .slice p9 H.length c9), (10, .int .i64 k)] a ∧ MemOk X w0 [(1, .dat (.slice p H.length c) (.l 1 (H.map hD))), (2, .dat (.slice pw W.length cw) (.l 2 (W.map wrD))), (9, .row (.slice p9 H.length c9) 69 1 (L3.map hD)), (10, .box gA 28 [.int .i64 vo, .int .i64 ch, .int .i64 cn, .int .i64 sz, .int .i64 (max mk to), .int .i64 (max fl fl2), .slice p H.length c]), (11, .box gB 90 [.int .i64 vo, .int .i64 ch, .int .i64 cn, .int .i64 sz, .int .i64 fr, .int .i64 to, .int .i64 fl2, .slice pw W.length cw]), (12, .box gR 28 [.int .i64 0, .int .i64 0, .int .i64 0, .int .i64 0, .int .i64 0, .int .i64 0, .slice none 0 0])] w) (H.length) ?_ ?_
  · exact ⟨0, _, _, _, Hk, _, _, Nat.zero_le _, rfl, by simp, Hz.only [2, 3, 4, 5, 10], m181.ren [(1, 1), (2, 2), (9, 9), (10, 10), (11, 11), (12, 12)] (by decide)⟩
  clear Hz m181
  rintro g Az w184 ⟨k, gA, gB, gR, L3, p9, c9, hkl, hg3, hL3, Hz, m184⟩
  refine wsk fun K14 hK14 => ?_
  refine regS Hz (.move rfl <| .move rfl <| .len rfl U26 <| .lss rfl rfl .nil) fun Az Hz => ?_
  refine bc Hz 116 ?_ ?_
  ·
   intro hb189 Hz; try simp only [QQ, Qax] at hb189
   have hk : k < H.length := by have := hb189; first | omega | (simp at this; omega)
   obtain ⟨h9, hes⟩ : ∃ e, Hk[k]? = some e := ⟨_, List.getElem?_eq_getElem (by omega)⟩
   have hes9 : L3[k]? = some h9 := by rw [hL3]; exact prune_at hes
   have hLl : L3.length = H.length := by rw [hL3, List.length_append, List.length_map, List.length_take, List.length_drop]; omega
   have hh9 := hHB.at (List.mem_of_getElem? hes)
   refine wct Hz ?_
   refine zss (hK14 _ _ ?_)
   refine wsk fun K15 hK15 => ?_
   refine wp_block ?_
   obtain ⟨gr191, cr191, hp191, m191⟩ := m184.openC (i := 9) rfl (Nat.lt_of_le_of_lt (Nat.zero_le (k)) (by first | omega | (rw [List.length_map]; omega)))
   revert Hz
   cases hp191
   intro Hz
   obtain ⟨vs192, hc192, hR192⟩ := m191.eltC (i := 9) rfl (k) (r := [.l 2 (h9.map itD)]) (hD_get hes9)
   revert Hz
   rcases hR192 with _ | ⟨hd192_0, _ | _⟩
   obtain ⟨p193, c193, hv193, hw193⟩ := hd192_0.l_shape; subst hv193
   intro Hz
   have m193 := m191.dat 200 rfl (hd192_0.cast (fun _ h => h)); clear m191 hd192_0
   have m194 := m193.oz [1, 2, 9, 10, 11, 12, 200]
   refine region_p 10 (B := [(1, _), (2, _), (9, _), (10, _), (11, _), (12, _), (200, _)]) (m194.to ⟨il, il, il, il, il, il, il, trivial⟩) m194 (by kernel_rfl) (fun w195 hP195 m195 => ?_); clear m194
   refine goR hP195 [0, 1, 2, 3, 4, 5, 6, 7] [5, 7] 8 0 255 Hz (m195.to ⟨il, il, il, il, il, il, il, trivial⟩) (.move rfl <| .move rfl <| .move rfl <| .move rfl <| .p (fun _ _ h_ => y_idx h_ rfl rfl U26 fct13 (k) rfl (by first | omega | (rw [List.length_map]; omega))) <| .c (fun _ hW _ h_ => y_loadRC1 h_ hW (i := 9) rfl (k) hc192 rfl U69 rfl) <| .fa 5 rfl U28 <| .lb hh 10 U2 rfl rfl rfl .nil) fun Az Hz => ?_
   refine so 8 ?_
   refine ecl Hz Tryz.func68 rfl (zprune_x _ h9 (max fl fl2) _ _ _ _ hh9.2.1 hh9.1 (m195.into [(1, 200)] (by decide) rfl)) ?_
   rintro e w204 ⟨p204, c204, rfl, hm204⟩
   have mx204 := m195.back hm204 [(200, 1), (201, 9)] (by decide); clear hm204 m195
   have m204 := mx204.oz [200, 201, 1, 2, 9, 10, 11, 12]
   refine ⟨_, rfl, ?_⟩; intro Az Hz
   refine ⟨m204.to ⟨il, il, il, il, il, il, il, trivial⟩, ?_⟩
   refine goA hP195 [9] 1 511 1023 Hz (m204.to ⟨il, il, il, il, il, il, il, trivial⟩) (.p (fun _ _ h_ => y_idx h_ rfl rfl U26 fct13 (k) rfl (by omega)) .nil) fun Az Hz => ?_
   have m207 := m204.closeC 9 rfl
   refine se 10 ?_
   refine e_storeR1 Hz m207 9 rfl (k) (by rw [List.length_map]; omega) rfl rfl rfl rfl fct13 (m207.rd (i := 201) rfl) fun w208 m208 => ?_
   have hset : (L3.map hD).set k [D.l 2 ((pruneF h9 (max fl fl2)).map itD)] = (L3.set k (pruneF h9 (max fl fl2))).map hD := by rw [List.map_set]; rfl
   rw [hset] at m208
   refine wpAnyE_done (by kernel_rfl) ?_ _
   refine hK15 _ _ ?_
   replace Hz := Hz.oz [2, 3, 4, 5, 10]
   refine wp_region_lit ?_
   refine goCh Hz (.move rfl <| .inc (k + 1) <| .assign rfl .nil) fun Az Hz => ?_
   refine wpList_nil ?_
   show ∃ n', n' < _ ∧ _
   have hstep : L3.set k (pruneF h9 (max fl fl2)) = ((Hk.take (k + 1)).map (fun h => pruneF h (max fl fl2)) ++ Hk.drop (k + 1)) := by rw [hL3]; exact prune_step hes
   exact ⟨H.length - (k + 1), by omega, k + 1, _, _, _, _, _, _, by omega, rfl, hstep, Hz.only [2, 3, 4, 5, 10], m208.ren [(1, 1), (2, 2), (9, 9), (10, 10), (11, 11), (12, 12)] (by decide)⟩
  intro hb189 Hz; try simp only [QQ, Qax] at hb189
  revert Hz
  obtain rfl : k = H.length := by have := hb189; first | omega | (simp at this; omega)
  intro Hz
  refine wcf Hz ?_
  refine wp_exit ?_
  refine hK13 _ _ ?_
  refine zsr fun K16 hK16 => ?_
  refine goCh Hz (.move rfl <| .fa 6 rfl U28 .nil) fun Az Hz => ?_
  refine plz (st1 Hz m184 10 fct11 fun w217 m217 _ => ?_)
  refine znl (hK16 _ _ ?_)
  replace Hz := Hz.oz [2, 3, 4, 5, 10]
  refine zsr fun K17 hK17 => ?_
  refine goCh Hz (.loadBR m217 (i := 10) rfl rfl U28 rfl fct12 (by simp) (by dsimp only [List.drop, List.take] <;> rfl) .nil) fun Az Hz => ?_
  refine plz (stw Hz m217 12 fct12 fun w221 m221 _ => ?_)
  refine znl (hK17 _ _ ?_)
  refine rtd (retC (fn := Tryz.f36) Hz m221 (i := 12) rfl rfl rfl U28 rfl fct12 ?_)
  have hend : L3 = Hk.map (fun h => pruneF h (max fl fl2)) := by rw [hL3, ← hfl, List.take_length, List.drop_length, List.append_nil]
  rw [hend, hHk] at m221
  exact ⟨_, _, rfl, m221.ren [(1, 1), (2, 2), (9, 9)] (by decide)⟩
 refine st1 Hz m167 10 fct10 fun w222 m222 _ => ?_
 refine ⟨fun h => (Bool.false_ne_true (h.symm.trans (by rfl))).elim, ?_⟩
 refine se 8 ?_
 refine e_y Hz rfl (y_loadB1 Hz m222 (i := 11) rfl rfl rfl U2 rfl) fun Az Hz => ?_
 refine goB hP167 [9, 12] 2 3583 8191 Hz (.p (fun _ _ h_ => y_max h_ rfl rfl rfl) <| .fa 5 rfl U28 .nil) fun Az Hz => ?_
 refine se 13 ?_
 refine st1 Hz m222 10 fct10 fun w226 m226 _ => ?_
 refine wpAnyE_done (by kernel_rfl) ?_ _
 refine hK12 _ _ ?_
 refine wsk fun K18 hK18 => ?_
 replace Hz := Hz.oz [2, 3, 4, 5, 6]
 refine regS Hz (.assign rfl .nil) fun Az Hz => ?_
 refine wp_block ?_
 refine wp_loop_ghost (fun g a w => ∃ (k gA gB gR : Nat) (L3 : List (List Ver)) (p9 : Option Addr) (c9 : Nat), k ≤ H.length ∧ g = H.length - k ∧ L3 = ((Hk.take k).map (fun h => pruneF h (max fl fl2)) ++ Hk.drop k) ∧ Has 132 [(2, .pointer (some ⟨gA, 0, none⟩)), (3, .pointer (some ⟨gB, 0, none⟩)), (4, .pointer (some ⟨gR, 0, none⟩)), (5, .slice p9 H.length c9), (10, .int .i64 k)] a ∧ MemOk X w0 [(1, .dat (.slice p H.length c) (.l 1 (H.map hD))), (2, .dat (.slice pw W.length cw) (.l 2 (W.map wrD))), (9, .row (.slice p9 H.length c9) 69 1 (L3.map hD)), (10, .box gA 28 [.int .i64 vo, .int .i64 ch, .int .i64 cn, .int .i64 sz, .int .i64 (max mk to), .int .i64 (max fl fl2), .slice p H.length c]), (11, .box gB 90 [.int .i64 vo, .int .i64 ch, .int .i64 cn, .int .i64 sz, .int .i64 fr, .int .i64 to, .int .i64 fl2, .slice pw W.length cw]), (12, .box gR 28 [.int .i64 0, .int .i64 0, .int .i64 0, .int .i64 0, .int .i64 0, .int .i64 0, .slice none 0 0])] w) (H.length) ?_ ?_
 · exact ⟨0, _, _, _, Hk, _, _, Nat.zero_le _, rfl, by simp, Hz.only [2, 3, 4, 5, 10], m226.ren [(1, 1), (2, 2), (9, 9), (10, 10), (11, 11), (12, 12)] (by decide)⟩
 clear Hz m226
 rintro g Az w229 ⟨k, gA, gB, gR, L3, p9, c9, hkl, hg3, hL3, Hz, m229⟩
 refine wsk fun K19 hK19 => ?_
 refine regS Hz (.move rfl <| .move rfl <| .len rfl U26 <| .lss rfl rfl .nil) fun Az Hz => ?_
 refine bc Hz 116 ?_ ?_
 ·
  intro hb234 Hz; try simp only [QQ, Qax] at hb234
  have hk : k < H.length := by have := hb234; first | omega | (simp at this; omega)
  obtain ⟨h9, hes⟩ : ∃ e, Hk[k]? = some e := ⟨_, List.getElem?_eq_getElem (by omega)⟩
  have hes9 : L3[k]? = some h9 := by rw [hL3]; exact prune_at hes
  have hLl : L3.length = H.length := by rw [hL3, List.length_append, List.length_map, List.length_take, List.length_drop]; omega
  have hh9 := hHB.at (List.mem_of_getElem? hes)
  refine wct Hz ?_
  refine zss (hK19 _ _ ?_)
  refine wsk fun K20 hK20 => ?_
  refine wp_block ?_
  obtain ⟨gr236, cr236, hp236, m236⟩ := m229.openC (i := 9) rfl (Nat.lt_of_le_of_lt (Nat.zero_le (k)) (by first | omega | (rw [List.length_map]; omega)))
  revert Hz
  cases hp236
  intro Hz
  obtain ⟨vs237, hc237, hR237⟩ := m236.eltC (i := 9) rfl (k) (r := [.l 2 (h9.map itD)]) (hD_get hes9)
  revert Hz
  rcases hR237 with _ | ⟨hd237_0, _ | _⟩
  obtain ⟨p238, c238, hv238, hw238⟩ := hd237_0.l_shape; subst hv238
  intro Hz
  have m238 := m236.dat 200 rfl (hd237_0.cast (fun _ h => h)); clear m236 hd237_0
  have m239 := m238.oz [1, 2, 9, 10, 11, 12, 200]
  refine region_p 10 (B := [(1, _), (2, _), (9, _), (10, _), (11, _), (12, _), (200, _)]) (m239.to ⟨il, il, il, il, il, il, il, trivial⟩) m239 (by kernel_rfl) (fun w240 hP240 m240 => ?_); clear m239
  refine goR hP240 [0, 1, 2, 3, 4, 5, 6, 7] [5, 7] 8 0 255 Hz (m240.to ⟨il, il, il, il, il, il, il, trivial⟩) (.move rfl <| .move rfl <| .move rfl <| .move rfl <| .p (fun _ _ h_ => y_idx h_ rfl rfl U26 fct13 (k) rfl (by first | omega | (rw [List.length_map]; omega))) <| .c (fun _ hW _ h_ => y_loadRC1 h_ hW (i := 9) rfl (k) hc237 rfl U69 rfl) <| .fa 5 rfl U28 <| .lb hh 10 U2 rfl rfl rfl .nil) fun Az Hz => ?_
  refine so 8 ?_
  refine ecl Hz Tryz.func68 rfl (zprune_x _ h9 (max fl fl2) _ _ _ _ hh9.2.1 hh9.1 (m240.into [(1, 200)] (by decide) rfl)) ?_
  rintro e w249 ⟨p249, c249, rfl, hm249⟩
  have mx249 := m240.back hm249 [(200, 1), (201, 9)] (by decide); clear hm249 m240
  have m249 := mx249.oz [200, 201, 1, 2, 9, 10, 11, 12]
  refine ⟨_, rfl, ?_⟩; intro Az Hz
  refine ⟨m249.to ⟨il, il, il, il, il, il, il, trivial⟩, ?_⟩
  refine goA hP240 [9] 1 511 1023 Hz (m249.to ⟨il, il, il, il, il, il, il, trivial⟩) (.p (fun _ _ h_ => y_idx h_ rfl rfl U26 fct13 (k) rfl (by omega)) .nil) fun Az Hz => ?_
  have m252 := m249.closeC 9 rfl
  refine se 10 ?_
  refine e_storeR1 Hz m252 9 rfl (k) (by rw [List.length_map]; omega) rfl rfl rfl rfl fct13 (m252.rd (i := 201) rfl) fun w253 m253 => ?_
  have hset : (L3.map hD).set k [D.l 2 ((pruneF h9 (max fl fl2)).map itD)] = (L3.set k (pruneF h9 (max fl fl2))).map hD := by rw [List.map_set]; rfl
  rw [hset] at m253
  refine wpAnyE_done (by kernel_rfl) ?_ _
  refine hK20 _ _ ?_
  replace Hz := Hz.oz [2, 3, 4, 5, 10]
  refine wp_region_lit ?_
  refine goCh Hz (.move rfl <| .inc (k + 1) <| .assign rfl .nil) fun Az Hz => ?_
  refine wpList_nil ?_
  show ∃ n', n' < _ ∧ _
  have hstep : L3.set k (pruneF h9 (max fl fl2)) = ((Hk.take (k + 1)).map (fun h => pruneF h (max fl fl2)) ++ Hk.drop (k + 1)) := by rw [hL3]; exact prune_step hes
  exact ⟨H.length - (k + 1), by omega, k + 1, _, _, _, _, _, _, by omega, rfl, hstep, Hz.only [2, 3, 4, 5, 10], m253.ren [(1, 1), (2, 2), (9, 9), (10, 10), (11, 11), (12, 12)] (by decide)⟩
 intro hb234 Hz; try simp only [QQ, Qax] at hb234
 revert Hz
 obtain rfl : k = H.length := by have := hb234; first | omega | (simp at this; omega)
 intro Hz
 refine wcf Hz ?_
 refine wp_exit ?_
 refine hK18 _ _ ?_
 refine zsr fun K21 hK21 => ?_
 refine goCh Hz (.move rfl <| .fa 6 rfl U28 .nil) fun Az Hz => ?_
 refine plz (st1 Hz m229 10 fct11 fun w262 m262 _ => ?_)
 refine znl (hK21 _ _ ?_)
 replace Hz := Hz.oz [2, 3, 4, 5, 10]
 refine zsr fun K22 hK22 => ?_
 refine goCh Hz (.loadBR m262 (i := 10) rfl rfl U28 rfl fct12 (by simp) (by dsimp only [List.drop, List.take] <;> rfl) .nil) fun Az Hz => ?_
 refine plz (stw Hz m262 12 fct12 fun w266 m266 _ => ?_)
 refine znl (hK22 _ _ ?_)
 refine rtd (retC (fn := Tryz.f36) Hz m266 (i := 12) rfl rfl rfl U28 rfl fct12 ?_)
 have hend : L3 = Hk.map (fun h => pruneF h (max fl fl2)) := by rw [hL3, ← hfl, List.take_length, List.drop_length, List.append_nil]
 rw [hend, hHk] at m266
 exact ⟨_, _, rfl, m266.ren [(1, 1), (2, 2), (9, 9)] (by decide)⟩
end Go.Proofs.YtamjnimaeecmoaaGreat.K
end
section
namespace Go.Proofs.YtamjnimaeecmoaaGreat.K
open Go.ChangeShapes Go.WideShapes Go.ChangeAt Go.RowKit
set_option linter.unusedVariables false
set_option linter.unusedSimpArgs false
theorem fl28znw : flatS Tryz.prog 28 [.int .i64 0, .int .i64 0, .int .i64 0, .int .i64 0, .int .i64 0, .int .i64 0, .slice none 0 0] = true := by kernel_rfl
set_option maxRecDepth 100000
set_option maxHeartbeats 4000000
theorem znew_x (X : Cx) (vo ch sz fr to fl : Int) (n9 : Nat) (pw : Option Addr) (nw cw : Nat) (w0 : World) (hn : n9 ≤ 256) (m0 : MemOk X w0 [] w0) :
   Calls Tryz.prog 35 #[.agg #[.int .i64 vo, .int .i64 ch, .int .i64 n9, .int .i64 sz, .int .i64 fr, .int .i64 to, .int .i64 fl, .slice pw nw cw]] w0 fun e w' => ∃ (p9 : Option Addr) (c9 : Nat), e = .returned (.agg #[.int .i64 vo, .int .i64 ch, .int .i64 n9, .int .i64 sz, .int .i64 0, .int .i64 0, .slice p9 n9 c9]) ∧ MemOk X w0 [(9, .row (.slice p9 n9 c9) 69 1 ((List.replicate n9 ([] : List Ver)).map hD))] w' := by
 refine ent1 Tryz.func35 rfl Tryz.ntmps35 fun Az Hz => ?_
 refine zsr fun K0 hK0 => ?_
 refine plz (e_box Hz m0 20 (cs := [_, _, _, _, _, _, _, _]) rfl rfl rfl fun g1 Az w2 Hz m2 _ _ => ?_)
 refine plz (e_alloc Hz m2 21 fct17 rfl fun g3 Az w4 Hz m4 _ _ => ?_)
 refine znl (hK0 _ _ ?_)
 refine wsk fun K1 hK1 => ?_
 have m5 := m4.oz [20, 21]
 refine region_p 14 (B := [(20, _), (21, _)]) (m5.to ⟨il, il, trivial⟩) m5 (by kernel_rfl) (fun w6 hP6 m6 => ?_); clear m5
 refine goR hP6 [0, 1, 2, 3, 4, 5, 6, 7, 8, 9, 10, 11] [1, 3, 5, 7, 9] 12 0 4095 Hz (m6.to ⟨il, il, trivial⟩) (.fa 0 rfl U90 <| .lb hh 20 U3 rfl rfl rfl <| .fa 1 rfl U90 <| .lb hh 20 U3 rfl rfl rfl <| .fa 2 rfl U90 <| .lb hh 20 U3 rfl rfl rfl <| .fa 3 rfl U90 <| .lb hh 20 U3 rfl rfl rfl <| .fa 2 rfl U90 <| .lb hh 20 U3 rfl rfl rfl <| .p (fun _ _ h_ => y_max h_ rfl rfl (r := (n9 : Int)) (by omega)) <| .p (fun _ _ h_ => y_min h_ rfl rfl (r := (n9 : Int)) (by omega)) .nil) fun Az Hz => ?_
 refine so 12 ?_
 refine e_makeR Hz m6 22 (n9) 2 rfl rfl rfl rfl U26 fct9 (by decide) (by omega) rfl fun p19 c19 Az w20 Hz m20 => ?_
 refine ⟨m20.to ⟨il, il, trivial⟩, ?_⟩
 refine goA hP6 [13] 1 8191 16383 Hz (m20.to ⟨il, il, trivial⟩) (.build rfl fct17 fl28znw rfl (by dsimp only [setL, List.set] <;> rfl) .nil) fun Az Hz => ?_
 refine se 14 ?_
 refine stw Hz m20 21 fct12 fun w22 m22 _ => ?_
 refine wpAnyE_done (by kernel_rfl) ?_ _
 refine hK1 _ _ ?_
 refine rtd (retC (fn := Tryz.f35) Hz m22 (i := 21) rfl rfl rfl U28 rfl fct12 ?_)
 have hE : List.replicate n9 [D.l 2 []] = (List.replicate n9 ([] : List Ver)).map hD := by rw [List.map_replicate]; rfl
 rw [hE] at m22
 exact ⟨_, _, rfl, m22.ren [(9, 22)] (by decide)⟩
theorem hchanged_x (X : Cx) (h : List Ver) (a b : Int) (p : Option Addr) (nn c : Nat) (w0 : World) (hl : h.length ≤ 1000000) (hr : Rise h) (m0 : MemOk X w0 [(1, .dat (.slice p nn c) (.l 2 (h.map itD)))] w0) :
   Calls Tryz.prog 73 #[.slice p nn c, .int .i64 a, .int .i64 b] w0 fun e w' => e = .returned (.bool (chgF h a b)) ∧ MemOk X w0 [(1, .dat (.slice p nn c) (.l 2 (h.map itD)))] w' := by
 refine ent3 Tryz.func73 rfl Tryz.ntmps73 fun Az Hz => ?_
 have hul := upN_le h a
 have hnn : nn = h.length := nnOf (m0.rd (i := 1) rfl)
 revert Hz
 subst hnn
 intro Hz
 refine regS Hz (.assign rfl .nil) fun Az Hz => ?_
 refine zsr fun K0 hK0 => ?_
 refine goCh Hz (.move rfl <| .move rfl .nil) fun Az Hz => ?_
 refine plz (ecl Hz Tryz.func99 rfl (upto_x _ h a _ _ _ hl hr (m0.into [(1, 1)] (by decide) rfl)) ?_)
 rintro e w6 ⟨rfl, hm6⟩
 have mx6 := m0.back hm6 [(1, 1)] (by decide); clear hm6 m0
 have m6 := mx6.oz [1]
 refine ⟨_, rfl, ?_⟩; intro Az Hz
 refine gz hK0 Hz (.assign rfl .nil) fun Az Hz => ?_
 refine zsr fun K1 hK1 => ?_
 refine goCh Hz (.move rfl <| .move rfl <| .len rfl U69 <| .lss rfl rfl <| .move rfl .nil) fun Az Hz => ?_
 refine bc Hz 15 ?_ ?_
 ·
  intro hb19 Hz; try simp only [QQ, Qax] at hb19
  have hlt : upN h a < h.length := by have := hb19; first | omega | (simp at this; omega)
  obtain ⟨⟨xs, xd⟩, hes⟩ : ∃ e, h[upN h a]? = some e := ⟨_, List.getElem?_eq_getElem hlt⟩
  have hx9 : (h.getD (upN h a) v0).1 = xs := by rw [List.getD, hes]; rfl
  refine goCh Hz (.moveZ rfl <| .moveZ rfl .nil) fun Az Hz => ?_
  obtain ⟨b22, o22, vs22, hp22, hR22, ho22, m22⟩ := m6.openR (i := 1) rfl (upN h a) (r := [.v (.int .i64 xs), .ns .u8 xd]) (itD_get hes) 20 rfl
  revert Hz
  cases hp22; clear m6 ho22
  rcases hR22 with _ | ⟨hd22_0, _ | ⟨hd22_1, _ | _⟩⟩
  obtain rfl := hd22_0.v_out
  clear hd22_0
  obtain ⟨p23, c23, hv23, hc23⟩ := hd22_1.ns_shape; subst hv23
  intro Hz
  have m23 := m22.dat 21 rfl (hd22_1.cast (fun _ h => (free_add rfl h))); clear m22 hd22_1
  refine gz hK1 Hz (.g rfl rfl rfl rfl (fun _ h_ => y_idx h_ rfl rfl U69 fct0 (upN h a) rfl hlt) <| .fieldAddrQZ 0 rfl U71 rfl (s := 0) (by kernel_rfl) rfl <| .loadC0Z m23 (i := 20) rfl rfl U2 rfl <| .moveZ rfl <| .leqZ rfl rfl <| .pickT rfl rfl <| .assign rfl <| .nil) fun Az Hz => ?_
  refine rt1 Hz ?_
  have hv : chgF h a b = decide (xs ≤ b) := by unfold chgF; rw [decide_eq_true hlt, hx9, Bool.true_and]
  exact ⟨by rw [hv], m23.only [1]⟩
 intro hb19 Hz; try simp only [QQ, Qax] at hb19
 have hge : ¬ upN h a < h.length := by have := hb19; first | omega | (simp at this; omega)
 refine gz hK1 Hz (.sk <| .sk <| .sk <| .sk <| .sk <| .sk <| .sk <| .pickF rfl rfl <| .assign rfl <| .nil) fun Az Hz => ?_
 refine rt1 Hz ?_
 have hv : chgF h a b = false := by unfold chgF; rw [decide_eq_false hge, Bool.false_and]
 exact ⟨by rw [hv], m6.only [1]⟩
theorem cchanged_x (X : Cx) (vo ch cn sz mk fl : Int) (H : List (List Ver)) (a9 b9 : Int) (p : Option Addr) (c : Nat) (w0 : World) (hl : H.length ≤ 1000000) (hok : ∀ h ∈ H, h.length ≤ 1000000 ∧ Rise h) (m0 : MemOk X w0 [(1, .dat (.slice p H.length c) (.l 1 (H.map hD)))] w0) :
   Calls Tryz.prog 44 #[.agg #[.int .i64 vo, .int .i64 ch, .int .i64 cn, .int .i64 sz, .int .i64 mk, .int .i64 fl, .slice p H.length c], .int .i64 a9, .int .i64 b9] w0 fun e w' => ∃ (p9 : Option Addr) (c9 : Nat), e = .returned (.slice p9 (chgL H a9 b9 H.length).length c9) ∧ MemOk X w0 [(1, .dat (.slice p H.length c) (.l 1 (H.map hD))), (9, .num (.slice p9 (chgL H a9 b9 H.length).length c9) 3 .i64 (chgL H a9 b9 H.length))] w' := by
 refine ent3 Tryz.func44 rfl Tryz.ntmps44 fun Az Hz => ?_
 refine zsr fun K0 hK0 => ?_
 refine plz (e_box Hz m0 20 (cs := [_, _, _, _, _, _, _]) rfl rfl rfl fun g1 Az w2 Hz m2 _ _ => ?_)
 refine gz hK0 Hz (.assign rfl .nil) fun Az Hz => ?_
 refine regS Hz (.assign rfl .nil) fun Az Hz => ?_
 refine wsk fun K1 hK1 => ?_
 refine regS Hz (.fa 6 rfl U28 <| .lb m2 20 U26 rfl rfl rfl <| .len rfl U26 <| .move rfl .nil) fun Az Hz => ?_
 refine wp_block ?_
 refine wp_loop_ghost (fun g a w => ∃ (k : Nat) (p9 : Option Addr) (c9 : Nat), k ≤ H.length ∧ g = H.length - k ∧ Has 28 [(1, .int .i64 a9), (2, .int .i64 b9), (7, .slice p9 (chgL H a9 b9 k).length c9), (11, .slice p H.length c), (12, .int .i64 H.length), (13, .int .i64 k)] a ∧ MemOk X w0 [(1, .dat (.slice p H.length c) (.l 1 (H.map hD))), (9, .num (.slice p9 (chgL H a9 b9 k).length c9) 3 .i64 (chgL H a9 b9 k))] w) (H.length) ?_ ?_
 · have mz := m2.nilN 9 3 .i64
   exact ⟨0, none, 0, Nat.zero_le _, rfl, Hz.only [1, 2, 7, 11, 12, 13], mz.only [1, 9]⟩
 clear Hz m2
 rintro g Az w9 ⟨k, p9, c9, hkl, hg, Hz, m9⟩
 refine regS Hz (.lss rfl rfl .nil) fun Az Hz => ?_
 refine wsk fun K2 hK2 => ?_
 refine bc Hz 14 ?_ ?_
 ·
  intro hb11 Hz; try simp only [QQ, Qax] at hb11
  have hk : k < H.length := by have := hb11; first | omega | (simp at this; omega)
  obtain ⟨h9, hes⟩ : ∃ e, H[k]? = some e := ⟨_, List.getElem?_eq_getElem hk⟩
  have hx9 : H.getD k [] = h9 := by rw [List.getD, hes]; rfl
  have hh9 := hok _ (List.mem_of_getElem? hes)
  refine wct Hz ?_
  refine zss (hK2 _ _ ?_)
  refine wsk fun K3 hK3 => ?_
  refine wp_block ?_
  refine zsr fun K4 hK4 => ?_
  refine goCh Hz (.move rfl .nil) fun Az Hz => ?_
  obtain ⟨b15, o15, vs15, hp15, hR15, ho15, m15⟩ := m9.openR (i := 1) rfl (k) (r := [.l 2 (h9.map itD)]) (hD_get hes) 100 rfl
  revert Hz
  cases hp15; clear m9 ho15
  rcases hR15 with _ | ⟨hd15_0, _ | _⟩
  obtain ⟨p16, c16, hv16, hc16⟩ := hd15_0.l_shape; subst hv16
  intro Hz
  have m16 := m15.dat 101 rfl (hd15_0.cast (fun _ h => (free_add rfl h))); clear m15 hd15_0
  refine gz hK4 Hz (.c rfl (fun _ h_ => y_idx h_ rfl rfl U26 fct13 (k) rfl hk) <| .loadC0 m16 (i := 100) rfl rfl U69 rfl <| .assign rfl <| .assign rfl <| .nil) fun Az Hz => ?_
  refine zsr fun K5 hK5 => ?_
  refine goCh Hz (.move rfl <| .move rfl <| .move rfl .nil) fun Az Hz => ?_
  refine plz (ecl Hz Tryz.func73 rfl (hchanged_x _ h9 a9 b9 _ _ _ _ hh9.1 hh9.2 (m16.into [(1, 101)] (by decide) rfl)) ?_)
  rintro e w27 ⟨rfl, hm27⟩
  have mx27 := m16.back hm27 [(101, 1)] (by decide); clear hm27 m16
  have m27 := mx27.oz [101, 1, 9, 100]
  refine ⟨_, rfl, ?_⟩; intro Az Hz
  refine znl (hK5 _ _ ?_)
  refine bc Hz 21 ?_ ?_
  ·
   intro hb29 Hz; try simp only [QQ, Qax] at hb29
   have hyes : chgF h9 a9 b9 = true := by have h8 := hb29; simpa using h8
   refine wct Hz ?_
   replace Hz := Hz.oz [1, 2, 7, 11, 12, 13, 8, 21]
   refine wp_region_lit ?_
   refine goCh Hz (.move rfl <| .move rfl .nil) fun Az Hz => ?_
   refine plz (e_litN Hz m27 102 (k := .i64) rfl rfl U29 fct36 rfl rfl rfl rfl fun g33 Az w34 Hz m34 => ?_)
   refine plz (e_appN Hz m34 9 rfl rfl rfl (m34.numsO (i := 102) rfl) U29 fct36 (by decide) (by have := chgL_len H a9 b9 k; simp; omega) rfl fun p35 c35 Az w36 Hz m36 => ?_)
   refine gz hK3 Hz (.assign rfl .nil) fun Az Hz => ?_
   refine wp_region_lit ?_
   refine goCh Hz (.inc (k + 1) <| .move rfl .nil) fun Az Hz => ?_
   refine wpList_nil ?_
   show ∃ n', n' < _ ∧ _
   have hE : (chgL H a9 b9 k) ++ [(k : Int)] = (chgL H a9 b9 (k + 1)) := by rw [chgL_yes (by rw [hx9]; exact hyes)]
   rw [hE] at m36 Hz
   exact ⟨H.length - (k + 1), by omega, k + 1, _, _, by omega, rfl, Hz.only [1, 2, 7, 11, 12, 13], m36.ren [(1, 1), (9, 9)] (by decide)⟩
  intro hb29 Hz; try simp only [QQ, Qax] at hb29
  have hno : chgF h9 a9 b9 = false := by have h8 := hb29; simpa using h8
  refine wcf Hz ?_
  refine zss (hK3 _ _ ?_)
  replace Hz := Hz.oz [1, 2, 7, 11, 12, 13, 21]
  refine wp_region_lit ?_
  refine goCh Hz (.inc (k + 1) <| .move rfl .nil) fun Az Hz => ?_
  refine wpList_nil ?_
  show ∃ n', n' < _ ∧ _
  have hE : (chgL H a9 b9 k) = (chgL H a9 b9 (k + 1)) := by rw [chgL_no (by rw [hx9]; exact hno)]
  rw [hE] at m27 Hz
  exact ⟨H.length - (k + 1), by omega, k + 1, _, _, by omega, rfl, Hz.only [1, 2, 7, 11, 12, 13], m27.ren [(1, 1), (9, 9)] (by decide)⟩
 intro hb11 Hz; try simp only [QQ, Qax] at hb11
 revert Hz
 obtain rfl : k = H.length := by have := hb11; first | omega | (simp at this; omega)
 intro Hz
 refine wcf Hz ?_
 refine wp_exit ?_
 refine hK1 _ _ ?_
 refine regS Hz (.move rfl <| .assign rfl .nil) fun Az Hz => ?_
 refine rt1 Hz ?_
 exact ⟨_, _, rfl, m9.ren [(1, 1), (9, 9)] (by decide)⟩
end Go.Proofs.YtamjnimaeecmoaaGreat.K
end
section
namespace Go.Proofs.YtamjnimaeecmoaaGreat.K
open Go.ChangeShapes Go.WideShapes Go.ChangeAt Go.RowKit
set_option linter.unusedVariables false
set_option linter.unusedSimpArgs false
set_option maxRecDepth 100000
set_option maxHeartbeats 4000000
theorem znew_c (X : Cx) (y : VolV) (k fn cnt : Nat) (hC : CkOk y k fn cnt) (hF : VolF y) (mi tq fl : Int) (pw : Option Addr) (nw cw : Nat) (w0 : World) (m0 : MemOk X w0 [] w0) :
   Calls Tryz.prog 35 #[.agg #[.int .i64 y.vo, .int .i64 (k : Int), .int .i64 (cnt : Int), .int .i64 y.sz, .int .i64 mi, .int .i64 tq, .int .i64 fl, .slice pw nw cw]] w0 fun e w' => ∃ (p9 : Option Addr) (c9 : Nat), e = .returned (.agg #[.int .i64 y.vo, .int .i64 (k : Int), .int .i64 (cnt : Int), .int .i64 y.sz, .int .i64 0, .int .i64 0, .slice p9 cnt c9]) ∧ MemOk X w0 [(9, .row (.slice p9 cnt c9) 69 1 ((chN y fn cnt 0).map hD))] w' := by
 have h := znew_x X y.vo (k : Int) y.sz mi tq fl cnt pw nw cw w0 hC.c256 m0
 rw [← chuH_zero y.ws (fn : Int) cnt (min y.fl ((0 : Nat) : Int))] at h
 exact h
theorem zapply_c (X : Cx) (y : VolV) (k fn cnt m : Nat) (hC : CkOk y k fn cnt) (hF : VolF y) (mi fi : Int) (p pw : Option Addr) (c cw : Nat) (w0 : World) (hmi : mi = (m : Int)) (hfi : fi = min y.fl (m : Int)) (hm : m ≤ y.ws.length) (m0 : MemOk X w0 [(1, .dat (.slice p cnt c) (.l 1 ((chN y fn cnt m).map hD))), (2, .dat (.slice pw (pwN y fn cnt m).length cw) (.l 2 ((pwN y fn cnt m).map wrD)))] w0) :
   Calls Tryz.prog 36 #[.agg #[.int .i64 y.vo, .int .i64 (k : Int), .int .i64 (cnt : Int), .int .i64 y.sz, .int .i64 mi, .int .i64 fi, .slice p cnt c], .agg #[.int .i64 y.vo, .int .i64 (k : Int), .int .i64 (cnt : Int), .int .i64 y.sz, .int .i64 mi, .int .i64 (tqN y m : Int), .int .i64 (min y.fl (tqN y m : Int)), .slice pw (pwN y fn cnt m).length cw]] w0 fun e w' => ∃ (p9 : Option Addr) (c9 : Nat), e = .returned (.agg #[.int .i64 y.vo, .int .i64 (k : Int), .int .i64 (cnt : Int), .int .i64 y.sz, .int .i64 (tqN y m : Int), .int .i64 (min y.fl (tqN y m : Int)), .slice p9 cnt c9]) ∧ MemOk X w0 [(1, .dat (.slice p cnt c) (.l 1 ((chN y fn cnt m).map hD))), (2, .dat (.slice pw (pwN y fn cnt m).length cw) (.l 2 ((pwN y fn cnt m).map wrD))), (9, .row (.slice p9 cnt c9) 69 1 ((chN y fn cnt (tqN y m)).map hD))] w' := by
 subst hmi hfi
 have hl := hF.wl
 have h := zapply_x X y.vo (k : Int) (cnt : Int) y.sz (m : Int) (min y.fl (m : Int)) (m : Int) (tqN y m : Int) (min y.fl (tqN y m : Int)) (chN y fn cnt m) (pwN y fn cnt m) p pw cnt c (pwN y fn cnt m).length cw w0 (chu_hb hF.wr hF.sz.2 (by omega)) (by rw [chN_len]) (pw_ok hC hF hm) (Int.le_refl _) m0
 rw [show max (m : Int) (tqN y m : Int) = (tqN y m : Int) by unfold tqN; omega, show max (min y.fl (m : Int)) (min y.fl (tqN y m : Int)) = min y.fl (tqN y m : Int) by unfold tqN; omega, ch_apply hC hF hm] at h
 exact h
theorem zchunk_x (X : Cx) (y : VolV) (k fn cnt : Nat) (hC : CkOk y k fn cnt) (hF : VolF y) (hwo : WrsOk y.ws) (pp pn pw : Option Addr) (cp nn9 cn9 cw : Nat) (mark : Int) (w0 : World) (m0 : MemOk X w0 [(3, .dat (.slice pw (y.ws.map wrD).length cw) (.l 2 (y.ws.map wrD)))] w0) :
   Calls Tryz.prog 12 #[.agg #[.int .i64 y.vo, .int .i64 y.bl, .int .i64 y.sz, .int .i64 y.pe, .slice pp y.place.length cp, .int .i64 y.to, .int .i64 y.ne, .bool y.hi, .int .i64 y.fl, .slice pn nn9 cn9, .slice pw (y.ws.map wrD).length cw], .int .i64 (k : Int), .int .i64 mark] w0 fun e w' => ∃ (m : Nat) (pc : Option Addr) (cc : Nat), m ≤ y.ws.length ∧ (mark ≤ (m : Int) ∨ m = y.ws.length) ∧ e = .returned (.agg #[.int .i64 y.vo, .int .i64 (k : Int), .int .i64 (cnt : Int), .int .i64 y.sz, .int .i64 (m : Int), .int .i64 (min y.fl (m : Int)), .slice pc cnt cc]) ∧ MemOk X w0 [(3, .dat (.slice pw (y.ws.map wrD).length cw) (.l 2 (y.ws.map wrD))), (9, .dat (.slice pc cnt cc) (.l 1 ((chN y fn cnt m).map hD)))] w' := by
 refine ent3 Tryz.func12 rfl Tryz.ntmps12 fun Az Hz => ?_
 have hf0 := hF.fl0
 refine zsr fun K0 hK0 => ?_
 refine plz (e_box Hz m0 60 (cs := [_, _, _, _, _, _, _, _, _, _, _]) rfl rfl rfl fun g1 Az w2 Hz m2 _ _ => ?_)
 refine plz (e_alloc Hz m2 61 fct17 rfl fun g3 Az w4 Hz m4 _ _ => ?_)
 refine znl (hK0 _ _ ?_)
 refine zsr fun K1 hK1 => ?_
 refine goCh Hz (.loadBR m4 (i := 60) rfl rfl U33 rfl fct1 (by simp) (by dsimp only [List.drop, List.take] <;> rfl) <| .move rfl .nil) fun Az Hz => ?_
 refine plz (ecl Hz Tryz.func34 rfl (gpush_x _ y k fn cnt 0 hC hF hwo _ _ _ _ _ _ _ _ _ rfl (Nat.zero_le _) (m4.into [(3, 3)] (by decide) rfl)) ?_)
 rintro e w9 ⟨p9, c9, rfl, hm9⟩
 have mx9 := m4.back hm9 [(3, 3), (62, 9)] (by decide); clear hm9 m4
 have m9 := mx9.oz [3, 62, 60, 61]
 refine ⟨_, rfl, ?_⟩; intro Az Hz
 refine goCh Hz (.move rfl <| .extract rfl rfl <| .extract rfl rfl .nil) fun Az Hz => ?_
 refine plz (e_alloc Hz m9 63 fct28 rfl fun g14 Az w15 Hz m15 _ _ => ?_)
 refine plz (stw Hz m15 63 fct14 fun w16 m16 _ => ?_)
 refine gz hK1 Hz (.assign rfl .nil) fun Az Hz => ?_
 replace Hz := Hz.oz [1, 2, 3, 6, 7, 8]
 refine zsr fun K2 hK2 => ?_
 refine goCh Hz (.loadBR m16 (i := 63) rfl rfl U90 rfl fct14 (by simp) (by dsimp only [List.drop, List.take] <;> rfl) .nil) fun Az Hz => ?_
 refine plz (ecl Hz Tryz.func35 rfl (znew_c _ y k fn cnt hC hF _ _ _ _ _ _ _ (m16.into [] (by decide) rfl)) ?_)
 rintro e w21 ⟨p21, c21, rfl, hm21⟩
 have mx21 := m16.back hm21 [(64, 9)] (by decide); clear hm21 m16
 have m21 := mx21.oz [64, 3, 60, 61, 62, 63]
 refine ⟨_, rfl, ?_⟩; intro Az Hz
 refine plz (e_alloc Hz m21 65 fct17 rfl fun g23 Az w24 Hz m24 _ _ => ?_)
 refine plz (stw Hz m24 65 fct12 fun w25 m25 _ => ?_)
 refine znl (hK2 _ _ ?_)
 refine wsk fun K3 hK3 => ?_
 refine wp_block ?_
 have m26 := m25.freezeR 64 rfl
 refine wp_loop_ghost (fun g a w => ∃ (m B3 B6 B7 B9 : Nat) (pc : Option Addr) (cc : Nat) (a1 a2 a3 a4 a5 a6 a7 : Int) (pq : Option Addr) (nq cq : Nat), m ≤ y.ws.length ∧ g = y.ws.length - m ∧ Has 44 [(1, .int .i64 (k : Int)), (2, .int .i64 mark), (3, .pointer (some ⟨B3, 0, none⟩)), (6, .pointer (some ⟨B6, 0, none⟩)), (7, .pointer (some ⟨B7, 0, none⟩)), (8, .bool true), (9, .pointer (some ⟨B9, 0, none⟩))] a ∧ MemOk X w0 [(3, .dat (.slice pw (y.ws.map wrD).length cw) (.l 2 (y.ws.map wrD))), (20, .box B3 33 [.int .i64 y.vo, .int .i64 y.bl, .int .i64 y.sz, .int .i64 y.pe, .slice pp y.place.length cp, .int .i64 y.to, .int .i64 y.ne, .bool y.hi, .int .i64 y.fl, .slice pn nn9 cn9, .slice pw (y.ws.map wrD).length cw]), (21, .box B6 28 [.int .i64 0, .int .i64 0, .int .i64 0, .int .i64 0, .int .i64 0, .int .i64 0, .slice none 0 0]), (22, .box B7 90 [.int .i64 a1, .int .i64 a2, .int .i64 a3, .int .i64 a4, .int .i64 a5, .int .i64 a6, .int .i64 a7, .slice pq nq cq]), (25, .box B9 28 [.int .i64 y.vo, .int .i64 (k : Int), .int .i64 (cnt : Int), .int .i64 y.sz, .int .i64 (m : Nat), .int .i64 (min y.fl (m : Nat)), .slice pc cnt cc]), (26, .dat (.slice pc cnt cc) (.l 1 ((chN y fn cnt m).map hD)))] w) (y.ws.length) ?_ ?_
 · have hz0 : min y.fl ((0 : Nat) : Int) = 0 := by omega
   exact ⟨0, _, _, _, _, _, _, _, _, _, _, _, _, _, _, _, _, Nat.zero_le _, rfl, Hz.only [1, 2, 3, 6, 7, 8, 9], by rw [hz0]; exact m26.ren [(3, 3), (20, 60), (21, 61), (22, 63), (25, 65), (26, 64)] (by decide)⟩
 clear Hz m26
 rintro g Az w27 ⟨m, B3, B6, B7, B9, pc, cc, a1, a2, a3, a4, a5, a6, a7, pq, nq, cq, hmn, hg, Hz, m27⟩
 refine wsk fun K4 hK4 => ?_
 refine wsk fun K5 hK5 => ?_
 have m28 := m27.oz [3, 20, 21, 22, 25, 26]
 refine region_p 14 (B := [(3, _), (20, _), (21, _), (22, _), (25, _), (26, _)]) (m28.to ⟨il, il, il, il, il, il, trivial⟩) m28 (by kernel_rfl) (fun w29 hP29 m29 => ?_); clear m28
 refine goR hP29 [0, 1, 2, 3, 4, 5, 6, 7] [3] 8 0 255 Hz (m29.to ⟨il, il, il, il, il, il, trivial⟩) (.move rfl <| .move rfl <| .fa 4 rfl U28 <| .lb hh 25 U2 rfl rfl rfl <| .move rfl <| .lss rfl rfl <| .pickT rfl rfl <| .move rfl .nil) fun Az Hz => ?_
 refine bc Hz 25 ?_ ?_
 ·
  intro hb38 Hz; try simp only [QQ, Qax] at hb38
  have hlm : (m : Int) < mark := by have := hb38; first | omega | (simp at this; omega)
  refine goR hP29 [8, 9, 10] [9, 10] 3 255 2047 Hz (m29.to ⟨il, il, il, il, il, il, trivial⟩) (.fa 4 rfl U28 <| .lb hh 25 U2 rfl rfl rfl <| .loadBR hh (i := 20) rfl rfl U33 rfl fct1 (by simp) (by dsimp only [List.drop, List.take] <;> rfl) .nil) fun Az Hz => ?_
  refine stepE_only 11 rfl (by kernel_rfl) (wantedG Hz rfl rfl rfl rfl) (fun K hK => ?_)
  refine e_call Hz Tryz.func13 rfl rfl rfl rfl (rlen_y y _ _ _ _ _ _ _ _ _) ?_
  rintro e w42 ⟨rfl, hb42⟩
  have m43 := m29.later hb42
  refine ⟨_, rfl, ?_⟩; intro Az Hz
  refine hK _ _ (m43.to ⟨il, il, il, il, il, il, trivial⟩) ?_; clear hK K
  refine goA hP29 [12, 13] 2 4095 16383 Hz (m43.to ⟨il, il, il, il, il, il, trivial⟩) (.lss rfl rfl <| .pickT rfl rfl .nil) fun Az Hz => ?_
  refine wpAnyE_done (by kernel_rfl) ?_ _
  refine hK5 _ _ ?_
  refine bc Hz 31 ?_ ?_
  ·
   intro hb47 Hz; try simp only [QQ, Qax] at hb47
   have hln : m < y.ws.length := by have := hb47; first | omega | (simp at this; omega)
   refine wct Hz ?_
   refine zss (hK4 _ _ ?_)
   refine wp_block ?_
   replace Hz := Hz.oz [1, 2, 3, 6, 7, 8, 9, 28]
   refine zsr fun K6 hK6 => ?_
   refine goCh Hz (.loadBR m43 (i := 20) rfl rfl U33 rfl fct1 (by simp) (by dsimp only [List.drop, List.take] <;> rfl) <| .move rfl <| .fa 4 rfl U28 <| .lb m43 25 U2 rfl rfl rfl .nil) fun Az Hz => ?_
   refine plz (ecl Hz Tryz.func34 rfl (gpush_x _ y k fn cnt m hC hF hwo _ _ _ _ _ _ _ _ _ rfl hmn (m43.into [(3, 3)] (by decide) rfl)) ?_)
   rintro e w57 ⟨p57, c57, rfl, hm57⟩
   have mx57 := m43.back hm57 [(3, 3), (100, 9)] (by decide); clear hm57 m43
   have m57 := mx57.oz [3, 100, 20, 21, 22, 25, 26]
   refine ⟨_, rfl, ?_⟩; intro Az Hz
   refine goCh Hz (.move rfl <| .extract rfl rfl <| .extract rfl rfl .nil) fun Az Hz => ?_
   refine plz (stw Hz m57 22 fct14 fun w62 m62 _ => ?_)
   refine gz hK6 Hz (.assign rfl .nil) fun Az Hz => ?_
   replace Hz := Hz.oz [1, 2, 3, 6, 7, 8, 9, 28]
   refine wp_region_lit ?_
   refine goCh Hz (.loadBR m62 (i := 25) rfl rfl U28 rfl fct12 (by simp) (by dsimp only [List.drop, List.take] <;> rfl) <| .loadBR m62 (i := 22) rfl rfl U90 rfl fct14 (by simp) (by dsimp only [List.drop, List.take] <;> rfl) .nil) fun Az Hz => ?_
   refine plz (ecl Hz Tryz.func36 rfl (zapply_c _ y k fn cnt m hC hF _ _ _ _ _ _ _ rfl rfl hmn (m62.into [(1, 26), (2, 100)] (by decide) rfl)) ?_)
   rintro e w67 ⟨p67, c67, rfl, hm67⟩
   have mx67 := m62.back hm67 [(26, 1), (100, 2), (101, 9)] (by decide); clear hm67 m62
   have m67 := mx67.oz [26, 100, 101, 3, 20, 21, 22, 25]
   refine ⟨_, rfl, ?_⟩; intro Az Hz
   refine plz (stw Hz m67 25 fct12 fun w69 m69 _ => ?_)
   refine wpList_nil ?_
   show ∃ n', n' < _ ∧ _
   have m70 := m69.freezeR 101 rfl
   exact ⟨y.ws.length - tqN y m, by unfold tqN; omega, tqN y m, _, _, _, _, _, _, _, _, _, _, _, _, _, _, _, _, by unfold tqN; omega, rfl, Hz.only [1, 2, 3, 6, 7, 8, 9], m70.ren [(3, 3), (20, 20), (21, 21), (22, 22), (25, 25), (26, 101)] (by decide)⟩
  intro hb47 Hz; try simp only [QQ, Qax] at hb47
  have hfin : mark ≤ (m : Int) ∨ m = y.ws.length := .inr (by have := hb47; first | omega | (simp at this; omega))
  refine wcf Hz ?_
  refine wp_exit ?_
  refine hK3 _ _ ?_
  replace Hz := Hz.oz [1, 2, 3, 6, 7, 8, 9, 28]
  refine zsr fun K7 hK7 => ?_
  refine goCh Hz (.loadBR m43 (i := 25) rfl rfl U28 rfl fct12 (by simp) (by dsimp only [List.drop, List.take] <;> rfl) .nil) fun Az Hz => ?_
  refine plz (stw Hz m43 21 fct12 fun w74 m74 _ => ?_)
  refine znl (hK7 _ _ ?_)
  refine rtd (retC (fn := Tryz.f12) Hz m74 (i := 21) rfl rfl rfl U28 rfl fct12 ?_)
  exact ⟨m, _, _, hmn, hfin, rfl, m74.ren [(3, 3), (9, 26)] (by decide)⟩
 intro hb38 Hz; try simp only [QQ, Qax] at hb38
 have hfin : mark ≤ (m : Int) ∨ m = y.ws.length := .inl (by have := hb38; first | omega | (simp at this; omega))
 refine goA hP29 [8, 9, 10, 11, 12, 13] 6 255 16383 Hz (m29.to ⟨il, il, il, il, il, il, trivial⟩) (.s <| .s <| .s <| .s <| .s <| .pickF rfl rfl .nil) fun Az Hz => ?_
 refine wpAnyE_done (by kernel_rfl) ?_ _
 refine hK5 _ _ ?_
 refine wcf Hz ?_
 refine wp_exit ?_
 refine hK3 _ _ ?_
 replace Hz := Hz.oz [1, 2, 3, 6, 7, 8, 9, 28]
 refine zsr fun K8 hK8 => ?_
 refine goCh Hz (.loadBR m29 (i := 25) rfl rfl U28 rfl fct12 (by simp) (by dsimp only [List.drop, List.take] <;> rfl) .nil) fun Az Hz => ?_
 refine plz (stw Hz m29 21 fct12 fun w84 m84 _ => ?_)
 refine znl (hK8 _ _ ?_)
 refine rtd (retC (fn := Tryz.f12) Hz m84 (i := 21) rfl rfl rfl U28 rfl fct12 ?_)
 exact ⟨m, _, _, hmn, hfin, rfl, m84.ren [(3, 3), (9, 26)] (by decide)⟩
end Go.Proofs.YtamjnimaeecmoaaGreat.K
end
section
namespace Go.Proofs.YtamjnimaeecmoaaGreat.K
open Go.ChangeShapes Go.WideShapes Go.ChangeAt Go.RowKit
set_option linter.unusedVariables false
set_option linter.unusedSimpArgs false
theorem place_pos {y : VolV} {n : Nat} (hS : VolS n y) : 0 < y.place.length := by
 obtain ⟨v1, -⟩ := hS.1
 obtain ⟨n1, n2, n3, n4, n5, n6, n7, n8, n9, n10, n11⟩ := v1
 have h : (1 : Int) ≤ (y.bl + y.pe - 1) / y.pe := Int.le_ediv_of_mul_le (by omega) (by omega)
 have := n9.2
 omega
theorem place_top {y : VolV} {n : Nat} (hS : VolS n y) : y.place.length ≤ 1000 := by
 obtain ⟨v1, -⟩ := hS.1
 obtain ⟨n1, n2, n3, n4, n5, n6, n7, n8, n9, n10, n11⟩ := v1
 have h : (y.bl + y.pe - 1) / y.pe ≤ y.bl + y.pe - 1 := Int.ediv_le_self _ (by omega)
 have := n9.2
 omega
end Go.Proofs.YtamjnimaeecmoaaGreat.K
end
section
namespace Go.Proofs.YtamjnimaeecmoaaGreat.K
open Go.ChangeShapes Go.WideShapes Go.ChangeAt Go.RowKit
set_option linter.unusedVariables false
set_option linter.unusedSimpArgs false
def rdF (y : VolV) (fn cnt m i : Nat) (t : Int) : List Int := (atF ((chN y fn cnt m).getD i []) t).getD (List.replicate y.sz.toNat 0)
theorem rng_at {f m x : Int} (hf : f ≤ m) (hx : 0 ≤ x) : ∃ r : Int, r = f + x.tmod (m - f + 1) ∧ f ≤ r ∧ r ≤ m := by
 rw [Int.tmod_eq_emod_of_nonneg hx]
 have h1 := Int.emod_nonneg x (show m - f + 1 ≠ 0 by omega)
 have h2 := Int.emod_lt_of_pos x (show 0 < m - f + 1 by omega)
 exact ⟨_, rfl, by omega, by omega⟩
set_option maxRecDepth 100000
set_option maxHeartbeats 4000000
theorem gchanged_c (X : Cx) (y : VolV) (k fn cnt m : Nat) (hC : CkOk y k fn cnt) (hF : VolF y) (hmn : m ≤ y.ws.length) (fi a9 b9 : Int) (p : Option Addr) (c : Nat) (w0 : World) (m0 : MemOk X w0 [(1, .dat (.slice p cnt c) (.l 1 ((chN y fn cnt m).map hD)))] w0) :
   Calls Tryz.prog 44 #[.agg #[.int .i64 y.vo, .int .i64 (k : Int), .int .i64 (cnt : Int), .int .i64 y.sz, .int .i64 (m : Int), .int .i64 fi, .slice p cnt c], .int .i64 a9, .int .i64 b9] w0 fun e w' => ∃ (p9 : Option Addr) (c9 : Nat), e = .returned (.slice p9 (chgL (chN y fn cnt m) a9 b9 cnt).length c9) ∧ MemOk X w0 [(1, .dat (.slice p cnt c) (.l 1 ((chN y fn cnt m).map hD))), (9, .num (.slice p9 (chgL (chN y fn cnt m) a9 b9 cnt).length c9) 3 .i64 (chgL (chN y fn cnt m) a9 b9 cnt))] w' := by
 have hl := hF.wl
 have hcl := chN_len y fn cnt m
 have hHB : HB 900000 (chN y fn cnt m) := chu_hb hF.wr hF.sz.2 (by omega)
 have hc2 := hC.c256
 have h := cchanged_x X y.vo (k : Int) (cnt : Int) y.sz (m : Int) fi (chN y fn cnt m) a9 b9 p c w0 (by omega) (fun x hx => ⟨(hHB.at hx).2.1, (hHB.at hx).1⟩) (by rw [hcl]; exact m0)
 rw [hcl] at h
 exact h
end Go.Proofs.YtamjnimaeecmoaaGreat.K
end
section
namespace Go.Proofs.YtamjnimaeecmoaaGreat.K
open Go.ChangeShapes Go.WideShapes Go.ChangeAt Go.RowKit
set_option linter.unusedVariables false
set_option linter.unusedSimpArgs false
set_option maxRecDepth 100000
set_option maxHeartbeats 4000000
theorem gread_f (X : Cx) (y : VolV) (k fn cnt m : Nat) (f : Int) (hC : CkOk y k fn cnt) (hF : VolF y) (hm : m ≤ y.ws.length) (hf : 0 ≤ f ∧ f ≤ m) (i t : Nat) (p : Option Addr) (c : Nat) (tv : Int) (w0 : World) (S : List (List Int)) (hS : stL y.bl y.sz y.ws t = S) (htv : tv = (t : Int)) (hi : i < cnt) (hft : f ≤ tv) (ht : tv ≤ m) (m0 : MemOk X w0 [(1, .dat (.slice p cnt c) (.l 1 ((chuH y.ws (fn : Int) cnt m f).map hD)))] w0) :
   Calls Tryz.prog 70 #[.agg #[.int .i64 y.vo, .int .i64 (k : Int), .int .i64 (cnt : Int), .int .i64 y.sz, .int .i64 (m : Int), .int .i64 f, .slice p cnt c], .int .i64 (i : Int), .int .i64 tv] w0 fun e w' => ∃ (p9 : Option Addr) (c9 : Nat), e = .returned (.tuple #[.slice p9 (S.getD (fn + i) []).length c9, .int .i64 0]) ∧ MemOk X w0 [(1, .dat (.slice p cnt c) (.l 1 ((chuH y.ws (fn : Int) cnt m f).map hD))), (9, .dat (.slice p9 (S.getD (fn + i) []).length c9) (.ns .u8 (S.getD (fn + i) [])))] w' := by
 subst htv hS
 have hl := hF.wl; have htop := hC.top
 have hR := chu_read hF.wr (fi := (fn : Int)) (fl := f) (fn := fn) (cnt := cnt) (m := m) (t := t) (i := i) rfl hft (by omega) hi (by omega)
 have hcl : (chuH y.ws (fn : Int) cnt m f).length = cnt := chuH_len _ _ _ _ _
 have hHB : HB 900000 (chuH y.ws (fn : Int) cnt m f) := chu_hb hF.wr hF.sz.2 (by omega)
 rw [← hR]
 have hc2 := hC.c256
 rcases hA : atF ((chuH y.ws (fn : Int) cnt m f).getD i []) t with _ | d
 · have h := cread_none X y.vo (k : Int) (cnt : Int) y.sz (m : Int) f (chuH y.ws (fn : Int) cnt m f) i (t : Int) p c w0 (by omega) hHB.ok (chu_rise hF.wr) (by omega) (by omega) ⟨by have := hF.sz; omega, hF.sz.2⟩ hft ht hA (by rw [hcl]; exact m0)
   rw [hcl] at h
   rw [hA] at h
   exact h
 have h := cread_some X y.vo (k : Int) (cnt : Int) y.sz (m : Int) f (chuH y.ws (fn : Int) cnt m f) i (t : Int) p c w0 (by omega) hHB.ok (chu_rise hF.wr) (by omega) (by omega) ⟨by have := hF.sz; omega, hF.sz.2⟩ hft ht hA (by rw [hcl]; exact m0)
 rw [hcl] at h
 rw [hA] at h
 exact h
end Go.Proofs.YtamjnimaeecmoaaGreat.K
end
section
namespace Go.Proofs.YtamjnimaeecmoaaGreat.K
open Go.ChangeShapes Go.WideShapes Go.ChangeAt Go.RowKit
set_option linter.unusedVariables false
set_option linter.unusedSimpArgs false
def lastB (its : List (Int × List Int)) (k : Nat) : Int := if k = 0 then -1 else (its.getD (k - 1) i0).1
theorem lastB_next {its : List (Int × List Int)} {k : Nat} {xb : Int} {xd : List Int} (h : its[k]? = some (xb, xd)) : lastB its (k + 1) = xb := by
 rw [lastB, if_neg (by omega), Nat.add_sub_cancel, List.getD, h]; rfl
structure StreamOk (bl sz fr to : Int) (its : List (Int × List Int)) : Prop where
 b : 1 ≤ bl ∧ bl ≤ 256
 z : 1 ≤ sz ∧ sz ≤ 32
 f : -1 ≤ fr
 t : 0 ≤ to ∧ to ≤ 1099511627776
 ft : fr ≤ to
 l : fr = -1 → (its.length : Int) = bl
 i : ∀ k e, its[k]? = some e → lastB its k < e.1 ∧ e.1 < bl ∧ (e.2.length : Int) = sz
 len : its.length ≤ 256
def wholeI (S : List (List Int)) (k : Nat) : List (Int × List Int) := (List.range k).map (fun j : Nat => ((j : Int), S.getD j []))
theorem wholeI_len (S : List (List Int)) (k : Nat) : (wholeI S k).length = k := by simp [wholeI]
theorem wholeI_snoc (S : List (List Int)) (k : Nat) : wholeI S (k + 1) = wholeI S k ++ [((k : Int), S.getD k [])] := by simp [wholeI, List.range_succ]
theorem wholeI_get {S : List (List Int)} {k n : Nat} (h : k < n) : (wholeI S n)[k]? = some ((k : Int), S.getD k []) := by simp [wholeI, h]
theorem whole_ok {y : VolV} {n : Nat} {S : List (List Int)} (hS : VolS n y) (hn : n ≤ 1000) (hl : (S.length : Int) = y.bl) (hz : ∀ k, k < S.length → ((S.getD k []).length : Int) = y.sz) : StreamOk y.bl y.sz (-1) y.ws.length (wholeI S S.length) := by
 have hsm := hS.sm
 obtain ⟨v1, v2, v3, v4, v5, v6, v7, v8, v9⟩ := hS.1
 obtain ⟨n1, n2, n3, n4, n5, n6, n7, n8, n9, n10, n11⟩ := v1
 refine ⟨⟨n3, n4⟩, ⟨n5, n6⟩, by omega, ⟨by omega, by omega⟩, by omega, fun _ => by rw [wholeI_len]; exact hl, fun k e he => ?_, by rw [wholeI_len]; omega⟩
 have hk : k < S.length := by
   have := (List.getElem?_eq_some_iff.1 he).1
   rwa [wholeI_len] at this
 rw [wholeI_get hk] at he
 obtain rfl := (Option.some.inj he).symm
 refine ⟨?_, by simp only; omega, hz k hk⟩
 unfold lastB
 split
 · simp only; omega
 rename_i h0
 rw [List.getD, wholeI_get (by omega)]
 simp only [Option.getD_some]; omega
theorem VolR.dsz {vo bl sz pe to ne fl : Int} {hi : Bool} {place pins : List Int} {ws : List PWr} (h : VolR vo bl sz pe to ne fl hi place pins ws) : ∀ e ∈ ws, ∀ x ∈ e.2, (0 ≤ x.1 ∧ x.1 < bl) ∧ (x.2.length : Int) = sz := fun e he x hx => by
 obtain ⟨h1, h2, h3, h4, h5, h6, h7, h8, h9⟩ := h
 obtain ⟨j, hj, rfl⟩ := List.getElem_of_mem he
 have h10 := (h9 j hj).2
 rw [List.getD, List.getElem?_eq_getElem hj] at h10
 obtain ⟨i, hi, rfl⟩ := List.getElem_of_mem hx
 have h11 := h10.2.2 i hi
 simp only [Option.getD_some] at h11
 rw [List.getD, List.getElem?_eq_getElem hi] at h11
 simp only [Option.getD_some] at h11
 exact ⟨⟨h11.1, h11.2.1⟩, h11.2.2.1⟩
theorem stSteps_sz {sz : Int} (l : List PI) (hl : ∀ x ∈ l, (x.2.length : Int) = sz) : ∀ (L : List (List Int)), (∀ d ∈ L, (d.length : Int) = sz) → ∀ d ∈ l.foldl stStep L, (d.length : Int) = sz := by
 induction l with
 | nil => intro L h; exact h
 | cons x l ih =>
   intro L h
   rw [List.foldl_cons]
   refine ih (fun y hy => hl y (List.mem_cons_of_mem _ hy)) _ (fun d hd => ?_)
   unfold stStep at hd
   split at hd
   · rcases List.mem_or_eq_of_mem_set hd with h1 | rfl
     · exact h d h1
     exact hl x List.mem_cons_self
   exact h d hd
theorem stWs_sz {sz : Int} (l : List PWr) (hl : ∀ e ∈ l, ∀ x ∈ e.2, (x.2.length : Int) = sz) : ∀ (L : List (List Int)), (∀ d ∈ L, (d.length : Int) = sz) → ∀ d ∈ l.foldl stW L, (d.length : Int) = sz := by
 induction l with
 | nil => intro L h; exact h
 | cons e l ih => intro L h; rw [List.foldl_cons]; exact ih (fun y hy => hl y (List.mem_cons_of_mem _ hy)) _ (stSteps_sz e.2 (hl e List.mem_cons_self) L h)
theorem stL_sz {vo bl sz pe to ne fl : Int} {hi : Bool} {place pins : List Int} {ws : List PWr} (h : VolR vo bl sz pe to ne fl hi place pins ws) (t k : Nat) (hk : k < (stL bl sz ws t).length) : (((stL bl sz ws t).getD k []).length : Int) = sz := by
 have hd := h.dsz
 obtain ⟨n1, n2, n3, n4, n5, n6, n7⟩ := h.1
 rw [List.getD, List.getElem?_eq_getElem hk]
 exact stWs_sz _ (fun e he x hx => (hd e (List.mem_of_mem_take he) x hx).2) _ (fun d hd9 => by rw [(List.mem_replicate.1 hd9).2, List.length_replicate]; omega) _ (List.getElem_mem hk)
set_option maxRecDepth 100000
set_option maxHeartbeats 4000000
end Go.Proofs.YtamjnimaeecmoaaGreat.K
end
section
namespace Go.Proofs.YtamjnimaeecmoaaGreat.K
open Go.ChangeShapes Go.WideShapes Go.ChangeAt Go.RowKit
set_option linter.unusedVariables false
set_option linter.unusedSimpArgs false
set_option maxRecDepth 100000
set_option maxHeartbeats 4000000
theorem r21right_yes (bl sz fr to : Int) (its : List (Int × List Int)) (pi : Option Addr) (ni ci : Nat) (w0 : World) (h1 : Rd (fun _ => True) w0 (.slice pi ni ci) (.l 2 (its.map itD))) (hs : StreamOk bl sz fr to its) (hfr : fr = -1) :
   Calls Tryz.prog 26 #[.agg #[.int .i64 bl, .int .i64 sz, .int .i64 fr, .int .i64 to, .slice pi ni ci]] w0 fun e w' => e = .returned (.bool true) ∧ Below w0.heap.size w0 w' := by
 obtain rfl : ni = its.length := by obtain ⟨pq, cq, hv, _⟩ := h1.l_shape; injection hv with _ e2 _; rw [List.length_map] at e2; exact e2
 refine ent1 Tryz.func26 rfl Tryz.ntmps26 fun Az Hz => ?_
 have m0 := MemOk.start (fun _ => False) w0
 have hil : its.length ≤ 256 := hs.len
 obtain ⟨hb9, hz9, hf9, ht9, hft9, hl9, hi9, hle9⟩ := hs
 have hlE := hl9 hfr
 refine zsr fun K0 hK0 => ?_
 refine plz (e_box Hz m0 20 (cs := [_, _, _, _, _]) rfl rfl rfl fun g1 Az w2 Hz m2 _ _ => ?_)
 refine gz hK0 Hz (.assign rfl .nil) fun Az Hz => ?_
 refine wsk fun K1 hK1 => ?_
 refine zsr fun K2 hK2 => ?_
 refine goCh Hz (.fa 0 rfl U42 <| .lb m2 20 U3 rfl rfl rfl <| .lss rfl rfl <| .move rfl .nil) fun Az Hz => ?_
 refine bc Hz 8 ?_ ?_
 · intro hb _; exact absurd hb (by first | (simp; done) | (simp; omega))
 clear Hz; intro _ Hz
 refine goCh Hz (.faZ 0 rfl U42 <| .loadB1Z m2 (i := 20) rfl rfl rfl U3 rfl <| .gtrZ rfl rfl <| .pickF rfl rfl <| .move rfl .nil) fun Az Hz => ?_
 refine bc Hz 13 ?_ ?_
 · intro hb _; exact absurd hb (by first | (simp; done) | (simp; omega))
 clear Hz; intro _ Hz
 refine goCh Hz (.faZ 1 rfl U42 <| .loadB1Z m2 (i := 20) rfl rfl rfl U3 rfl <| .lssZ rfl rfl <| .pickF rfl rfl <| .move rfl .nil) fun Az Hz => ?_
 refine bc Hz 18 ?_ ?_
 · intro hb _; exact absurd hb (by first | (simp; done) | (simp; omega))
 clear Hz; intro _ Hz
 refine goCh Hz (.faZ 1 rfl U42 <| .loadB1Z m2 (i := 20) rfl rfl rfl U3 rfl <| .gtrZ rfl rfl <| .pickF rfl rfl <| .move rfl .nil) fun Az Hz => ?_
 refine bc Hz 23 ?_ ?_
 · intro hb _; exact absurd hb (by first | (simp; done) | (simp; omega))
 clear Hz; intro _ Hz
 refine goCh Hz (.faZ 2 rfl U42 <| .loadB1Z m2 (i := 20) rfl rfl rfl U2 rfl <| .lssZ rfl rfl <| .pickF rfl rfl <| .move rfl .nil) fun Az Hz => ?_
 refine bc Hz 28 ?_ ?_
 · intro hb _; exact absurd hb (by first | (simp; done) | (simp; omega))
 clear Hz; intro _ Hz
 refine goCh Hz (.faZ 3 rfl U42 <| .loadB1Z m2 (i := 20) rfl rfl rfl U2 rfl <| .lssZ rfl rfl <| .pickF rfl rfl <| .move rfl .nil) fun Az Hz => ?_
 refine bc Hz 33 ?_ ?_
 · intro hb _; exact absurd hb (by first | (simp; done) | (simp; omega))
 clear Hz; intro _ Hz
 refine goCh Hz (.faZ 3 rfl U42 <| .loadB1Z m2 (i := 20) rfl rfl rfl U2 rfl <| .gtrZ rfl rfl <| .pickF rfl rfl <| .move rfl .nil) fun Az Hz => ?_
 refine bc Hz 38 ?_ ?_
 · intro hb _; exact absurd hb (by first | (simp; done) | (simp; omega))
 clear Hz; intro _ Hz
 refine goCh Hz (.faZ 3 rfl U42 <| .loadB1Z m2 (i := 20) rfl rfl rfl U2 rfl <| .faZ 2 rfl U42 <| .loadB1Z m2 (i := 20) rfl rfl rfl U2 rfl <| .lssZ rfl rfl <| .pickF rfl rfl <| .move rfl .nil) fun Az Hz => ?_
 refine bc Hz 45 ?_ ?_
 · intro hb _; exact absurd hb (by first | (simp; done) | (simp; omega))
 clear Hz; intro _ Hz
 refine goCh Hz (.faZ 2 rfl U42 <| .loadB1Z m2 (i := 20) rfl rfl rfl U2 rfl <| .lssZ rfl rfl <| .moveZ rfl .nil) fun Az Hz => ?_
 refine bc Hz 49 ?_ ?_
 rotate_left
 · intro hb _; exact absurd hb (by simp; omega)
 clear Hz; intro _ Hz
 refine gz hK2 Hz (.faZ 4 rfl U42 <| .loadB1Z m2 (i := 20) rfl rfl rfl U40 rfl <| .lenZ rfl U40 <| .faZ 0 rfl U42 <| .loadB1Z m2 (i := 20) rfl rfl rfl U3 rfl <| .neqZ rfl rfl <| .pickTZ rfl rfl <| .pickF rfl rfl <| .nil) fun Az Hz => ?_
 refine bc Hz 57 ?_ ?_
 · intro hb _; exact absurd hb (by first | (simp; done) | (simp; omega))
 clear Hz; intro _ Hz
 refine wcf Hz ?_
 refine zss (hK1 _ _ ?_)
 replace Hz := Hz.oz [1, 2]
 refine regS Hz (.assign rfl .nil) fun Az Hz => ?_
 refine wsk fun K3 hK3 => ?_
 refine regS Hz (.assign rfl .nil) fun Az Hz => ?_
 refine wp_block ?_
 refine wp_loop_ghost (fun g a w => ∃ (k B : Nat), k ≤ its.length ∧ g = its.length - k ∧ Has 102 [(1, .pointer (some ⟨B, 0, none⟩)), (3, .int .i64 (lastB its k)), (4, .int .i64 k)] a ∧ MemOk (cn w0) w0 [(9, .box B 42 [.int .i64 bl, .int .i64 sz, .int .i64 fr, .int .i64 to, .slice pi its.length ci])] w) (its.length) ?_ ?_
 · exact ⟨0, _, Nat.zero_le _, rfl, Hz.only [1, 3, 4], m2.ren [(9, 20)] (by decide)⟩
 clear Hz m2
 rintro g Az w74 ⟨k, B, hkl, hg, Hz, m74⟩
 refine wsk fun K4 hK4 => ?_
 refine regS Hz (.move rfl <| .fa 4 rfl U42 <| .lb m74 9 U40 rfl rfl rfl <| .len rfl U40 <| .lss rfl rfl .nil) fun Az Hz => ?_
 refine bc Hz 62 ?_ ?_
 ·
  intro hb80 Hz; try simp only [QQ, Qax] at hb80
  have hk : k < its.length := by have := hb80; first | omega | (simp at this; omega)
  obtain ⟨⟨xb, xd⟩, hes⟩ : ∃ e, its[k]? = some e := ⟨_, List.getElem?_eq_getElem hk⟩
  obtain ⟨hx1, hx2, hx3⟩ := hi9 k _ hes
  dsimp only at hx1 hx2 hx3
  refine wct Hz ?_
  refine zss (hK4 _ _ ?_)
  refine wsk fun K5 hK5 => ?_
  refine wp_block ?_
  refine wsk fun K6 hK6 => ?_
  refine wsk fun K7 hK7 => ?_
  obtain ⟨gx82, ox82, vx82, hp82, hl82, hR82, hrg82⟩ := h1.extA (k) (r := [.v (.int .i64 xb), .ns .u8 xd]) (itD_get hes)
  revert Hz
  cases hp82
  rcases hR82 with _ | ⟨hd82_0, _ | ⟨hd82_1, _ | _⟩⟩
  obtain rfl := hd82_0.v_out
  clear hd82_0
  obtain ⟨p83, c83, hv83, hw83⟩ := hd82_1.ns_shape; subst hv83
  intro Hz
  obtain ⟨gx85, ox85, vx85, hp85, hl85, hR85, hrg85⟩ := h1.extA (k) (r := [.v (.int .i64 xb), .ns .u8 xd]) (itD_get hes)
  revert Hz
  cases hp85
  rcases hR85 with _ | ⟨hd85_0, _ | ⟨hd85_1, _ | _⟩⟩
  obtain rfl := hd85_0.v_out
  clear hd85_0
  obtain ⟨p86, c86, hv86, hw86⟩ := hd85_1.ns_shape; subst hv86
  intro Hz
  obtain ⟨gx88, ox88, vx88, hp88, hl88, hR88, hrg88⟩ := h1.extA (k) (r := [.v (.int .i64 xb), .ns .u8 xd]) (itD_get hes)
  revert Hz
  cases hp88
  rcases hR88 with _ | ⟨hd88_0, _ | ⟨hd88_1, _ | _⟩⟩
  obtain rfl := hd88_0.v_out
  clear hd88_0
  obtain ⟨p89, c89, hv89, hw89⟩ := hd88_1.ns_shape; subst hv89
  intro Hz
  have m90 := m74.oz [9]
  refine region_p 31 (B := [(9, _)]) (m90.to ⟨il, trivial⟩) m90 (by kernel_rfl) (fun w91 hP91 m91 => ?_); clear m90
  refine goR hP91 [0, 1, 2, 3, 4, 5, 6, 7, 8] [1, 5] 9 0 511 Hz (m91.to ⟨il, trivial⟩) (.fa 4 rfl U42 <| .lb hh 9 U40 rfl rfl rfl <| .move rfl <| .p (fun _ _ h_ => y_idx h_ rfl rfl U40 fct16 (k) rfl hk) <| .fieldAddrQ 0 rfl U111 rfl (s := 0) (by kernel_rfl) rfl <| .loadAt1 (fun _ h_ => (hrg82 h_ rfl)) (q := 0) rfl rfl rfl U3 rfl <| .move rfl <| .leq rfl rfl <| .move rfl .nil) fun Az Hz => ?_
  refine bc Hz 73 ?_ ?_
  · intro hb _; exact absurd hb (by first | (simp; done) | (simp; omega))
  clear Hz; intro _ Hz
  refine goR hP91 [9, 10, 11, 12, 13, 14, 15, 16, 17, 18, 19] [10, 14, 16] 11 511 1048575 Hz (m91.to ⟨il, trivial⟩) (.fa 4 rfl U42 <| .lb hh 9 U40 rfl rfl rfl <| .move rfl <| .p (fun _ _ h_ => y_idx h_ rfl rfl U40 fct16 (k) rfl hk) <| .fieldAddrQ 0 rfl U111 rfl (s := 0) (by kernel_rfl) rfl <| .loadAt1 (fun _ h_ => (hrg85 h_ rfl)) (q := 0) rfl rfl rfl U3 rfl <| .fa 0 rfl U42 <| .lb hh 9 U3 rfl rfl rfl <| .geq rfl rfl <| .pickF rfl rfl <| .move rfl .nil) fun Az Hz => ?_
  refine bc Hz 84 ?_ ?_
  · intro hb _; exact absurd hb (by first | (simp; done) | (simp; omega))
  clear Hz; intro _ Hz
  refine goR hP91 [20, 21, 22, 23, 24, 25, 26, 27, 28, 29, 30] [21, 25, 28] 11 1048575 2147483647 Hz (m91.to ⟨il, trivial⟩) (.fa 4 rfl U42 <| .lb hh 9 U40 rfl rfl rfl <| .move rfl <| .p (fun _ _ h_ => y_idx h_ rfl rfl U40 fct16 (k) rfl hk) <| .fieldAddrQ 1 rfl U111 rfl (s := 0) (by kernel_rfl) rfl <| .loadAt1 (fun _ h_ => (hrg88 h_ rfl)) (q := 1) rfl rfl rfl U22 rfl <| .len rfl U22 <| .fa 1 rfl U42 <| .lb hh 9 U3 rfl rfl rfl <| .neq rfl rfl <| .pickF rfl rfl .nil) fun Az Hz => ?_
  refine wpAnyE_done (by kernel_rfl) ?_ _
  refine hK7 _ _ ?_
  refine bc Hz 95 ?_ ?_
  · intro hb _; exact absurd hb (by first | (simp; done) | (simp; omega))
  clear Hz; intro _ Hz
  refine wcf Hz ?_
  refine zss (hK6 _ _ ?_)
  replace Hz := Hz.oz [1, 3, 4]
  refine wp_region_lit ?_
  refine goCh Hz (.fa 4 rfl U42 <| .lb m91 9 U40 rfl rfl rfl <| .move rfl .nil) fun Az Hz => ?_
  obtain ⟨gx130, ox130, vx130, hp130, hl130, hR130, hrg130⟩ := h1.extA (k) (r := [.v (.int .i64 xb), .ns .u8 xd]) (itD_get hes)
  revert Hz
  cases hp130
  rcases hR130 with _ | ⟨hd130_0, _ | ⟨hd130_1, _ | _⟩⟩
  obtain rfl := hd130_0.v_out
  clear hd130_0
  obtain ⟨p131, c131, hv131, hw131⟩ := hd130_1.ns_shape; subst hv131
  intro Hz
  refine gz hK5 Hz (.c rfl (fun _ h_ => y_idx h_ rfl rfl U40 fct16 (k) rfl hk) <| .fieldAddrQ 0 rfl U111 rfl (s := 0) (by kernel_rfl) rfl <| .loadAt1 (hrg130 m91 rfl) (q := 0) rfl rfl rfl U3 rfl <| .assign rfl <| .nil) fun Az Hz => ?_
  replace Hz := Hz.oz [1, 3, 4]
  refine wp_region_lit ?_
  refine goCh Hz (.move rfl <| .inc (k + 1) <| .assign rfl .nil) fun Az Hz => ?_
  refine wpList_nil ?_
  show ∃ n', n' < _ ∧ _
  have hlb : xb = lastB its (k + 1) := (lastB_next hes).symm
  rw [hlb] at Hz
  exact ⟨its.length - (k + 1), by omega, k + 1, _, by omega, rfl, Hz.only [1, 3, 4], m91.ren [(9, 9)] (by decide)⟩
 intro hb80 Hz; try simp only [QQ, Qax] at hb80
 refine wcf Hz ?_
 refine wp_exit ?_
 refine hK3 _ _ ?_
 refine regS Hz (.assign rfl .nil) fun Az Hz => ?_
 refine rt1 Hz ?_
 exact ⟨by first | rfl | (simp; done) | (simp; omega), m74.below⟩
theorem rblocks_any (X : Cx) (bl sz fr to : Int) (S : List (List Int)) (pi : Option Addr) (ci : Nat) (w0 : World) (hs : StreamOk bl sz fr to (wholeI S S.length)) (hfr : fr = -1) (m0 : MemOk X w0 [(3, .dat (.slice pi ((wholeI S S.length).map itD).length ci) (.l 2 ((wholeI S S.length).map itD)))] w0) :
   Calls Tryz.prog 25 #[.agg #[.int .i64 bl, .int .i64 sz, .int .i64 fr, .int .i64 to, .slice pi ((wholeI S S.length).map itD).length ci]] w0 fun e w' => ∃ (p : Option Addr) (c : Nat), e = .returned (.slice p (S.map bD).length c) ∧ MemOk X w0 [(3, .dat (.slice pi ((wholeI S S.length).map itD).length ci) (.l 2 ((wholeI S S.length).map itD))), (9, .dat (.slice p (S.map bD).length c) (.l 1 (S.map bD)))] w' := by
 refine ent1 Tryz.func25 rfl Tryz.ntmps25 fun Az Hz => ?_
 have hSl := hs.len
 rw [wholeI_len] at hSl
 refine zsr fun K0 hK0 => ?_
 refine plz (e_box Hz m0 70 (cs := [_, _, _, _, _]) rfl rfl rfl fun g1 Az w2 Hz m2 _ _ => ?_)
 refine gz hK0 Hz (.assign rfl .nil) fun Az Hz => ?_
 refine wsk fun K1 hK1 => ?_
 refine zsr fun K2 hK2 => ?_
 refine goCh Hz (.loadBR m2 (i := 70) rfl rfl U42 rfl fct37 (by simp) (by dsimp only [List.drop, List.take] <;> rfl) .nil) fun Az Hz => ?_
 refine plz (ecb Hz Tryz.func26 rfl m2 (r21right_yes bl sz fr to (wholeI S S.length) _ _ _ _ ((m2.rd (i := 3) rfl).any) hs hfr) fun Az w6 Hz m7 => ?_)
 refine gz hK2 Hz (.not rfl <| .move rfl <| .faZ 2 rfl U42 <| .loadB1Z m7 (i := 70) rfl rfl rfl U2 rfl <| .geqZ rfl rfl <| .pickF rfl rfl <| .nil) fun Az Hz => ?_
 refine bc Hz 12 ?_ ?_
 · intro hb _; exact absurd hb (by simp; omega)
 clear Hz; intro _ Hz
 refine wcf Hz ?_
 refine zss (hK1 _ _ ?_)
 replace Hz := Hz.oz [1, 2]
 refine regS Hz (.assign rfl .nil) fun Az Hz => ?_
 refine wsk fun K3 hK3 => ?_
 refine regS Hz (.assign rfl .nil) fun Az Hz => ?_
 refine wp_block ?_
 refine wp_loop_ghost (fun g a w => ∃ (k B : Nat) (p : Option Addr) (c : Nat), k ≤ S.length ∧ g = S.length - k ∧ Has 30 [(1, .pointer (some ⟨B, 0, none⟩)), (3, .slice p ((S.take k).map bD).length c), (4, .int .i64 k)] a ∧ MemOk X w0 [(1, .box B 42 [.int .i64 bl, .int .i64 sz, .int .i64 fr, .int .i64 to, .slice pi ((wholeI S S.length).map itD).length ci]), (3, .dat (.slice pi ((wholeI S S.length).map itD).length ci) (.l 2 ((wholeI S S.length).map itD))), (9, .row (.slice p ((S.take k).map bD).length c) 22 1 ((S.take k).map bD))] w) (S.length) ?_ ?_
 · have mz := m7.nilR 9 22 1
   exact ⟨0, _, _, _, Nat.zero_le _, rfl, Hz.only [1, 3, 4], mz.ren [(1, 70), (3, 3), (9, 9)] (by decide)⟩
 clear Hz m7
 rintro g Az w19 ⟨k, B, p, c, hkl, hg, Hz, m19⟩
 refine wsk fun K4 hK4 => ?_
 refine regS Hz (.move rfl <| .fa 4 rfl U42 <| .lb m19 1 U40 rfl rfl rfl <| .len rfl U40 <| .lss rfl rfl .nil) fun Az Hz => ?_
 refine bc Hz 17 ?_ ?_
 ·
  intro hb25 Hz; try simp only [QQ, Qax] at hb25
  have hk : k < S.length := by have := hb25; rw [List.length_map, wholeI_len] at this; omega
  refine wct Hz ?_
  refine zss (hK4 _ _ ?_)
  refine wsk fun K5 hK5 => ?_
  refine wp_block ?_
  refine wp_region_lit ?_
  refine goCh Hz (.move rfl <| .fa 4 rfl U42 <| .lb m19 1 U40 rfl rfl rfl <| .move rfl .nil) fun Az Hz => ?_
  obtain ⟨b30, o30, vs30, hp30, hR30, ho30, m30⟩ := m19.openR (i := 3) rfl (k) (r := [.v (.int .i64 k), .ns .u8 (S.getD k [])]) (itD_get (wholeI_get hk)) 100 rfl
  revert Hz
  cases hp30; clear m19 ho30
  rcases hR30 with _ | ⟨hd30_0, _ | ⟨hd30_1, _ | _⟩⟩
  obtain rfl := hd30_0.v_out
  clear hd30_0
  obtain ⟨p31, c31, hv31, hc31⟩ := hd30_1.ns_shape; subst hv31
  intro Hz
  have m31 := m30.dat 101 rfl (hd30_1.cast (fun _ h => (free_add rfl h))); clear m30 hd30_1
  refine goCh Hz (.c rfl (fun _ h_ => y_idx h_ rfl rfl U40 fct16 (k) rfl (by rw [List.length_map, wholeI_len]; exact hk)) <| .fieldAddrQ 1 rfl U111 rfl (s := 0) (by kernel_rfl) rfl <| .loadC1 m31 (i := 100) (q := 1) rfl rfl rfl U22 rfl .nil) fun Az Hz => ?_
  refine plz (e_litR Hz m31 102 (mm := 1) rfl (.cons rfl rfl (.cons (m31.rd (i := 101) rfl) .nil) .nil) U57 fct29 rfl rfl rfl rfl rfl fun g35 Az w36 Hz m36 => ?_)
  have m38 := m36.freezeR 102 rfl
  refine plz (e_appR Hz m38 9 rfl rfl rfl (m38.rd (i := 102) rfl) U57 fct29 rfl rfl (by decide) (by simp; omega) rfl fun p37 c37 Az w39 Hz m39 => ?_)
  refine gz hK5 Hz (.assign rfl .nil) fun Az Hz => ?_
  replace Hz := Hz.oz [1, 3, 4]
  refine wp_region_lit ?_
  refine goCh Hz (.move rfl <| .inc (k + 1) <| .assign rfl .nil) fun Az Hz => ?_
  refine wpList_nil ?_
  show ∃ n', n' < _ ∧ _
  have hE : (S.take k).map bD ++ [[D.ns .u8 (S.getD k [])]] = (S.take (k + 1)).map bD := by rw [List.take_succ_eq_append_getElem hk, List.map_append, List.getD, List.getElem?_eq_getElem hk]; rfl
  rw [hE] at m39 Hz
  exact ⟨S.length - (k + 1), by omega, k + 1, _, _, _, by omega, rfl, Hz.only [1, 3, 4], m39.ren [(1, 1), (3, 3), (9, 9)] (by decide)⟩
 intro hb25 Hz; try simp only [QQ, Qax] at hb25
 have hke : k = S.length := by have := hb25; rw [List.length_map, wholeI_len] at this; omega
 refine wcf Hz ?_
 refine wp_exit ?_
 refine hK3 _ _ ?_
 refine regS Hz (.move rfl <| .assign rfl .nil) fun Az Hz => ?_
 refine rt1 Hz ?_
 have m47 := m19.freezeR 9 rfl
 rw [hke, List.take_length] at m47
 rw [hke, List.take_length]
 exact ⟨_, _, rfl, m47.ren [(3, 3), (9, 9)] (by decide)⟩
end Go.Proofs.YtamjnimaeecmoaaGreat.K
end
section
namespace Go.Proofs.YtamjnimaeecmoaaGreat.K
open Go.ChangeShapes Go.WideShapes Go.ChangeAt Go.RowKit
set_option linter.unusedVariables false
def encF : Nat → Nat → List Int
 | 0, n => [(n : Int)]
 | f + 1, n => if n < 128 then [(n : Int)] else ((n % 128 + 128 : Nat) : Int) :: encF f (n / 128)
def enc (n : Int) : List Int := encF 9 n.toNat
def encs (l : List Int) : List Int := l.flatMap enc
theorem or128 (y : Nat) : bits .or .u8 ((y : Int) % 256) 128 = ((y % 128 + 128 : Nat) : Int) := by
 have h : ∀ z : Fin 256, bits .or .u8 ((z.val : Nat) : Int) 128 = ((z.val % 128 + 128 : Nat) : Int) := by decide +kernel
 have := h ⟨y % 256, by omega⟩
 simp only at this
 rw [show ((y : Int) % 256) = ((y % 256 : Nat) : Int) by omega, this]
 omega
theorem encF_len : ∀ (f n : Nat), (encF f n).length ≤ f + 1 ∧ 1 ≤ (encF f n).length
 | 0, n => by simp [encF]
 | f + 1, n => by
   unfold encF
   have := encF_len f (n / 128)
   split <;> simp <;> omega
theorem enc_len (n : Int) : (enc n).length ≤ 10 ∧ 1 ≤ (enc n).length := encF_len 9 _
theorem encs_len : ∀ l : List Int, (encs l).length ≤ 10 * l.length
 | [] => by simp [encs]
 | a :: l => by
   have h1 := (enc_len a).1
   have h2 := encs_len l
   simp only [encs, List.flatMap_cons, List.length_append, List.length_cons] at h2 ⊢
   omega
theorem encs_snoc (l : List Int) (k : Nat) (h : k < l.length) : encs (l.take (k + 1)) = encs (l.take k) ++ enc (l.getD k 0) := by
 rw [List.take_succ_eq_append_getElem h]
 simp only [encs, List.flatMap_append, List.flatMap_cons, List.flatMap_nil, List.append_nil, List.getD, List.getElem?_eq_getElem h, Option.getD_some]
end Go.Proofs.YtamjnimaeecmoaaGreat.K
end
section
namespace Go.Proofs.YtamjnimaeecmoaaGreat.K
open Go.ChangeShapes Go.WideShapes Go.ChangeAt Go.RowKit
set_option linter.unusedVariables false
def IsLists (w : World) (v : Value) (ls : List (List Int)) : Prop :=
 ∃ a c, v = .slice a ls.length c ∧ (ls.length = 0 ∨ ∃ b off, a = some ⟨b, off, none⟩ ∧ b < w.heap.size ∧ ∀ j, j < ls.length → ∃ u, w.cell? ⟨b, off + j, none⟩ = some u ∧ IsNums .u8 w u (ls.getD j []))
def sumLen (ls : List (List Int)) : Nat := ls.flatten.length
end Go.Proofs.YtamjnimaeecmoaaGreat.K
end
section
namespace Go.Proofs.YtamjnimaeecmoaaGreat.K
open Go.ChangeShapes Go.WideShapes Go.ChangeAt Go.RowKit
set_option linter.unusedVariables false
def NumsLt (N : Nat) (k : IntKind) (w : World) (v : Value) (zs : List Int) : Prop :=
 ∃ a c, v = .slice a zs.length c ∧ zs.length ≤ c ∧ c ≤ 9223372036854775807 ∧ (zs.length = 0 ∨ ∃ b off, a = some ⟨b, off, none⟩ ∧ b < N ∧ ∀ j, j < zs.length → w.cell? ⟨b, off + j, none⟩ = some (.int k (zs.getD j 0)))
theorem NumsLt.below {N : Nat} {k : IntKind} {w w' : World} {v : Value} {zs : List Int} (h : NumsLt N k w v zs) (hb : Below N w w') : NumsLt N k w' v zs := by
 obtain ⟨a, c, rfl, hc1, hc2, h | ⟨b, off, rfl, h1, h2⟩⟩ := h
 · exact ⟨a, c, rfl, hc1, hc2, .inl h⟩
 refine ⟨_, c, rfl, hc1, hc2, .inr ⟨b, off, rfl, h1, fun j hj => ?_⟩⟩
 rw [hb.cell (by show b < N; omega)]
 exact h2 j hj
theorem NumsLt.nums {N : Nat} {k : IntKind} {w : World} {v : Value} {zs : List Int} (h : NumsLt N k w v zs) (hN : N ≤ w.heap.size) : IsNums k w v zs := by
 obtain ⟨a, c, rfl, hc1, hc2, h | ⟨b, off, rfl, h1, h2⟩⟩ := h
 · exact ⟨a, c, rfl, .inl h⟩
 exact ⟨_, c, rfl, .inr ⟨b, off, rfl, by omega, h2⟩⟩
inductive Dec where
 | ok (n : Nat) (k : Nat)
 | err (e : Int)
def dec : Nat → Nat → List Int → Dec
 | _, _, [] => .err 21
 | acc, i, b :: r => if (i = 9 ∧ 1 < b) ∨ (0 < i ∧ b = 0) then .err 20 else
     if b < 128 then .ok (acc + (b % 128).toNat * 2 ^ (7 * i)) (i + 1) else dec (acc + (b % 128).toNat * 2 ^ (7 * i)) (i + 1) r
theorem or_shift (acc k : Nat) (x : Int) (hacc : acc < 2 ^ (7 * k)) (hk : k ≤ 9) (x0 : 0 ≤ x) (hx : x ≤ 255) (h9 : k = 9 → x ≤ 1) :
   bits .or .u64 (acc : Int) (IntKind.u64.wrap (x % 128 * 2 ^ (7 * k))) = ((acc + (x % 128).toNat * 2 ^ (7 * k) : Nat) : Int) := by
 obtain ⟨y, hy⟩ : ∃ y : Nat, x % 128 = y := ⟨(x % 128).toNat, by omega⟩
 have hy1 : y < 128 := by omega
 have hy9 : k = 9 → y ≤ 1 := fun h => by have := h9 h; omega
 rw [hy]
 have hb : y * 2 ^ (7 * k) < 2 ^ 64 := by
   by_cases e : k = 9
   · subst e
     have := hy9 rfl
     have : y * 2 ^ (7 * 9) ≤ 1 * 2 ^ (7 * 9) := Nat.mul_le_mul_right _ this
     exact Nat.lt_of_le_of_lt this (by decide)
   have h1 : 2 ^ (7 * k) ≤ 2 ^ 56 := Nat.pow_le_pow_right (by decide) (by omega)
   have h2 : y * 2 ^ (7 * k) ≤ 127 * 2 ^ 56 := Nat.mul_le_mul (by omega) h1
   exact Nat.lt_of_le_of_lt h2 (by decide)
 have ha : acc < 2 ^ 64 := Nat.lt_of_lt_of_le hacc (Nat.pow_le_pow_right (by decide) (by omega))
 have hcast : ((y : Int) * 2 ^ (7 * k)) = ((y * 2 ^ (7 * k) : Nat) : Int) := by simp
 have hw : ∀ n : Int, 0 ≤ n → n < 2 ^ 64 → IntKind.u64.wrap n = n := fun n h0 h1 => by rw [IntKind.wrap_u64]; omega
 rw [hcast, hw _ (by omega) (by have : ((y * 2 ^ (7 * k) : Nat) : Int) < ((2 ^ 64 : Nat) : Int) := Int.ofNat_lt.2 hb; simpa using this)]
 have h := (bits_nat .u64 64 (by decide) hw acc (y * 2 ^ (7 * k)) ha hb).2
 rw [h]
 have h2 : 2 ^ (7 * k) * y + acc = 2 ^ (7 * k) * y ||| acc := Nat.two_pow_add_eq_or_of_lt hacc y
 rw [Nat.or_comm, Nat.mul_comm y, ← h2, Int.toNat_natCast, Nat.mul_comm, Nat.add_comm]
theorem acc_bound (acc k : Nat) (x : Int) (hacc : acc < 2 ^ (7 * k)) : acc + (x % 128).toNat * 2 ^ (7 * k) < 2 ^ (7 * (k + 1)) := by
 have h1 : (x % 128).toNat ≤ 127 := by omega
 have h2 : (x % 128).toNat * 2 ^ (7 * k) ≤ 127 * 2 ^ (7 * k) := Nat.mul_le_mul_right _ h1
 rw [show 7 * (k + 1) = 7 * k + 7 by omega, Nat.pow_add]
 omega
def IsReader (w : World) (B : Nat) (v : Value) (bs : List Int) (e : Int) : Prop :=
 w.cell? ⟨B, 0, none⟩ = some v ∧ w.cell? ⟨B, 1, none⟩ = some (.int .i64 e) ∧ w.frozen? ⟨B, 0, none⟩ = false ∧ w.frozen? ⟨B, 1, none⟩ = false ∧ NumsLt B .u8 w v bs ∧ ∀ x ∈ bs, 0 ≤ x ∧ x ≤ 255
theorem reader_shift {w : World} {B b off c k c' : Nat} {bs : List Int} {e : Int} {v : Value} {a' : Option Addr} (h0 : w.cell? ⟨B, 0, none⟩ = some v) (h1 : w.cell? ⟨B, 1, none⟩ = some (.int .i64 e)) (h2 : w.frozen? ⟨B, 0, none⟩ = false) (h3 : w.frozen? ⟨B, 1, none⟩ = false)
   (hblk : b < B) (hcell : ∀ j, j < bs.length → w.cell? ⟨b, off + j, none⟩ = some (.int .u8 (bs.getD j 0))) (hbs : ∀ x ∈ bs, 0 ≤ x ∧ x ≤ 255) (hk : k ≤ bs.length) (hc1 : bs.length - k ≤ c') (hc2 : c' ≤ 9223372036854775807) (ha : bs.length - k = 0 ∨ a' = some ⟨b, off + k, none⟩) :
   IsReader (w.setCell ⟨B, 0, none⟩ (.slice a' (bs.length - k) c')) B (.slice a' (bs.length - k) c') (bs.drop k) e := by
 refine ⟨World.cell?_setCell_same _ _ _ h0, ?_, by rw [World.frozen?_setCell]; exact h2, by rw [World.frozen?_setCell]; exact h3, ?_, fun x hx => hbs x (List.mem_of_mem_drop hx)⟩
 · rw [World.cell?_setCell_other _ _ _ _ (by simp)]; exact h1
 have hl : (bs.drop k).length = bs.length - k := by simp
 refine NumsLt.below (w := w) ⟨a', c', by rw [hl], by omega, hc2, ?_⟩ ((Below.refl B w).setCell (p := ⟨B, 0, none⟩) (Nat.le_refl _) _)
 rcases ha with ha | ha
 · left; omega
 right
 refine ⟨b, off + k, ha, hblk, fun j hj => ?_⟩
 have := hcell (k + j) (by omega)
 rw [show off + k + j = off + (k + j) by omega, this]
 simp [List.getD]
def decPost (w : World) (B : Nat) (bs : List Int) (e : Int) : Dec → Ending → World → Prop
 | .ok n k, en, w' => en = .returned (.tuple #[.int .u64 n, .int .i64 0]) ∧ ∃ v', w' = w.setCell ⟨B, 0, none⟩ v' ∧ IsReader w' B v' (bs.drop k) e
 | .err er, en, w' => en = .returned (.tuple #[.int .u64 0, .int .i64 er]) ∧ w' = w
end Go.Proofs.YtamjnimaeecmoaaGreat.K
end
section
namespace Go.Proofs.YtamjnimaeecmoaaGreat.K
open Go.ChangeShapes Go.WideShapes Go.ChangeAt Go.RowKit
set_option linter.unusedVariables false
def Only (B : Nat) (w w' : World) : Prop := w.grownBy w' (some B)
theorem Only.refl (B : Nat) (w : World) : Only B w w := ⟨rfl, rfl, rfl, Nat.le_refl _, fun _ _ _ => rfl⟩
theorem Only.trans {B : Nat} {a b c : World} (h : Only B a b) (k : Only B b c) : Only B a c :=
 ⟨k.os.trans h.os, k.tape.trans h.tape, k.output.trans h.output, Nat.le_trans h.size k.size, fun i hi hne => (k.block i (Nat.lt_of_lt_of_le hi h.size) hne).trans (h.block i hi hne)⟩
theorem Only.set (B : Nat) (w : World) (o : Nat) (v : Value) : Only B w (w.setCell ⟨B, o, none⟩ v) :=
 ⟨rfl, rfl, rfl, by simp [World.setCell], fun k _ hne => Below.heap_setCell _ _ _ _ (fun e => hne (by rw [e]))⟩
theorem Only.ofBelow {B : Nat} {w w' : World} (h : Below w.heap.size w w') : Only B w w' := ⟨h.os, h.tape, h.output, h.size, fun k hk _ => h.block k hk⟩
theorem Only.below {B N : Nat} {w w' : World} (h : Only B w w') (hB : N ≤ B) (hN : N ≤ w.heap.size) : Below N w w' :=
 ⟨h.os, h.tape, h.output, h.size, fun k hk => h.block k (by omega) (fun e => by cases e; omega)⟩
theorem Only.drew (B : Nat) (w : World) : Only B w w.drew := ⟨rfl, rfl, rfl, Nat.le_refl _, fun _ _ _ => rfl⟩
theorem IsReader.lt {w : World} {B : Nat} {v : Value} {bs : List Int} {e : Int} (h : IsReader w B v bs e) : B < w.heap.size := World.block_lt_of_cell? w ⟨B, 0, none⟩ h.1
theorem IsReader.kept {w w' : World} {B B2 : Nat} {v : Value} {bs : List Int} {e : Int} (h : IsReader w B v bs e) (ho : Only B2 w w') (hB : B < B2) : IsReader w' B v bs e := by
 have hlt := h.lt
 obtain ⟨h0, h1, h2, h3, h4, h5⟩ := h
 have hb : w'.heap[B]? = w.heap[B]? := ho.block B hlt (fun e => by cases e; omega)
 exact ⟨by rw [World.cell?_of_block (w := w) hb]; exact h0, by rw [World.cell?_of_block (w := w) hb]; exact h1, by rw [World.frozen?_of_block (w := w) hb]; exact h2, by rw [World.frozen?_of_block (w := w) hb]; exact h3, h4.below (ho.below (by omega) (by omega)), h5⟩
theorem IsReader.later {w w' : World} {B : Nat} {v : Value} {bs : List Int} {e : Int} (h : IsReader w B v bs e) (hb : Below w.heap.size w w') : IsReader w' B v bs e := by
 have hlt := h.lt
 obtain ⟨h0, h1, h2, h3, h4, h5⟩ := h
 exact ⟨by rw [hb.cell (by exact hlt)]; exact h0, by rw [hb.cell (by exact hlt)]; exact h1, by rw [hb.frozen (by exact hlt)]; exact h2, by rw [hb.frozen (by exact hlt)]; exact h3, h4.below (hb.mono (by omega)), h5⟩
def numR (bs : List Int) (e most : Int) : Int × List Int × Int :=
 if e = 0 then match dec 0 0 bs with
   | .err er => (0, [], er)
   | .ok n k => if most < n then (0, [], 22) else (n, bs.drop k, 0)
 else (0, bs, e)
end Go.Proofs.YtamjnimaeecmoaaGreat.K
end
section
namespace Go.Proofs.YtamjnimaeecmoaaGreat.K
open Go.ChangeShapes Go.WideShapes Go.ChangeAt Go.RowKit
set_option linter.unusedVariables false
def lumpR (bs : List Int) (e most : Int) : List Int × List Int × Int :=
 if (numR bs e (max most 0)).2.2 = 0 then
   if ((numR bs e (max most 0)).2.1.length : Int) < (numR bs e (max most 0)).1 then ([], [], 21)
   else ((numR bs e (max most 0)).2.1.take (numR bs e (max most 0)).1.toNat, (numR bs e (max most 0)).2.1.drop (numR bs e (max most 0)).1.toNat, 0)
 else ([], (numR bs e (max most 0)).2.1, (numR bs e (max most 0)).2.2)
theorem IsLists.lit (w : World) (us : List Value) (ls : List (List Int)) (N : Nat) (T : TypeId) (n c : Nat) (hN : N = w.heap.size) (hn : n = us.length) (hl : us.length = ls.length) (h : ∀ j, j < us.length → IsNums .u8 w (us.getD j default) (ls.getD j [])) :
   IsLists (w.alloc (.cells us.toArray T)) (.slice (some ⟨N, 0, none⟩) n c) ls := by
 subst hN; subst hn
 refine ⟨_, c, by rw [hl], .inr ⟨_, 0, rfl, by simp, fun j hj => ?_⟩⟩
 refine ⟨us.getD j default, ?_, (h j (by omega)).alloc _⟩
 unfold World.cell? World.alloc
 simp [List.getD, show j < us.length by omega]
theorem IsLists.one (w : World) (u : Value) (bs : List Int) (N : Nat) (T : TypeId) (hN : N = w.heap.size) (h : IsNums .u8 w u bs) : IsLists (w.alloc (.cells #[u] T)) (.slice (some ⟨N, 0, none⟩) 1 1) [bs] :=
 IsLists.lit w [u] [bs] N T 1 1 hN rfl rfl (fun j hj => by
   rcases j with _ | j
   · exact h
   simp at hj)
theorem NumsLt.ofOwn {k : IntKind} {w : World} {B : Nat} {e : TypeId} {v : Value} {n : Nat} {zs : List Int} (h : w.ownsRow B e 1 v n (zs.map (Value.int k))) : NumsLt w.heap.size k w v zs := by
 have hn : n = zs.length := by have := h.1; simpa using this.symm
 subst hn
 rcases h.2 with ⟨rfl, h0⟩ | ⟨g, cap, cur, rfl, hg, hb, h1, h2, h3, h4⟩
 · obtain rfl := List.length_eq_zero_iff.1 h0
   exact ⟨none, 0, rfl, Nat.le_refl _, by omega, .inl rfl⟩
 refine ⟨_, cap, rfl, h1, h2, .inr ⟨g, 0, rfl, (Array.getElem?_eq_some_iff.1 hb).1, fun j hj => ?_⟩⟩
 have := h.cellAt j (by omega)
 rw [Nat.zero_add, this]
 simp [hj, List.getD]
theorem NumsLt.take {N : Nat} {k : IntKind} {w : World} {a : Option Addr} {len c : Nat} {zs : List Int} (h : NumsLt N k w (.slice a len c) zs) (n : Nat) (hn : n ≤ zs.length) : NumsLt N k w (.slice a n c) (zs.take n) := by
 obtain ⟨a', c', e, h1, h2, h3⟩ := h
 injection e with e1 e2 e3
 subst e1; subst e3
 refine ⟨a, c, by simp [hn], by simp; omega, h2, ?_⟩
 rcases h3 with h3 | ⟨b, off, rfl, hb, hc⟩
 · left; simp; omega
 right
 refine ⟨b, off, rfl, hb, fun j hj => ?_⟩
 simp at hj
 rw [hc j (by omega)]
 simp only [List.getD, List.getElem?_take]
 rw [if_pos (by omega)]
theorem IsReader.set {w : World} {B : Nat} {a : Option Addr} {len c n : Nat} {bs : List Int} {e : Int} (h : IsReader w B (.slice a len c) bs e) (hn : n ≤ bs.length) (a' : Option Addr) (c' : Nat) (hc1 : bs.length - n ≤ c') (hc2 : c' ≤ 9223372036854775807)
   (ha : ∀ b off, a = some ⟨b, off, none⟩ → bs.length - n = 0 ∨ a' = some ⟨b, off + n, none⟩) : IsReader (w.setCell ⟨B, 0, none⟩ (.slice a' (bs.length - n) c')) B (.slice a' (bs.length - n) c') (bs.drop n) e := by
 obtain ⟨h0, h1, h2, h3, ⟨p, c0, ep, hc3, hc4, hcells⟩, h5⟩ := h
 injection ep with e1 e2 e3
 subst e1; subst e3
 rcases hcells with hz | ⟨b, off, rfl, hblk, hcell⟩
 · have hn0 : bs = [] := List.length_eq_zero_iff.1 hz
   subst hn0
   refine ⟨World.cell?_setCell_same _ _ _ h0, ?_, by rw [World.frozen?_setCell]; exact h2, by rw [World.frozen?_setCell]; exact h3, ⟨a', c', by simp, by simp, hc2, .inl (by simp)⟩, by simp⟩
   rw [World.cell?_setCell_other _ _ _ _ (by simp)]; exact h1
 exact reader_shift (c := c) h0 h1 h2 h3 hblk hcell h5 hn hc1 hc2 (ha b off rfl)
def LumpPost (w : World) (B : Nat) (r : List Int × List Int × Int) (en : Ending) (w' : World) : Prop :=
 ∃ u, en = .returned u ∧ w'.ownsRow w.heap.size 5 1 u r.1.length (r.1.map (Value.int .u8)) ∧ ∃ v', IsReader w' B v' r.2.1 r.2.2 ∧ Only B w w'
end Go.Proofs.YtamjnimaeecmoaaGreat.K
end
section
namespace Go.Proofs.YtamjnimaeecmoaaGreat.K
open Go.ChangeShapes Go.WideShapes Go.ChangeAt Go.RowKit
set_option linter.unusedVariables false
def Low (N : Nat) (w0 : World) : World → Prop := fun W => Below N w0 W
section
variable {P : Program} {ops : Array Oper} {Q : Exit → Act → World → Prop} {md : Region.Mode} {w0 : World} {N : Nat}
end
end Go.Proofs.YtamjnimaeecmoaaGreat.K
end
section
namespace Go.Proofs.YtamjnimaeecmoaaGreat.K
open Go.ChangeShapes Go.WideShapes Go.ChangeAt Go.RowKit
set_option linter.unusedVariables false
theorem enc_dec (rest : List Int) : ∀ (f n i acc : Nat), i + f = 9 → n * 2 ^ (7 * i) < 2 ^ 64 → (0 < i → n ≠ 0) → dec acc i (encF f n ++ rest) = .ok (acc + n * 2 ^ (7 * i)) (i + (encF f n).length)
 | 0, n, i, acc, hi, hb, hz => by
   obtain rfl : i = 9 := by omega
   have hn : n ≤ 1 := by omega
   have h0 := hz (by omega)
   obtain rfl : n = 1 := by omega
   simp [encF, dec]
 | f + 1, n, i, acc, hi, hb, hz => by
   unfold encF
   by_cases h : n < 128
   · rw [if_pos h]
     have hc : ¬ ((i = 9 ∧ (1 : Int) < (n : Int)) ∨ (0 < i ∧ (n : Int) = 0)) := by omega
     simp only [List.cons_append, List.nil_append, dec]
     rw [if_neg hc, if_pos (by omega)]
     rw [show ((n : Int) % 128).toNat = n by omega]
     simp
   rw [if_neg h]
   have hc : ¬ ((i = 9 ∧ (1 : Int) < ((n % 128 + 128 : Nat) : Int)) ∨ (0 < i ∧ ((n % 128 + 128 : Nat) : Int) = 0)) := by omega
   simp only [List.cons_append, dec]
   rw [if_neg hc, if_neg (by omega)]
   have hpow : (2 : Nat) ^ (7 * (i + 1)) = 128 * 2 ^ (7 * i) := by rw [show 7 * (i + 1) = 7 + 7 * i by omega, Nat.pow_add]
   have hdm : 128 * (n / 128) + n % 128 = n := Nat.div_add_mod n 128
   have hmul : n / 128 * 2 ^ (7 * (i + 1)) = 128 * (n / 128) * 2 ^ (7 * i) := by rw [hpow]; ac_rfl
   have hle : 128 * (n / 128) * 2 ^ (7 * i) ≤ n * 2 ^ (7 * i) := Nat.mul_le_mul_right _ (by omega)
   rw [enc_dec rest f (n / 128) (i + 1) _ (by omega) (by omega) (by omega)]
   rw [show (((n % 128 + 128 : Nat) : Int) % 128).toNat = n % 128 by omega, hmul]
   have hsum : n * 2 ^ (7 * i) = 128 * (n / 128) * 2 ^ (7 * i) + n % 128 * 2 ^ (7 * i) := by rw [← Nat.add_mul, hdm]
   rw [hsum]
   simp
   constructor <;> omega
theorem dec_enc (x : Int) (h0 : 0 ≤ x) (h1 : x ≤ 18446744073709551615) (rest : List Int) : dec 0 0 (enc x ++ rest) = .ok x.toNat (enc x).length := by
 have := enc_dec rest 9 x.toNat 0 0 (by omega) (by simp; omega) (by omega)
 simpa [enc] using this
theorem enc_bytes (x : Int) (h1 : x ≤ 18446744073709551615) : ∀ b ∈ enc x, 0 ≤ b ∧ b ≤ 255 := by
 have : ∀ (f n : Nat), n < 128 ^ (f + 1) → ∀ b ∈ encF f n, 0 ≤ b ∧ b ≤ 255 := by
   intro f
   induction f with
   | zero => intro n hn b hb; simp [encF] at hb hn; omega
   | succ f ih =>
     intro n hn b hb
     unfold encF at hb
     split at hb
     · simp at hb; omega
     rcases List.mem_cons.1 hb with rfl | hb
     · omega
     refine ih (n / 128) ?_ b hb
     rw [Nat.pow_succ] at hn
     exact Nat.div_lt_of_lt_mul (by rw [Nat.mul_comm]; exact hn)
 refine this 9 x.toNat ?_
 have : (128 : Nat) ^ 10 = 1180591620717411303424 := by decide
 omega
theorem numR_ok (x : Int) (h0 : 0 ≤ x) (h1 : x ≤ 18446744073709551615) (rest : List Int) (most : Int) (hm : x ≤ most) : numR (enc x ++ rest) 0 most = (x, rest, 0) := by
 unfold numR
 rw [if_pos rfl, dec_enc x h0 h1 rest]
 simp only []
 rw [if_neg (by omega)]
 simp; omega
theorem numR_bad (bs : List Int) (e most : Int) (h : e ≠ 0) : numR bs e most = (0, bs, e) := by rw [numR, if_neg h]
theorem IsNums.drew {k : IntKind} {w : World} {v : Value} {zs : List Int} (h : IsNums k w v zs) : IsNums k w.drew v zs := h.below (Below.refl w.heap.size w).drew (Nat.le_refl _)
theorem IsLists.nil (w : World) (a : Option Addr) (c : Nat) : IsLists w (.slice a 0 c) [] := ⟨a, c, rfl, .inl rfl⟩
theorem IsNums.after {k : IntKind} {w w' : World} {v : Value} {zs : List Int} {o : Obj} (h : IsNums k w v zs) (hb : Below (w.alloc o).heap.size (w.alloc o) w') : IsNums k w' v zs := (h.alloc o).below hb (Nat.le_refl _)
end Go.Proofs.YtamjnimaeecmoaaGreat.K
end
section
namespace Go.Proofs.YtamjnimaeecmoaaGreat.K
open Go.ChangeShapes Go.WideShapes Go.ChangeAt Go.RowKit
set_option linter.unusedVariables false
section
variable {P : Program} {a : Act} {w : World} {K : Act → World → Prop} {Q : Exit → Act → World → Prop}
end
theorem NumsOff.ofOwn {bad : Nat → Prop} {w : World} {base : Nat} {e : TypeId} {v : Value} {n : Nat} {zs : List Int} (h : w.ownsRow base e 1 v n (zs.map (Value.int .u8))) (hb : ∀ k, base ≤ k → k < w.heap.size → ¬ bad k) : NumsOff bad w v zs := by
 have hn : n = zs.length := by have := h.1; simpa using this.symm
 subst hn
 rcases h.2 with ⟨rfl, h0⟩ | ⟨g, cap, cur, rfl, hg, hbk, h1, h2, h3, h4⟩
 · obtain rfl := List.length_eq_zero_iff.1 h0; exact NumsOff.nil _ _ none 0
 have hlt := (Array.getElem?_eq_some_iff.1 hbk).1
 refine ⟨_, cap, rfl, .inr ⟨g, 0, rfl, hlt, hb g hg hlt, fun j hj => ?_⟩⟩
 have := h.cellAt j (by omega)
 rw [Nat.zero_add, this]
 simp [hj, List.getD]
end Go.Proofs.YtamjnimaeecmoaaGreat.K
end
section
namespace Go.Proofs.YtamjnimaeecmoaaGreat.K
open Go.ChangeShapes Go.WideShapes Go.ChangeAt Go.RowKit
set_option linter.unusedVariables false
section
variable {P : Program} {ops : Array Oper} {rest : List Oper} {a : Act} {w : World} {Q : Exit → Act → World → Prop}
end
theorem Only.keep {B : Nat} {a b : World} (h : Only B a b) : Keep (fun k => k = B) a b := ⟨h.os, h.tape, h.output, h.size, fun i hi hn => h.block i hi (fun e => hn (show i = B from (by injection e)))⟩
end Go.Proofs.YtamjnimaeecmoaaGreat.K
end
section
namespace Go.Proofs.YtamjnimaeecmoaaGreat.K
open Go.ChangeShapes Go.WideShapes Go.ChangeAt Go.RowKit
set_option linter.unusedVariables false
set_option linter.unusedSimpArgs false
theorem and127 (b : Int) (h0 : 0 ≤ b) (h1 : b ≤ 255) : bits .and .u8 b 127 = b % 128 := by
 have h : ∀ z : Fin 256, bits .and .u8 ((z.val : Nat) : Int) 127 = ((z.val : Nat) : Int) % 128 := by decide +kernel
 have := h ⟨b.toNat, by omega⟩
 simp only at this
 rw [show ((b.toNat : Nat) : Int) = b by omega] at this
 exact this
theorem numR_err {bs : List Int} {er : Int} (most : Int) (h : dec 0 0 bs = .err er) : numR bs 0 most = (0, [], er) := by rw [numR, if_pos rfl, h]
theorem numR_val {bs : List Int} {n k : Nat} (most : Int) (h : dec 0 0 bs = .ok n k) : numR bs 0 most = if most < (n : Int) then (0, [], 22) else ((n : Int), bs.drop k, 0) := by rw [numR, if_pos rfl, h]
end Go.Proofs.YtamjnimaeecmoaaGreat.K
end
section
namespace Go.Proofs.YtamjnimaeecmoaaGreat.K
open Go.ChangeShapes Go.WideShapes Go.ChangeAt Go.RowKit
set_option linter.unusedVariables false
set_option linter.unusedSimpArgs false
theorem leb_or (u : Nat) : IntKind.u8.wrap ((BitVec.ofInt IntKind.u8.bits (IntKind.u8.wrap (u : Int)) ||| BitVec.ofInt IntKind.u8.bits 128).toNat) = ((u % 128 + 128 : Nat) : Int) := by
 have h := or128 u
 have e : IntKind.u8.wrap (u : Int) = (u : Int) % 256 := by simp [IntKind.wrap, IntKind.signed, IntKind.bits]
 rw [e]; exact h
theorem leb_stepx {j u : Nat} (hj : j ≤ 9) (hu : (u : Int) < 2 ^ (64 - 7 * j)) (h : 128 ≤ u) : j + 1 ≤ 9 ∧ ((u / 128 : Nat) : Int) < 2 ^ (64 - 7 * (j + 1)) := by
 have hc : j = 0 ∨ j = 1 ∨ j = 2 ∨ j = 3 ∨ j = 4 ∨ j = 5 ∨ j = 6 ∨ j = 7 ∨ j = 8 ∨ j = 9 := by omega
 rcases hc with rfl | rfl | rfl | rfl | rfl | rfl | rfl | rfl | rfl | rfl <;> simp at hu ⊢ <;> omega
theorem leb_more {j u : Nat} (hj : j ≤ 8) (h : 128 ≤ u) : encF (9 - j) u = ((u % 128 + 128 : Nat) : Int) :: encF (9 - (j + 1)) (u / 128) := by
 obtain ⟨f, hf⟩ : ∃ f, 9 - j = f + 1 := ⟨8 - j, by omega⟩
 rw [hf, show 9 - (j + 1) = f by omega, encF, if_neg (by omega)]
theorem leb_end {j u : Nat} (hj : j ≤ 9) (h : u < 128) : encF (9 - j) u = [(u : Int)] := by
 cases hf : 9 - j with
 | zero => rfl
 | succ f => rw [encF, if_pos h]
theorem encs_one (x : Int) : encs [x] = enc x := by simp [encs]
theorem encs_cons (x : Int) (l : List Int) : encs (x :: l) = enc x ++ encs l := by simp [encs]
theorem one64 {x : Int} (h : 0 ≤ x ∧ x ≤ 9223372036854775807) : ∀ k, k < [x].length → 0 ≤ [x].getD k 0 ∧ [x].getD k 0 < 2 ^ 64 := fun k hk => by
 obtain rfl : k = 0 := by simpa using hk
 simp; omega
theorem one63 {x : Int} (h : 0 ≤ x ∧ x ≤ 9223372036854775807) : ∀ k, k < [x].length → 0 ≤ [x].getD k 0 ∧ [x].getD k 0 ≤ 9223372036854775807 := fun k hk => by
 obtain rfl : k = 0 := by simpa using hk
 simpa using h
def itemE (e : Int × List Int) : List Int := enc e.1 ++ (enc e.2.length ++ e.2)
def itemsE (es : List (Int × List Int)) : List Int := es.flatMap itemE
theorem itemsE_snoc {es : List (Int × List Int)} {k : Nat} {e : Int × List Int} (h : es[k]? = some e) : itemsE (es.take (k + 1)) = itemsE (es.take k) ++ itemE e := by
 rw [take_snoc h]; simp [itemsE]
theorem itemsE_len (es : List (Int × List Int)) (h : ∀ e ∈ es, e.2.length ≤ 1000) : (itemsE es).length ≤ 1020 * es.length := by
 induction es with
 | nil => simp [itemsE]
 | cons e es ih =>
   have h1 := ih (fun x hx => h x (List.mem_cons_of_mem _ hx))
   have h2 := h e List.mem_cons_self
   have h3 := (enc_len e.1).1
   have h4 := (enc_len e.2.length).1
   simp only [itemsE, List.flatMap_cons, List.length_append, List.length_cons, itemE] at h1 ⊢
   omega
set_option maxRecDepth 100000
set_option maxHeartbeats 4000000
theorem rput_x (xs : List Int) (q : Option Addr) (cq : Nat) (w0 : World) (h0 : Rd (fun _ => True) w0 (.slice q xs.length cq) (.ns .u64 xs)) (hl : xs.length ≤ 1000000) (hxb : ∀ k, k < xs.length → 0 ≤ xs.getD k 0 ∧ xs.getD k 0 < 2 ^ 64) :
   Calls Tryz.prog 87 #[.slice q xs.length cq] w0 fun e w' => ∃ (p : Option Addr) (c : Nat), e = .returned (.slice p (encs xs).length c) ∧ w'.ownsRow w0.heap.size 5 1 (.slice p (encs xs).length c) (encs xs).length ((encs xs).map (Value.int .u8)) ∧ Below w0.heap.size w0 w' := by
 refine ent1 Tryz.func87 rfl Tryz.ntmps87 fun Az Hz => ?_
 have m0 := MemOk.start (fun _ => False) w0
 refine regS Hz (.assign rfl .nil) fun Az Hz => ?_
 refine regS Hz (.assign rfl .nil) fun Az Hz => ?_
 refine wsk fun K0 hK0 => ?_
 refine regS Hz (.assign rfl .nil) fun Az Hz => ?_
 refine wp_block ?_
 refine wp_loop_ghost (fun g a w => ∃ (k : Nat) (b : List Int) (p : Option Addr) (c : Nat), k ≤ xs.length ∧ g = xs.length - k ∧ b = encs (xs.take k) ∧ Has 32 [(0, .slice q xs.length cq), (3, .slice p b.length c), (4, .int .i64 k)] a ∧ MemOk (cn w0) w0 [(9, .num (.slice p b.length c) 5 .u8 b)] w) (xs.length) ?_ ?_
 · have mz := m0.nilN 9 5 .u8
   exact ⟨0, [], _, _, Nat.zero_le _, rfl, rfl, Hz.only [0, 3, 4], mz.only [9]⟩
 clear Hz m0
 rintro g Az w4 ⟨k, b, p, c, hkl, hg, hbe, Hz, m4⟩
 refine wsk fun K1 hK1 => ?_
 refine regS Hz (.move rfl <| .move rfl <| .len rfl U212 <| .lss rfl rfl .nil) fun Az Hz => ?_
 refine bc Hz 9 ?_ ?_
 ·
  intro hb9 Hz; try simp only [QQ, Qax] at hb9
  have hk : k < xs.length := by omega
  have hxk := hxb k hk
  refine wct Hz ?_
  refine zss (hK1 _ _ ?_)
  refine wsk fun K2 hK2 => ?_
  refine wp_block ?_
  refine zsr fun K3 hK3 => ?_
  refine goCh Hz (.move rfl <| .move rfl .nil) fun Az Hz => ?_
  obtain ⟨gx15, ox15, hp15, hl15, hrg15⟩ := h0.extN (k) hk
  revert Hz
  cases hp15
  intro Hz
  refine gz hK3 Hz (.c rfl (fun _ h_ => y_idx h_ rfl rfl U212 fct20 (k) rfl hk) <| .loadAt1 (hrg15 m4 rfl) (q := 0) rfl rfl rfl U149 rfl <| .assign rfl <| .nil) fun Az Hz => ?_
  refine wsk fun K4 hK4 => ?_
  refine wp_block ?_
  refine wp_loop_ghost (fun g a w => ∃ (j u : Nat) (b : List Int) (p : Option Addr) (c : Nat), j ≤ 9 ∧ (u : Int) < 2 ^ (64 - 7 * j) ∧ g = u ∧ b.length ≤ 10 * k + j ∧ b ++ encF (9 - j) u = encs (xs.take k) ++ enc (xs.getD k 0) ∧ Has 32 [(0, .slice (some ⟨gx15, ox15, none⟩) xs.length cq), (3, .slice p b.length c), (4, .int .i64 k), (5, .int .u64 (u : Int))] a ∧ MemOk (cn w0) w0 [(9, .num (.slice p b.length c) 5 .u8 b)] w) ((xs.getD k 0).toNat) ?_ ?_
  · obtain ⟨u0, hu0⟩ : ∃ u : Nat, xs.getD k 0 = u := ⟨(xs.getD k 0).toNat, by omega⟩
    rw [hu0] at Hz
    exact ⟨0, u0, b, _, _, by omega, by have := hxk.2; rw [hu0] at this; simpa using this, by rw [hu0]; rfl, by rw [hbe]; have := encs_len (xs.take k); rw [List.length_take] at this; omega, by rw [hbe, hu0]; rfl, Hz.only [0, 3, 4, 5], m4.only [9]⟩
  clear Hz m4
  rintro g Az w19 ⟨j, u, b, p, c, hj9, hu1, hg2, hbl2, hbe2, Hz, m19⟩
  refine wsk fun K5 hK5 => ?_
  refine regS Hz (.move rfl <| .geq rfl rfl .nil) fun Az Hz => ?_
  refine bc Hz 17 ?_ ?_
  ·
   intro hb22 Hz; try simp only [QQ, Qax] at hb22
   have hub : 128 ≤ u := by omega
   have hz : IntKind.u8.wrap ((BitVec.ofInt IntKind.u8.bits (IntKind.u8.wrap (u : Int)) ||| BitVec.ofInt IntKind.u8.bits 128).toNat) = ((u % 128 + 128 : Nat) : Int) := leb_or u
   obtain ⟨hj8, hu2⟩ := leb_stepx hj9 hu1 (by omega)
   refine wct Hz ?_
   refine zss (hK5 _ _ ?_)
   refine wp_block ?_
   refine zsr fun K6 hK6 => ?_
   refine goCh Hz (.move rfl <| .move rfl <| .conv rfl U149 U5 rfl <| .or rfl rfl (r := ((u % 128 + 128 : Nat) : Int)) hz .nil) fun Az Hz => ?_
   refine plz (e_litN Hz m19 200 (k := .u8) rfl rfl U22 fct19 rfl rfl rfl rfl fun g31 Az w32 Hz m32 => ?_)
   refine plz (e_appN Hz m32 9 rfl rfl rfl (m32.numsO (i := 200) rfl) U22 fct19 (by decide) (by simp; omega) rfl fun p33 c33 Az w34 Hz m34 => ?_)
   refine gz hK6 Hz (.assign rfl .nil) fun Az Hz => ?_
   replace Hz := Hz.oz [0, 3, 4, 5]
   refine wp_region_lit ?_
   refine goCh Hz (.move rfl <| .shr rfl rfl (by decide) (r := ((u / 128 : Nat) : Int)) (by rw [show (2 : Int) ^ min (7 : Int).toNat IntKind.u64.bits = 128 from by decide, Int.fdiv_eq_ediv_of_nonneg _ (by decide)]; omega) <| .assign rfl .nil) fun Az Hz => ?_
   refine wpList_nil ?_
   show ∃ n', n' < _ ∧ _
   exact ⟨u / 128, by omega, j + 1, u / 128, _, _, _, hj8, by omega, rfl, by simp; omega, by rw [← hbe2, leb_more (by omega) hub, List.append_assoc]; try rfl, Hz.only [0, 3, 4, 5], m34.only [9]⟩
  intro hb22 Hz; try simp only [QQ, Qax] at hb22
  have hub : u < 128 := by omega
  refine wcf Hz ?_
  refine wp_exit ?_
  refine hK4 _ _ ?_
  refine wp_region_lit ?_
  refine goCh Hz (.move rfl <| .move rfl <| .conv rfl U149 U5 (r := (u : Int)) (IntWalk.u8_in _ (by omega)) .nil) fun Az Hz => ?_
  refine plz (e_litN Hz m19 200 (k := .u8) rfl rfl U22 fct19 rfl rfl rfl rfl fun g43 Az w44 Hz m44 => ?_)
  refine plz (e_appN Hz m44 9 rfl rfl rfl (m44.numsO (i := 200) rfl) U22 fct19 (by decide) (by simp; omega) rfl fun p45 c45 Az w46 Hz m46 => ?_)
  refine gz hK2 Hz (.assign rfl .nil) fun Az Hz => ?_
  replace Hz := Hz.oz [0, 3, 4, 5]
  refine wp_region_lit ?_
  refine goCh Hz (.move rfl <| .inc (k + 1) <| .assign rfl .nil) fun Az Hz => ?_
  refine wpList_nil ?_
  show ∃ n', n' < _ ∧ _
  exact ⟨xs.length - (k + 1), by omega, k + 1, _, _, _, by omega, rfl, by rw [encs_snoc _ _ hk, ← hbe2, leb_end (by omega) hub]; try rfl, Hz.only [0, 3, 4], m46.only [9]⟩
 intro hb9 Hz; try simp only [QQ, Qax] at hb9
 revert Hz
 obtain rfl : k = xs.length := by omega
 intro Hz
 refine wcf Hz ?_
 refine wp_exit ?_
 refine hK0 _ _ ?_
 refine regS Hz (.move rfl <| .assign rfl .nil) fun Az Hz => ?_
 refine rt1 Hz ?_
 rw [List.take_length] at hbe
 revert Hz
 subst hbe
 intro Hz
 exact ⟨_, _, rfl, m4.ok 9 _ rfl, m4.below⟩
theorem rnums16x (xs : List Int) (q : Option Addr) (cq : Nat) (w0 : World) (h0 : Rd (fun _ => True) w0 (.slice q xs.length cq) (.ns .i64 xs)) (hl : xs.length ≤ 1000000) (hxb : ∀ k, k < xs.length → 0 ≤ xs.getD k 0 ∧ xs.getD k 0 ≤ 9223372036854775807) :
   Calls Tryz.prog 58 #[.slice q xs.length cq] w0 fun e w' => ∃ (p : Option Addr) (c : Nat), e = .returned (.slice p (encs xs).length c) ∧ w'.ownsRow w0.heap.size 5 1 (.slice p (encs xs).length c) (encs xs).length ((encs xs).map (Value.int .u8)) ∧ Below w0.heap.size w0 w' := by
 refine ent1 Tryz.func58 rfl Tryz.ntmps58 fun Az Hz => ?_
 have m0 := MemOk.start (fun _ => False) w0
 refine regS Hz (.assign rfl .nil) fun Az Hz => ?_
 refine regS Hz (.assign rfl .nil) fun Az Hz => ?_
 refine wsk fun K0 hK0 => ?_
 refine regS Hz (.assign rfl .nil) fun Az Hz => ?_
 refine wp_block ?_
 refine wp_loop_ghost (fun g a w => ∃ (k : Nat) (b : List Int) (p : Option Addr) (c : Nat), k ≤ xs.length ∧ g = xs.length - k ∧ b = encs (xs.take k) ∧ Has 21 [(0, .slice q xs.length cq), (3, .slice p b.length c), (4, .int .i64 k)] a ∧ MemOk (cn w0) w0 [(9, .num (.slice p b.length c) 5 .u8 b)] w) (xs.length) ?_ ?_
 · have mz := m0.nilN 9 5 .u8
   exact ⟨0, [], _, _, Nat.zero_le _, rfl, rfl, Hz.only [0, 3, 4], mz.only [9]⟩
 clear Hz m0
 rintro g Az w4 ⟨k, b, p, c, hkl, hg, hbe, Hz, m4⟩
 refine wsk fun K1 hK1 => ?_
 refine regS Hz (.move rfl <| .move rfl <| .len rfl U30 <| .lss rfl rfl .nil) fun Az Hz => ?_
 refine bc Hz 8 ?_ ?_
 ·
  intro hb9 Hz; try simp only [QQ, Qax] at hb9
  have hk : k < xs.length := by omega
  have hxk := hxb k hk
  refine wct Hz ?_
  refine zss (hK1 _ _ ?_)
  refine wsk fun K2 hK2 => ?_
  refine wp_block ?_
  refine wp_region_lit ?_
  refine goCh Hz (.move rfl <| .move rfl <| .move rfl .nil) fun Az Hz => ?_
  obtain ⟨gx13, ox13, hp13, hl13, hrg13⟩ := h0.extN (k) hk
  revert Hz
  cases hp13
  intro Hz
  refine goCh Hz (.c rfl (fun _ h_ => y_idx h_ rfl rfl U30 fct10 (k) rfl hk) <| .loadAt1 (hrg13 m4 rfl) (q := 0) rfl rfl rfl U2 rfl <| .conv rfl U2 U149 (r := xs.getD k 0) (IntWalk.u64_in _ (by omega)) .nil) fun Az Hz => ?_
  refine plz (e_litN Hz m4 100 (k := .u64) rfl rfl U212 fct21 rfl rfl rfl rfl fun g17 Az w18 Hz m18 => ?_)
  have m19 := m18.freezeN 100 rfl
  refine plz (ecn Hz Tryz.func87 rfl m19 101 (rput_x [xs.getD k 0] _ _ _ ((m19.rd (i := 100) rfl).any) (by simp) (one64 (by omega))) fun p20 c20 Az w20 Hz m21 => ?_)
  refine plz (e_appN Hz m21 9 rfl rfl rfl (m21.numsO (i := 101) rfl) U22 fct19 (by decide) (by rw [hbe]; have h8 := encs_len (xs.take k); rw [List.length_take] at h8; have h9 := encs_len [xs.getD k 0]; rw [List.length_singleton] at h9; omega) rfl fun p23 c23 Az w24 Hz m24 => ?_)
  refine gz hK2 Hz (.assign rfl .nil) fun Az Hz => ?_
  replace Hz := Hz.oz [0, 3, 4]
  refine wp_region_lit ?_
  refine goCh Hz (.move rfl <| .inc (k + 1) <| .assign rfl .nil) fun Az Hz => ?_
  refine wpList_nil ?_
  show ∃ n', n' < _ ∧ _
  exact ⟨xs.length - (k + 1), by omega, k + 1, _, _, _, by omega, rfl, by rw [encs_snoc _ _ hk, ← hbe, encs_one], Hz.only [0, 3, 4], m24.only [9]⟩
 intro hb9 Hz; try simp only [QQ, Qax] at hb9
 revert Hz
 obtain rfl : k = xs.length := by omega
 intro Hz
 refine wcf Hz ?_
 refine wp_exit ?_
 refine hK0 _ _ ?_
 refine regS Hz (.move rfl <| .assign rfl .nil) fun Az Hz => ?_
 refine rt1 Hz ?_
 rw [List.take_length] at hbe
 revert Hz
 subst hbe
 intro Hz
 exact ⟨_, _, rfl, m4.ok 9 _ rfl, m4.below⟩
theorem rnums13x (xs : List Int) (q : Option Addr) (cq : Nat) (w0 : World) (h0 : Rd (fun _ => True) w0 (.slice q xs.length cq) (.ns .i64 xs)) (hl : xs.length ≤ 1000000) (hxb : ∀ k, k < xs.length → 0 ≤ xs.getD k 0 ∧ xs.getD k 0 ≤ 9223372036854775807) :
   Calls Tryz.prog 88 #[.slice q xs.length cq] w0 fun e w' => ∃ (p : Option Addr) (c : Nat), e = .returned (.slice p (encs xs).length c) ∧ w'.ownsRow w0.heap.size 5 1 (.slice p (encs xs).length c) (encs xs).length ((encs xs).map (Value.int .u8)) ∧ Below w0.heap.size w0 w' := by
 refine ent1 Tryz.func88 rfl Tryz.ntmps88 fun Az Hz => ?_
 have m0 := MemOk.start (fun _ => False) w0
 refine regS Hz (.assign rfl .nil) fun Az Hz => ?_
 refine regS Hz (.assign rfl .nil) fun Az Hz => ?_
 refine wsk fun K0 hK0 => ?_
 refine regS Hz (.assign rfl .nil) fun Az Hz => ?_
 refine wp_block ?_
 refine wp_loop_ghost (fun g a w => ∃ (k : Nat) (b : List Int) (p : Option Addr) (c : Nat), k ≤ xs.length ∧ g = xs.length - k ∧ b = encs (xs.take k) ∧ Has 21 [(0, .slice q xs.length cq), (3, .slice p b.length c), (4, .int .i64 k)] a ∧ MemOk (cn w0) w0 [(9, .num (.slice p b.length c) 5 .u8 b)] w) (xs.length) ?_ ?_
 · have mz := m0.nilN 9 5 .u8
   exact ⟨0, [], _, _, Nat.zero_le _, rfl, rfl, Hz.only [0, 3, 4], mz.only [9]⟩
 clear Hz m0
 rintro g Az w4 ⟨k, b, p, c, hkl, hg, hbe, Hz, m4⟩
 refine wsk fun K1 hK1 => ?_
 refine regS Hz (.move rfl <| .move rfl <| .len rfl U30 <| .lss rfl rfl .nil) fun Az Hz => ?_
 refine bc Hz 8 ?_ ?_
 ·
  intro hb9 Hz; try simp only [QQ, Qax] at hb9
  have hk : k < xs.length := by omega
  have hxk := hxb k hk
  refine wct Hz ?_
  refine zss (hK1 _ _ ?_)
  refine wsk fun K2 hK2 => ?_
  refine wp_block ?_
  refine wp_region_lit ?_
  refine goCh Hz (.move rfl <| .move rfl <| .move rfl .nil) fun Az Hz => ?_
  obtain ⟨gx13, ox13, hp13, hl13, hrg13⟩ := h0.extN (k) hk
  revert Hz
  cases hp13
  intro Hz
  refine goCh Hz (.c rfl (fun _ h_ => y_idx h_ rfl rfl U30 fct10 (k) rfl hk) <| .loadAt1 (hrg13 m4 rfl) (q := 0) rfl rfl rfl U2 rfl <| .conv rfl U2 U149 (r := xs.getD k 0) (IntWalk.u64_in _ (by omega)) .nil) fun Az Hz => ?_
  refine plz (e_litN Hz m4 100 (k := .u64) rfl rfl U212 fct21 rfl rfl rfl rfl fun g17 Az w18 Hz m18 => ?_)
  have m19 := m18.freezeN 100 rfl
  refine plz (ecn Hz Tryz.func87 rfl m19 101 (rput_x [xs.getD k 0] _ _ _ ((m19.rd (i := 100) rfl).any) (by simp) (one64 (by omega))) fun p20 c20 Az w20 Hz m21 => ?_)
  refine plz (e_appN Hz m21 9 rfl rfl rfl (m21.numsO (i := 101) rfl) U22 fct19 (by decide) (by rw [hbe]; have h8 := encs_len (xs.take k); rw [List.length_take] at h8; have h9 := encs_len [xs.getD k 0]; rw [List.length_singleton] at h9; omega) rfl fun p23 c23 Az w24 Hz m24 => ?_)
  refine gz hK2 Hz (.assign rfl .nil) fun Az Hz => ?_
  replace Hz := Hz.oz [0, 3, 4]
  refine wp_region_lit ?_
  refine goCh Hz (.move rfl <| .inc (k + 1) <| .assign rfl .nil) fun Az Hz => ?_
  refine wpList_nil ?_
  show ∃ n', n' < _ ∧ _
  exact ⟨xs.length - (k + 1), by omega, k + 1, _, _, _, by omega, rfl, by rw [encs_snoc _ _ hk, ← hbe, encs_one], Hz.only [0, 3, 4], m24.only [9]⟩
 intro hb9 Hz; try simp only [QQ, Qax] at hb9
 revert Hz
 obtain rfl : k = xs.length := by omega
 intro Hz
 refine wcf Hz ?_
 refine wp_exit ?_
 refine hK0 _ _ ?_
 refine regS Hz (.move rfl <| .assign rfl .nil) fun Az Hz => ?_
 refine rt1 Hz ?_
 rw [List.take_length] at hbe
 revert Hz
 subst hbe
 intro Hz
 exact ⟨_, _, rfl, m4.ok 9 _ rfl, m4.below⟩
theorem rlump_x (xs : List Int) (q : Option Addr) (cq : Nat) (w0 : World) (h0 : Rd (fun _ => True) w0 (.slice q xs.length cq) (.ns .u8 xs)) (hl : xs.length ≤ 1000000) :
   Calls Tryz.prog 89 #[.slice q xs.length cq] w0 fun e w' => ∃ (p : Option Addr) (c : Nat), e = .returned (.slice p (enc xs.length ++ xs).length c) ∧ w'.ownsRow w0.heap.size 5 1 (.slice p (enc xs.length ++ xs).length c) (enc xs.length ++ xs).length ((enc xs.length ++ xs).map (Value.int .u8)) ∧ Below w0.heap.size w0 w' := by
 refine ent1 Tryz.func89 rfl Tryz.ntmps89 fun Az Hz => ?_
 have m0 := MemOk.start (fun _ => False) w0
 refine regS Hz (.assign rfl .nil) fun Az Hz => ?_
 refine zsr fun K0 hK0 => ?_
 refine goCh Hz (.move rfl <| .len rfl U22 <| .conv rfl U3 U149 (r := (xs.length : Int)) (IntWalk.u64_in _ (by omega)) .nil) fun Az Hz => ?_
 refine plz (e_litN Hz m0 20 (k := .u64) rfl rfl U212 fct21 rfl rfl rfl rfl fun g8 Az w9 Hz m9 => ?_)
 have m10 := m9.freezeN 20 rfl
 refine plz (ecn Hz Tryz.func87 rfl m10 21 (rput_x [(xs.length : Int)] _ _ _ ((m10.rd (i := 20) rfl).any) (by simp) (one64 (by omega))) fun p11 c11 Az w11 Hz m12 => ?_)
 refine goCh Hz (.move rfl .nil) fun Az Hz => ?_
 refine plz (e_appN Hz m12 21 rfl rfl rfl (h0.now' m12 rfl).ns_out.nums U22 fct19 (by decide) (by have h9 := encs_len [(xs.length : Int)]; rw [List.length_singleton] at h9; omega) rfl fun p15 c15 Az w16 Hz m16 => ?_)
 refine gz hK0 Hz (.assign rfl .nil) fun Az Hz => ?_
 refine rt1 Hz ?_
 have hE : encs [(xs.length : Int)] ++ xs = enc xs.length ++ xs := by rw [encs_one]
 rw [hE] at m16
 exact ⟨_, _, by rw [hE], m16.ok 21 _ rfl, m16.below⟩
theorem rplace_x (xs : List Int) (q : Option Addr) (cq : Nat) (w0 : World) (h0 : Rd (fun _ => True) w0 (.slice q xs.length cq) (.ns .i64 xs)) (hl : xs.length ≤ 1000000) (hxb : ∀ k, k < xs.length → 0 ≤ xs.getD k 0 ∧ xs.getD k 0 ≤ 9223372036854775807) :
   Calls Tryz.prog 59 #[.slice q xs.length cq] w0 fun e w' => ∃ (p : Option Addr) (c : Nat), e = .returned (.slice p (encs ((xs.length : Int) :: xs)).length c) ∧ w'.ownsRow w0.heap.size 5 1 (.slice p (encs ((xs.length : Int) :: xs)).length c) (encs ((xs.length : Int) :: xs)).length ((encs ((xs.length : Int) :: xs)).map (Value.int .u8)) ∧ Below w0.heap.size w0 w' := by
 refine ent1 Tryz.func59 rfl Tryz.ntmps59 fun Az Hz => ?_
 have m0 := MemOk.start (fun _ => False) w0
 refine regS Hz (.assign rfl .nil) fun Az Hz => ?_
 refine zsr fun K0 hK0 => ?_
 refine goCh Hz (.move rfl <| .len rfl U29 .nil) fun Az Hz => ?_
 refine plz (e_litN Hz m0 20 (k := .i64) rfl rfl U30 fct22 rfl rfl rfl rfl fun g6 Az w7 Hz m7 => ?_)
 have m8 := m7.freezeN 20 rfl
 refine plz (ecn Hz Tryz.func58 rfl m8 21 (rnums16x [(xs.length : Int)] _ _ _ ((m8.rd (i := 20) rfl).any) (by simp) (one63 (by omega))) fun p9 c9 Az w9 Hz m10 => ?_)
 refine gz hK0 Hz (.assign rfl .nil) fun Az Hz => ?_
 refine wsk fun K1 hK1 => ?_
 refine regS Hz (.assign rfl .nil) fun Az Hz => ?_
 refine wp_block ?_
 refine wp_loop_ghost (fun g a w => ∃ (k : Nat) (b : List Int) (p : Option Addr) (c : Nat), k ≤ xs.length ∧ g = xs.length - k ∧ b = encs ((xs.length : Int) :: xs.take k) ∧ Has 24 [(0, .slice q xs.length cq), (3, .slice p b.length c), (4, .int .i64 k)] a ∧ MemOk (cn w0) w0 [(9, .num (.slice p b.length c) 5 .u8 b)] w) (xs.length) ?_ ?_
 · exact ⟨0, _, _, _, Nat.zero_le _, rfl, by simp, Hz.only [0, 3, 4], m10.ren [(9, 21)] (by decide)⟩
 clear Hz m10
 rintro g Az w14 ⟨k, b, p, c, hkl, hg, hbe, Hz, m14⟩
 refine wsk fun K2 hK2 => ?_
 refine regS Hz (.move rfl <| .move rfl <| .len rfl U29 <| .lss rfl rfl .nil) fun Az Hz => ?_
 refine bc Hz 12 ?_ ?_
 ·
  intro hb19 Hz; try simp only [QQ, Qax] at hb19
  have hk : k < xs.length := by omega
  have hxk := hxb k hk
  refine wct Hz ?_
  refine zss (hK2 _ _ ?_)
  refine wsk fun K3 hK3 => ?_
  refine wp_block ?_
  refine wp_region_lit ?_
  refine goCh Hz (.move rfl <| .move rfl <| .move rfl .nil) fun Az Hz => ?_
  obtain ⟨gx23, ox23, hp23, hl23, hrg23⟩ := h0.extN (k) hk
  revert Hz
  cases hp23
  intro Hz
  refine goCh Hz (.c rfl (fun _ h_ => y_idx h_ rfl rfl U29 fct23 (k) rfl hk) <| .loadAt1 (hrg23 m14 rfl) (q := 0) rfl rfl rfl U3 rfl .nil) fun Az Hz => ?_
  refine plz (e_litN Hz m14 100 (k := .i64) rfl rfl U30 fct22 rfl rfl rfl rfl fun g26 Az w27 Hz m27 => ?_)
  have m28 := m27.freezeN 100 rfl
  refine plz (ecn Hz Tryz.func58 rfl m28 101 (rnums16x [xs.getD k 0] _ _ _ ((m28.rd (i := 100) rfl).any) (by simp) (one63 (by omega))) fun p29 c29 Az w29 Hz m30 => ?_)
  refine plz (e_appN Hz m30 9 rfl rfl rfl (m30.numsO (i := 101) rfl) U22 fct19 (by decide) (by rw [hbe]; have h8 := encs_len ((xs.length : Int) :: xs.take k); simp only [List.length_cons, List.length_take] at h8; have h9 := encs_len [xs.getD k 0]; rw [List.length_singleton] at h9; omega) rfl fun p32 c32 Az w33 Hz m33 => ?_)
  refine gz hK3 Hz (.assign rfl .nil) fun Az Hz => ?_
  replace Hz := Hz.oz [0, 3, 4]
  refine wp_region_lit ?_
  refine goCh Hz (.move rfl <| .inc (k + 1) <| .assign rfl .nil) fun Az Hz => ?_
  refine wpList_nil ?_
  show ∃ n', n' < _ ∧ _
  exact ⟨xs.length - (k + 1), by omega, k + 1, _, _, _, by omega, rfl, by rw [hbe, encs_cons _ (xs.take k), encs_cons _ (xs.take (k + 1)), encs_snoc _ _ hk, encs_one, List.append_assoc], Hz.only [0, 3, 4], m33.only [9]⟩
 intro hb19 Hz; try simp only [QQ, Qax] at hb19
 revert Hz
 obtain rfl : k = xs.length := by omega
 intro Hz
 refine wcf Hz ?_
 refine wp_exit ?_
 refine hK1 _ _ ?_
 refine regS Hz (.move rfl <| .assign rfl .nil) fun Az Hz => ?_
 refine rt1 Hz ?_
 rw [List.take_length] at hbe
 revert Hz
 subst hbe
 intro Hz
 exact ⟨_, _, rfl, m14.ok 9 _ rfl, m14.below⟩
theorem rputItems_x (es : List (Int × List Int)) (q : Option Addr) (nn cq : Nat) (w0 : World) (h0 : Rd (fun _ => True) w0 (.slice q nn cq) (.l 2 (es.map itD))) (hl : es.length ≤ 10000) (hok : ∀ e ∈ es, (0 ≤ e.1 ∧ e.1 ≤ 9223372036854775807) ∧ e.2.length ≤ 1000) :
   Calls Tryz.prog 60 #[.slice q nn cq] w0 fun e w' => ∃ (p : Option Addr) (c : Nat), e = .returned (.slice p (enc es.length ++ itemsE es).length c) ∧ w'.ownsRow w0.heap.size 5 1 (.slice p (enc es.length ++ itemsE es).length c) (enc es.length ++ itemsE es).length ((enc es.length ++ itemsE es).map (Value.int .u8)) ∧ Below w0.heap.size w0 w' := by
 obtain rfl : nn = es.length := by obtain ⟨pq, c9, hv, _⟩ := h0.l_shape; injection hv with _ e2 _; rw [List.length_map] at e2; exact e2
 refine ent1 Tryz.func60 rfl Tryz.ntmps60 fun Az Hz => ?_
 have m0 := MemOk.start (fun _ => False) w0
 refine regS Hz (.assign rfl .nil) fun Az Hz => ?_
 refine zsr fun K0 hK0 => ?_
 refine goCh Hz (.move rfl <| .len rfl U40 .nil) fun Az Hz => ?_
 refine plz (e_litN Hz m0 20 (k := .i64) rfl rfl U30 fct22 rfl rfl rfl rfl fun g6 Az w7 Hz m7 => ?_)
 have m8 := m7.freezeN 20 rfl
 refine plz (ecn Hz Tryz.func88 rfl m8 21 (rnums13x [(es.length : Int)] _ _ _ ((m8.rd (i := 20) rfl).any) (by simp) (one63 (by omega))) fun p9 c9 Az w9 Hz m10 => ?_)
 refine gz hK0 Hz (.assign rfl .nil) fun Az Hz => ?_
 refine wsk fun K1 hK1 => ?_
 refine regS Hz (.assign rfl .nil) fun Az Hz => ?_
 refine wp_block ?_
 refine wp_loop_ghost (fun g a w => ∃ (k : Nat) (b : List Int) (p : Option Addr) (c : Nat), k ≤ es.length ∧ g = es.length - k ∧ b = enc es.length ++ itemsE (es.take k) ∧ Has 32 [(0, .slice q es.length cq), (3, .slice p b.length c), (4, .int .i64 k)] a ∧ MemOk (cn w0) w0 [(9, .num (.slice p b.length c) 5 .u8 b)] w) (es.length) ?_ ?_
 · exact ⟨0, _, _, _, Nat.zero_le _, rfl, by rw [encs_one]; simp [itemsE], Hz.only [0, 3, 4], m10.ren [(9, 21)] (by decide)⟩
 clear Hz m10
 rintro g Az w14 ⟨k, b, p, c, hkl, hg, hbe, Hz, m14⟩
 refine wsk fun K2 hK2 => ?_
 refine regS Hz (.move rfl <| .move rfl <| .len rfl U40 <| .lss rfl rfl .nil) fun Az Hz => ?_
 refine bc Hz 12 ?_ ?_
 ·
  intro hb19 Hz; try simp only [QQ, Qax] at hb19
  have hk : k < es.length := by omega
  obtain ⟨⟨xb, xd⟩, hes⟩ : ∃ e, es[k]? = some e := ⟨_, List.getElem?_eq_getElem hk⟩
  have hed := hok _ (List.mem_of_getElem? hes)
  dsimp only at hed
  refine wct Hz ?_
  refine zss (hK2 _ _ ?_)
  refine wsk fun K3 hK3 => ?_
  refine wp_block ?_
  obtain ⟨gx21, ox21, vx21, hp21, hl21, hR21, hrg21⟩ := h0.extA (k) (r := [.v (.int .i64 xb), .ns .u8 xd]) (itD_get hes)
  revert Hz
  cases hp21
  rcases hR21 with _ | ⟨hd21_0, _ | ⟨hd21_1, _ | _⟩⟩
  obtain rfl := hd21_0.v_out
  clear hd21_0
  obtain ⟨p22, c22, hv22, hw22⟩ := hd21_1.ns_shape; subst hv22
  intro Hz
  obtain ⟨gx24, ox24, vx24, hp24, hl24, hR24, hrg24⟩ := h0.extA (k) (r := [.v (.int .i64 xb), .ns .u8 xd]) (itD_get hes)
  revert Hz
  cases hp24
  rcases hR24 with _ | ⟨hd24_0, _ | ⟨hd24_1, _ | _⟩⟩
  obtain rfl := hd24_0.v_out
  clear hd24_0
  obtain ⟨p25, c25, hv25, hw25⟩ := hd24_1.ns_shape; subst hv25
  intro Hz
  have m26 := m14.oz [9]
  refine region_p 17 (B := []) (m26.to trivial) m26 (by kernel_rfl) (fun w27 hP27 m27 => ?_); clear m26
  refine goR hP27 [0, 1, 2, 3, 4, 5, 9, 10, 11, 12, 13] [5, 13] 11 0 15935 Hz (m27.to trivial) (.move rfl <| .move rfl <| .move rfl <| .p (fun _ _ h_ => y_idx h_ rfl rfl U40 fct16 (k) rfl hk) <| .fieldAddrQ 0 rfl U111 rfl (s := 0) (by kernel_rfl) rfl <| .loadAt1 (fun _ h_ => (hrg21 h_ rfl)) (q := 0) rfl rfl rfl U3 rfl <| .move rfl <| .move rfl <| .p (fun _ _ h_ => y_idx h_ rfl rfl U40 fct16 (k) rfl hk) <| .fieldAddrQ 1 rfl U111 rfl (s := 0) (by kernel_rfl) rfl <| .loadAt1 (fun _ h_ => (hrg24 h_ rfl)) (q := 1) rfl rfl rfl U22 rfl .nil) fun Az Hz => ?_
  refine so 6 ?_
  refine e_litN Hz m27 102 (k := .i64) rfl rfl U30 fct22 rfl rfl rfl rfl fun g39 Az w40 Hz m40 => ?_
  refine ⟨m40.to trivial, ?_⟩
  have m41 := m40.freezeN 102 rfl
  refine so 7 ?_
  refine ecn Hz Tryz.func88 rfl m41 103 (rnums13x [xb] _ _ _ ((m41.rd (i := 102) rfl).any) (by simp) (one63 (by omega))) fun p42 c42 Az w42 Hz m43 => ?_
  refine ⟨m43.to trivial, ?_⟩
  refine so 8 ?_
  refine e_appN Hz m43 9 rfl rfl rfl (m43.numsO (i := 103) rfl) U22 fct19 (by decide) (by rw [hbe]; have h8 := itemsE_len (es.take k) (fun e he => (hok e (List.mem_of_mem_take he)).2); rw [List.length_take] at h8; have h9 := encs_len [xb]; rw [List.length_singleton] at h9; have h7 := (enc_len es.length).1; have h6 := (enc_len xd.length).1; simp only [List.length_append]; omega) rfl fun p45 c45 Az w46 Hz m46 => ?_
  refine ⟨m46.to trivial, ?_⟩
  refine so 14 ?_
  refine ecn Hz Tryz.func89 rfl m46 104 (rlump_x xd _ _ _ ((hd24_1.now' m46 rfl).any) (by omega)) fun p47 c47 Az w47 Hz m48 => ?_
  refine ⟨m48.to trivial, ?_⟩
  refine so 15 ?_
  refine e_appN Hz m48 9 rfl rfl rfl (m48.numsO (i := 104) rfl) U22 fct19 (by decide) (by rw [hbe]; have h8 := itemsE_len (es.take k) (fun e he => (hok e (List.mem_of_mem_take he)).2); rw [List.length_take] at h8; have h9 := encs_len [xb]; rw [List.length_singleton] at h9; have h7 := (enc_len es.length).1; have h6 := (enc_len xd.length).1; simp only [List.length_append]; omega) rfl fun p50 c50 Az w51 Hz m51 => ?_
  refine ⟨m51.to trivial, ?_⟩
  refine goA hP27 [16] 1 65535 131071 Hz (m51.to trivial) (.assign rfl .nil) fun Az Hz => ?_
  refine wpAnyE_done (by kernel_rfl) ?_ _
  refine hK3 _ _ ?_
  replace Hz := Hz.oz [0, 3, 4]
  refine wp_region_lit ?_
  refine goCh Hz (.move rfl <| .inc (k + 1) <| .assign rfl .nil) fun Az Hz => ?_
  refine wpList_nil ?_
  show ∃ n', n' < _ ∧ _
  exact ⟨es.length - (k + 1), by omega, k + 1, _, _, _, by omega, rfl, by rw [hbe, itemsE_snoc hes, encs_one]; simp only [itemE, List.append_assoc], Hz.only [0, 3, 4], m51.only [9]⟩
 intro hb19 Hz; try simp only [QQ, Qax] at hb19
 revert Hz
 obtain rfl : k = es.length := by omega
 intro Hz
 refine wcf Hz ?_
 refine wp_exit ?_
 refine hK1 _ _ ?_
 refine regS Hz (.move rfl <| .assign rfl .nil) fun Az Hz => ?_
 refine rt1 Hz ?_
 rw [List.take_length] at hbe
 revert Hz
 subst hbe
 intro Hz
 exact ⟨_, _, rfl, m14.ok 9 _ rfl, m14.below⟩
end Go.Proofs.YtamjnimaeecmoaaGreat.K
end
