/- General laws of walks. -/
import Derived.Test.YtamjnimaeecmoaaGreatG5
import Derived.Test.YtamjnimaeecmoaaGreatG3
namespace Go.Proofs.YtamjnimaeecmoaaGreat.K
open Go.ChangeShapes Go.WideShapes Go.ChangeAt Go.RowKit
set_option linter.unusedVariables false
set_option linter.unusedSimpArgs false
section
theorem fl71zad : flatS Tryz.prog 71 [.int .i64 0, .slice none 0 0] = true := by kernel_rfl
set_option maxRecDepth 100000
set_option maxHeartbeats 4000000
theorem zshape_x (vo ch cn sz : Int) (w0 : World) (hsh : ShOk vo ch cn sz) :
   Calls Tryz.prog 95 #[.int .i64 vo, .int .i64 ch, .int .i64 cn, .int .i64 sz] w0 fun e w' => e = .returned (.bool true) ∧ Below w0.heap.size w0 w' := by
 refine ent4 Tryz.func95 rfl Tryz.ntmps95 fun Az Hz => ?_
 have m0 := MemOk.start (fun _ => False) w0
 obtain ⟨⟨q1, q2⟩, ⟨q3, q4⟩, ⟨q5, q6⟩, ⟨q7, q8⟩⟩ := hsh
 refine regS Hz (.assign rfl .nil) fun Az Hz => ?_
 refine zsr fun K0 hK0 => ?_
 refine goCh Hz (.move rfl <| .geq rfl rfl <| .move rfl .nil) fun Az Hz => ?_
 refine bc Hz 11 ?_ ?_
 rotate_left
 · intro hb _; exact absurd hb (by first | (simp; done) | (simp; omega))
 clear Hz; intro _ Hz
 refine goCh Hz (.moveZ rfl <| .lssZ rfl rfl <| .pickT rfl rfl <| .move rfl .nil) fun Az Hz => ?_
 refine bc Hz 15 ?_ ?_
 rotate_left
 · intro hb _; exact absurd hb (by first | (simp; done) | (simp; omega))
 clear Hz; intro _ Hz
 refine goCh Hz (.moveZ rfl <| .geqZ rfl rfl <| .pickT rfl rfl <| .move rfl .nil) fun Az Hz => ?_
 refine bc Hz 19 ?_ ?_
 rotate_left
 · intro hb _; exact absurd hb (by first | (simp; done) | (simp; omega))
 clear Hz; intro _ Hz
 refine goCh Hz (.moveZ rfl <| .lssZ rfl rfl <| .pickT rfl rfl <| .move rfl .nil) fun Az Hz => ?_
 refine bc Hz 23 ?_ ?_
 rotate_left
 · intro hb _; exact absurd hb (by first | (simp; done) | (simp; omega))
 clear Hz; intro _ Hz
 refine goCh Hz (.moveZ rfl <| .geqZ rfl rfl <| .pickT rfl rfl <| .move rfl .nil) fun Az Hz => ?_
 refine bc Hz 27 ?_ ?_
 rotate_left
 · intro hb _; exact absurd hb (by first | (simp; done) | (simp; omega))
 clear Hz; intro _ Hz
 refine goCh Hz (.moveZ rfl <| .leqZ rfl rfl <| .pickT rfl rfl <| .move rfl .nil) fun Az Hz => ?_
 refine bc Hz 31 ?_ ?_
 rotate_left
 · intro hb _; exact absurd hb (by first | (simp; done) | (simp; omega))
 clear Hz; intro _ Hz
 refine goCh Hz (.moveZ rfl <| .geqZ rfl rfl <| .pickT rfl rfl <| .move rfl .nil) fun Az Hz => ?_
 refine bc Hz 35 ?_ ?_
 rotate_left
 · intro hb _; exact absurd hb (by first | (simp; done) | (simp; omega))
 clear Hz; intro _ Hz
 refine gz hK0 Hz (.moveZ rfl <| .leqZ rfl rfl <| .pickT rfl rfl <| .assign rfl <| .nil) fun Az Hz => ?_
 refine rt1 Hz ?_
 exact ⟨by (first | rfl | (simp; done) | (simp; omega)), m0.below⟩
theorem zpright_x (X : Cx) (vo ch cn sz fr to fl : Int) (W : List (Int × List (Int × List Int))) (pw : Option Addr) (nw cw : Nat) (w0 : World) (hP : PuOk vo ch cn sz fr to fl W) (m0 : MemOk X w0 [(1, .dat (.slice pw nw cw) (.l 2 (W.map wrD)))] w0) :
   Calls Tryz.prog 66 #[.agg #[.int .i64 vo, .int .i64 ch, .int .i64 cn, .int .i64 sz, .int .i64 fr, .int .i64 to, .int .i64 fl, .slice pw nw cw]] w0 fun e w' => e = .returned (.bool true) ∧ MemOk X w0 [(1, .dat (.slice pw nw cw) (.l 2 (W.map wrD)))] w' := by
 refine ent1 Tryz.func66 rfl Tryz.ntmps66 fun Az Hz => ?_
 have hW := wpre_len hP
 have hnw : nw = W.length := nnOf (m0.rd (i := 1) rfl)
 revert Hz
 subst hnw
 intro Hz
 have hP9 := hP
 obtain ⟨p1, ⟨p2, p3⟩, ⟨p4, p5⟩, ⟨p6, p7⟩, p8, -⟩ := hP9
 refine zsr fun K0 hK0 => ?_
 refine plz (e_box Hz m0 30 (cs := [_, _, _, _, _, _, _, _]) rfl rfl rfl fun g1 Az w2 Hz m2 _ _ => ?_)
 refine gz hK0 Hz (.assign rfl .nil) fun Az Hz => ?_
 refine wsk fun K1 hK1 => ?_
 refine zsr fun K2 hK2 => ?_
 refine goCh Hz (.fa 0 rfl U90 <| .lb m2 30 U3 rfl rfl rfl <| .fa 1 rfl U90 <| .lb m2 30 U3 rfl rfl rfl <| .fa 2 rfl U90 <| .lb m2 30 U3 rfl rfl rfl <| .fa 3 rfl U90 <| .lb m2 30 U3 rfl rfl rfl .nil) fun Az Hz => ?_
 refine plz (ecb Hz Tryz.func95 rfl m2 (zshape_x _ _ _ _ _ hP.1) fun Az w20 Hz m21 => ?_)
 refine goCh Hz (.not rfl <| .move rfl <| .faZ 4 rfl U90 <| .loadB1Z m21 (i := 30) rfl rfl rfl U2 rfl <| .lssZ rfl rfl <| .pickF rfl rfl <| .move rfl .nil) fun Az Hz => ?_
 refine bc Hz 21 ?_ ?_
 · intro hb _; exact absurd hb (by first | (simp; done) | (simp; omega))
 clear Hz; intro _ Hz
 refine goCh Hz (.faZ 4 rfl U90 <| .loadB1Z m21 (i := 30) rfl rfl rfl U2 rfl <| .faZ 5 rfl U90 <| .loadB1Z m21 (i := 30) rfl rfl rfl U2 rfl <| .gtrZ rfl rfl <| .pickF rfl rfl <| .move rfl .nil) fun Az Hz => ?_
 refine bc Hz 28 ?_ ?_
 · intro hb _; exact absurd hb (by first | (simp; done) | (simp; omega))
 clear Hz; intro _ Hz
 refine goCh Hz (.faZ 5 rfl U90 <| .loadB1Z m21 (i := 30) rfl rfl rfl U2 rfl <| .gtrZ rfl rfl <| .pickF rfl rfl <| .move rfl .nil) fun Az Hz => ?_
 refine bc Hz 33 ?_ ?_
 · intro hb _; exact absurd hb (by first | (simp; done) | (simp; omega))
 clear Hz; intro _ Hz
 refine goCh Hz (.faZ 6 rfl U90 <| .loadB1Z m21 (i := 30) rfl rfl rfl U2 rfl <| .lssZ rfl rfl <| .pickF rfl rfl <| .move rfl .nil) fun Az Hz => ?_
 refine bc Hz 38 ?_ ?_
 · intro hb _; exact absurd hb (by first | (simp; done) | (simp; omega))
 clear Hz; intro _ Hz
 refine goCh Hz (.faZ 6 rfl U90 <| .loadB1Z m21 (i := 30) rfl rfl rfl U2 rfl <| .faZ 5 rfl U90 <| .loadB1Z m21 (i := 30) rfl rfl rfl U2 rfl <| .gtrZ rfl rfl <| .pickF rfl rfl <| .move rfl .nil) fun Az Hz => ?_
 refine bc Hz 45 ?_ ?_
 · intro hb _; exact absurd hb (by first | (simp; done) | (simp; omega))
 clear Hz; intro _ Hz
 refine gz hK2 Hz (.faZ 7 rfl U90 <| .loadB1Z m21 (i := 30) rfl rfl rfl U31 rfl <| .lenZ rfl U31 <| .gtrZ rfl rfl <| .pickF rfl rfl <| .nil) fun Az Hz => ?_
 refine bc Hz 50 ?_ ?_
 · intro hb _; exact absurd hb (by first | (simp; done) | (simp; omega))
 clear Hz; intro _ Hz
 refine wcf Hz ?_
 refine zss (hK1 _ _ ?_)
 replace Hz := Hz.oz [1, 2]
 refine regS Hz (.fa 4 rfl U90 <| .lb m21 30 U2 rfl rfl rfl <| .assign rfl .nil) fun Az Hz => ?_
 refine wsk fun K3 hK3 => ?_
 refine regS Hz (.assign rfl .nil) fun Az Hz => ?_
 refine wp_block ?_
 refine wp_loop_ghost (fun g a w => ∃ (k gP : Nat), k ≤ W.length ∧ g = W.length - k ∧ Has 88 [(1, .pointer (some ⟨gP, 0, none⟩)), (3, .int .i64 (if k = 0 then fr else (W.getD (k - 1) w1).1)), (4, .int .i64 k)] a ∧ MemOk X w0 [(1, .dat (.slice pw W.length cw) (.l 2 (W.map wrD))), (2, .box gP 90 [.int .i64 vo, .int .i64 ch, .int .i64 cn, .int .i64 sz, .int .i64 fr, .int .i64 to, .int .i64 fl, .slice pw W.length cw])] w) (W.length) ?_ ?_
 · exact ⟨0, _, Nat.zero_le _, rfl, Hz.only [1, 3, 4], m21.ren [(1, 1), (2, 30)] (by decide)⟩
 clear Hz m21
 rintro g Az w70 ⟨k, gP, hkl, hg, Hz, m70⟩
 refine wsk fun K4 hK4 => ?_
 refine regS Hz (.move rfl <| .fa 7 rfl U90 <| .lb m70 2 U31 rfl rfl rfl <| .len rfl U31 <| .lss rfl rfl .nil) fun Az Hz => ?_
 refine bc Hz 57 ?_ ?_
 ·
  intro hb76 Hz; try simp only [QQ, Qax] at hb76
  have hk : k < W.length := by have := hb76; first | omega | (simp at this; omega)
  obtain ⟨⟨xs, xl⟩, hes⟩ : ∃ e, W[k]? = some e := ⟨_, List.getElem?_eq_getElem hk⟩
  have hxl : xl.length ≤ 1000000 := hW _ (List.mem_of_getElem? hes)
  have hx9 : W.getD k w1 = (xs, xl) := by rw [List.getD, hes]; rfl
  have hpk := hP.2.2.2.2.2 k hk
  rw [hx9] at hpk
  dsimp only at hpk
  refine wct Hz ?_
  refine zss (hK4 _ _ ?_)
  refine wsk fun K5 hK5 => ?_
  refine wp_block ?_
  refine zsr fun K6 hK6 => ?_
  refine goCh Hz (.fa 7 rfl U90 <| .lb m70 2 U31 rfl rfl rfl <| .move rfl .nil) fun Az Hz => ?_
  obtain ⟨b84, o84, vs84, hp84, hR84, ho84, m84⟩ := m70.openR (i := 1) rfl (k) (r := [.v (.int .i64 xs), .l 2 (xl.map itD)]) (wrD_get hes) 100 rfl
  revert Hz
  cases hp84; clear m70 ho84
  rcases hR84 with _ | ⟨hd84_0, _ | ⟨hd84_1, _ | _⟩⟩
  obtain rfl := hd84_0.v_out
  clear hd84_0
  obtain ⟨p85, c85, hv85, hc85⟩ := hd84_1.l_shape; subst hv85
  intro Hz
  have m85 := m84.dat 101 rfl (hd84_1.cast (fun _ h => (free_add rfl h))); clear m84 hd84_1
  refine goCh Hz (.c rfl (fun _ h_ => y_idx h_ rfl rfl U31 fct15 (k) rfl hk) <| .loadCR m85 (i := 100) rfl rfl U109 rfl fct15 .nil) fun Az Hz => ?_
  refine plz (e_alloc Hz m85 102 fct18 rfl fun g88 Az w89 Hz m89 _ _ => ?_)
  refine plz (stw Hz m89 102 fct15 fun w90 m90 _ => ?_)
  refine znl (hK6 _ _ ?_)
  refine wsk fun K7 hK7 => ?_
  replace Hz := Hz.oz [1, 3, 4, 5]
  refine zsr fun K8 hK8 => ?_
  refine goCh Hz (.fa 0 rfl U109 <| .lb m90 102 U2 rfl rfl rfl <| .move rfl <| .leq rfl rfl <| .move rfl .nil) fun Az Hz => ?_
  refine bc Hz 69 ?_ ?_
  · intro hb _; exact absurd hb (by have h7 := hpk.1; revert h7; generalize (if k = 0 then fr else (W.getD (k - 1) w1).1) = z; intro h7; simp; omega)
  clear Hz; intro _ Hz
  refine goCh Hz (.faZ 0 rfl U109 <| .loadB1Z m90 (i := 102) rfl rfl rfl U2 rfl <| .faZ 5 rfl U90 <| .loadB1Z m90 (i := 2) rfl rfl rfl U2 rfl <| .gtrZ rfl rfl <| .pickF rfl rfl <| .move rfl .nil) fun Az Hz => ?_
  refine bc Hz 76 ?_ ?_
  · intro hb _; exact absurd hb (by first | (simp; done) | (simp; omega))
  clear Hz; intro _ Hz
  refine goCh Hz (.faZ 2 rfl U90 <| .loadB1Z m90 (i := 2) rfl rfl rfl U3 rfl <| .faZ 3 rfl U90 <| .loadB1Z m90 (i := 2) rfl rfl rfl U3 rfl <| .faZ 1 rfl U109 <| .loadB1Z m90 (i := 102) rfl rfl rfl U40 rfl .nil) fun Az Hz => ?_
  refine stz Hz (ecl Hz Tryz.func96 rfl (ritems_any _ _ xl _ _ _ _ (m90.rd (i := 101) rfl).any (by omega)) ?_)
  rintro e w117 ⟨bi9, rfl, hbi, hb117⟩
  revert Hz
  obtain rfl : bi9 = true := hbi.2 hpk.2.2
  intro Hz
  have m118 := m90.later hb117
  refine ⟨_, rfl, ?_⟩; intro Az Hz
  refine gz hK8 Hz (.notZ rfl <| .pickF rfl rfl <| .nil) fun Az Hz => ?_
  refine wcf Hz ?_
  refine zss (hK7 _ _ ?_)
  replace Hz := Hz.oz [1, 3, 4, 5]
  refine wp_region_lit ?_
  refine gz hK5 Hz (.fa 0 rfl U109 <| .lb m118 102 U2 rfl rfl rfl <| .assign rfl <| .nil) fun Az Hz => ?_
  refine wp_region_lit ?_
  refine goCh Hz (.move rfl <| .inc (k + 1) <| .assign rfl .nil) fun Az Hz => ?_
  refine wpList_nil ?_
  show ∃ n', n' < _ ∧ _
  have hla : xs = (if k + 1 = 0 then fr else (W.getD (k + 1 - 1) w1).1) := by rw [if_neg (by omega), Nat.add_sub_cancel, List.getD, hes]; rfl
  rw [hla] at Hz
  exact ⟨W.length - (k + 1), by omega, k + 1, _, by omega, rfl, Hz.only [1, 3, 4], m118.only [1, 2]⟩
 intro hb76 Hz; try simp only [QQ, Qax] at hb76
 revert Hz
 obtain rfl : k = W.length := by have := hb76; first | omega | (simp at this; omega)
 intro Hz
 refine wcf Hz ?_
 refine wp_exit ?_
 refine hK3 _ _ ?_
 refine regS Hz (.assign rfl .nil) fun Az Hz => ?_
 refine rt1 Hz ?_
 exact ⟨rfl, m70.only [1]⟩
theorem zadd_x (X : Cx) (h : List Ver) (s9 : Int) (d : List Int) (p pd : Option Addr) (nn c cd : Nat) (w0 : World) (hl : h.length ≤ 1000000) (hd : d.length ≤ 1000000) (m0 : MemOk X w0 [(1, .dat (.slice p nn c) (.l 2 (h.map itD))), (2, .dat (.slice pd d.length cd) (.ns .u8 d))] w0) :
   Calls Tryz.prog 67 #[.slice p nn c, .int .i64 s9, .slice pd d.length cd] w0 fun e w' => ∃ (p9 : Option Addr) (c9 : Nat), e = .returned (.slice p9 (addF h s9 d).length c9) ∧ MemOk X w0 [(1, .dat (.slice p nn c) (.l 2 (h.map itD))), (2, .dat (.slice pd d.length cd) (.ns .u8 d)), (9, .dat (.slice p9 (addF h s9 d).length c9) (.l 2 ((addF h s9 d).map itD)))] w' := by
 refine ent3 Tryz.func67 rfl Tryz.ntmps67 fun Az Hz => ?_
 have hnn : nn = h.length := nnOf (m0.rd (i := 1) rfl)
 revert Hz
 subst hnn
 intro Hz
 refine regS Hz (.assign rfl .nil) fun Az Hz => ?_
 refine wsk fun K0 hK0 => ?_
 refine zsr fun K1 hK1 => ?_
 refine goCh Hz (.move rfl <| .lss rfl rfl <| .move rfl .nil) fun Az Hz => ?_
 refine bc Hz 9 ?_ ?_
 ·
  intro hb8 Hz; try simp only [QQ, Qax] at hb8
  have htn : ¬ (1 ≤ s9 ∧ s9 ≤ 1099511627776) := by have := hb8; first | omega | (simp at this; omega)
  refine goCh Hz (.sk <| .sk <| .pickT rfl rfl <| .move rfl <| .sk <| .sk <| .sk <| .sk .nil) fun Az Hz => ?_
  refine st_skipU Hz rfl rfl rfl rfl fun Az Hz => ?_
  refine st_skipU Hz rfl rfl rfl rfl fun Az Hz => ?_
  refine st_skipU Hz rfl rfl rfl rfl fun Az Hz => ?_
  refine st_skipU Hz rfl rfl rfl rfl fun Az Hz => ?_
  refine st_skipU Hz rfl rfl rfl rfl fun Az Hz => ?_
  refine st_skipU Hz rfl rfl rfl rfl fun Az Hz => ?_
  refine st_skipU Hz rfl rfl rfl rfl fun Az Hz => ?_
  refine st_skipU Hz rfl rfl rfl rfl fun Az Hz => ?_
  refine st_skipU Hz rfl rfl rfl rfl fun Az Hz => ?_
  refine gz hK1 Hz (.sk <| .pickT rfl rfl <| .nil) fun Az Hz => ?_
  refine wct Hz ?_
  replace Hz := Hz.oz [0, 1, 2, 6, 9, 12, 13, 17, 28]
  refine regS Hz (.move rfl <| .assign rfl .nil) fun Az Hz => ?_
  refine rt1 Hz ?_
  have hAd : addF h s9 d = h := by unfold addF; rw [if_neg (fun h9 => htn h9.1)]
  have m31 := m0.dat 9 rfl (m0.rd (i := 1) rfl)
  rw [hAd]
  exact ⟨_, _, rfl, m31.ren [(1, 1), (2, 2), (9, 9)] (by decide)⟩
 intro hb8 Hz; try simp only [QQ, Qax] at hb8
 have ht1 : 1 ≤ s9 := by have := hb8; first | omega | (simp at this; omega)
 refine goCh Hz (.moveZ rfl <| .gtrZ rfl rfl <| .pickF rfl rfl <| .move rfl .nil) fun Az Hz => ?_
 refine bc Hz 13 ?_ ?_
 ·
  intro hb36 Hz; try simp only [QQ, Qax] at hb36
  have htn : ¬ (1 ≤ s9 ∧ s9 ≤ 1099511627776) := by have := hb36; first | omega | (simp at this; omega)
  refine goCh Hz (.sk <| .sk <| .sk <| .sk .nil) fun Az Hz => ?_
  refine st_skipU Hz rfl rfl rfl rfl fun Az Hz => ?_
  refine st_skipU Hz rfl rfl rfl rfl fun Az Hz => ?_
  refine st_skipU Hz rfl rfl rfl rfl fun Az Hz => ?_
  refine st_skipU Hz rfl rfl rfl rfl fun Az Hz => ?_
  refine st_skipU Hz rfl rfl rfl rfl fun Az Hz => ?_
  refine st_skipU Hz rfl rfl rfl rfl fun Az Hz => ?_
  refine st_skipU Hz rfl rfl rfl rfl fun Az Hz => ?_
  refine st_skipU Hz rfl rfl rfl rfl fun Az Hz => ?_
  refine st_skipU Hz rfl rfl rfl rfl fun Az Hz => ?_
  refine gz hK1 Hz (.sk <| .pickT rfl rfl <| .nil) fun Az Hz => ?_
  refine wct Hz ?_
  replace Hz := Hz.oz [0, 1, 2, 6, 9, 12, 13, 17, 28]
  refine regS Hz (.move rfl <| .assign rfl .nil) fun Az Hz => ?_
  refine rt1 Hz ?_
  have hAd : addF h s9 d = h := by unfold addF; rw [if_neg (fun h9 => htn h9.1)]
  have m55 := m0.dat 9 rfl (m0.rd (i := 1) rfl)
  rw [hAd]
  exact ⟨_, _, rfl, m55.ren [(1, 1), (2, 2), (9, 9)] (by decide)⟩
 intro hb36 Hz; try simp only [QQ, Qax] at hb36
 have htm : 1 ≤ s9 ∧ s9 ≤ 1099511627776 := by have := hb36; first | omega | (simp at this; omega)
 refine goCh Hz (.moveZ rfl <| .lenZ rfl U69 <| .gtrZ rfl rfl <| .moveZ rfl .nil) fun Az Hz => ?_
 refine bc Hz 17 ?_ ?_
 ·
  intro hb60 Hz; try simp only [QQ, Qax] at hb60
  have hl0 : 0 < h.length := by have := hb60; first | omega | (simp at this; omega)
  obtain ⟨⟨xs, xd⟩, hes⟩ : ∃ e, h[h.length - 1]? = some e := ⟨_, List.getElem?_eq_getElem (by omega)⟩
  have hx9 : (h.getD (h.length - 1) v0).1 = xs := by rw [List.getD, hes]; rfl
  refine goCh Hz (.moveZ rfl <| .moveZ rfl <| .moveZ rfl <| .lenZ rfl U69 <| .subZ rfl rfl (r := ((h.length - 1 : Nat) : Int)) (by rw [IntWalk.i64_in _ (by omega)]; omega) .nil) fun Az Hz => ?_
  obtain ⟨b66, o66, vs66, hp66, hR66, ho66, m66⟩ := m0.openR (i := 1) rfl (h.length - 1) (r := [.v (.int .i64 xs), .ns .u8 xd]) (itD_get hes) 20 rfl
  revert Hz
  cases hp66; clear m0 ho66
  rcases hR66 with _ | ⟨hd66_0, _ | ⟨hd66_1, _ | _⟩⟩
  obtain rfl := hd66_0.v_out
  clear hd66_0
  obtain ⟨p67, c67, hv67, hc67⟩ := hd66_1.ns_shape; subst hv67
  intro Hz
  have m67 := m66.dat 21 rfl (hd66_1.cast (fun _ h => (free_add rfl h))); clear m66 hd66_1
  refine gz hK1 Hz (.g rfl rfl rfl rfl (fun _ h_ => y_idx h_ rfl rfl U69 fct0 (h.length - 1) rfl (by omega)) <| .fieldAddrQZ 0 rfl U71 rfl (s := 0) (by kernel_rfl) rfl <| .loadC0Z m67 (i := 20) rfl rfl U2 rfl <| .leqZ rfl rfl <| .pickTZ rfl rfl <| .pickF rfl rfl <| .nil) fun Az Hz => ?_
  refine bc Hz 28 ?_ ?_
  ·
   intro hb74 Hz; try simp only [QQ, Qax] at hb74
   have hbad : s9 ≤ xs := by have := hb74; first | omega | (simp at this; omega)
   refine wct Hz ?_
   replace Hz := Hz.oz [0, 1, 2, 6, 9, 12, 13, 17, 28]
   refine regS Hz (.move rfl <| .assign rfl .nil) fun Az Hz => ?_
   refine rt1 Hz ?_
   have hAd : addF h s9 d = h := by unfold addF; rw [if_neg (fun h9 => h9.2.elim (fun e => by rw [e] at hl0; simp at hl0) (fun h8 => by omega))]
   have m78 := m67.dat 9 rfl (m67.rd (i := 1) rfl)
   rw [hAd]
   exact ⟨_, _, rfl, m78.ren [(1, 1), (2, 2), (9, 9)] (by decide)⟩
  intro hb74 Hz; try simp only [QQ, Qax] at hb74
  have hgood : xs < s9 := by have := hb74; first | omega | (simp at this; omega)
  refine wcf Hz ?_
  refine zss (hK0 _ _ ?_)
  replace Hz := Hz.oz [0, 1, 2, 6, 9, 12, 13, 17, 28]
  refine zsr fun K2 hK2 => ?_
  refine goCh Hz (.move rfl .nil) fun Az Hz => ?_
  have m82 := m67.nilR 22 71 2
  refine plz (e_appR Hz m82 22 rfl rfl rfl (m82.rd (i := 1) rfl) U69 fct44 rfl rfl (by decide) (by simp only [List.length_append, List.length_nil, List.length_map, List.length_cons]; omega) rfl fun p83 c83 Az w84 Hz m84 => ?_)
  refine goCh Hz (.move rfl <| .move rfl .nil) fun Az Hz => ?_
  refine plz (e_app0M Hz m84 23 rfl rfl (m84.nums (i := 2) rfl) U22 fct19 (by decide) (by omega) rfl fun p87 c87 Az w88 Hz m88 => ?_)
  refine goCh Hz (.build rfl fct43 fl71zad rfl (by dsimp only [setL, List.set] <;> rfl) .nil) fun Az Hz => ?_
  have m91 := m88.freezeN 23 rfl
  refine plz (e_litR Hz m91 24 (mm := 2) rfl (.cons rfl rfl (.cons (.v _) (.cons (m91.rd (i := 23) rfl) .nil)) .nil) U69 fct44 rfl rfl rfl rfl rfl fun g90 Az w92 Hz m92 => ?_)
  have m94 := m92.freezeR 24 rfl
  refine plz (e_appR Hz m94 22 rfl rfl rfl (m94.rd (i := 24) rfl) U69 fct44 rfl rfl (by decide) (by simp only [List.length_append, List.length_nil, List.length_map, List.length_cons]; omega) rfl fun p93 c93 Az w95 Hz m95 => ?_)
  refine gz hK2 Hz (.assign rfl .nil) fun Az Hz => ?_
  refine rt1 Hz ?_
  have hAd : addF h s9 d = h ++ [(s9, d)] := by unfold addF; rw [if_pos ⟨htm, .inr (by omega)⟩]
  have m97 := m95.freezeR 22 rfl
  have hE : h.map itD ++ [[D.v (.int .i64 s9), .ns .u8 d]] = (h ++ [(s9, d)]).map itD := by rw [List.map_append]; rfl
  try rw [List.nil_append] at m97
  try simp only [List.nil_append] at m97
  rw [hE] at m97
  try simp only [List.nil_append]
  rw [hE]
  rw [List.length_map] at m97
  rw [List.length_map, hAd]
  exact ⟨_, _, rfl, m97.ren [(1, 1), (2, 2), (9, 22)] (by decide)⟩
 intro hb60 Hz; try simp only [QQ, Qax] at hb60
 have hnil : h = [] := List.length_eq_zero_iff.1 (by have := hb60; first | omega | (simp at this; omega) | (simp at this; simp [this]))
 refine gz hK1 Hz (.sk <| .sk <| .sk <| .sk <| .sk <| .sk <| .sk <| .sk <| .sk <| .pickFZ rfl rfl <| .pickF rfl rfl <| .nil) fun Az Hz => ?_
 refine wcf Hz ?_
 refine zss (hK0 _ _ ?_)
 replace Hz := Hz.oz [0, 1, 2, 6, 9, 12, 13, 17, 28]
 refine zsr fun K3 hK3 => ?_
 refine goCh Hz (.move rfl .nil) fun Az Hz => ?_
 have m112 := m0.nilR 20 71 2
 refine plz (e_appR Hz m112 20 rfl rfl rfl (m112.rd (i := 1) rfl) U69 fct44 rfl rfl (by decide) (by simp only [List.length_append, List.length_nil, List.length_map, List.length_cons]; omega) rfl fun p113 c113 Az w114 Hz m114 => ?_)
 refine goCh Hz (.move rfl <| .move rfl .nil) fun Az Hz => ?_
 refine plz (e_app0M Hz m114 21 rfl rfl (m114.nums (i := 2) rfl) U22 fct19 (by decide) (by omega) rfl fun p117 c117 Az w118 Hz m118 => ?_)
 refine goCh Hz (.build rfl fct43 fl71zad rfl (by dsimp only [setL, List.set] <;> rfl) .nil) fun Az Hz => ?_
 have m121 := m118.freezeN 21 rfl
 refine plz (e_litR Hz m121 22 (mm := 2) rfl (.cons rfl rfl (.cons (.v _) (.cons (m121.rd (i := 21) rfl) .nil)) .nil) U69 fct44 rfl rfl rfl rfl rfl fun g120 Az w122 Hz m122 => ?_)
 have m124 := m122.freezeR 22 rfl
 refine plz (e_appR Hz m124 20 rfl rfl rfl (m124.rd (i := 22) rfl) U69 fct44 rfl rfl (by decide) (by simp only [List.length_append, List.length_nil, List.length_map, List.length_cons]; omega) rfl fun p123 c123 Az w125 Hz m125 => ?_)
 refine gz hK3 Hz (.assign rfl .nil) fun Az Hz => ?_
 refine rt1 Hz ?_
 have hAd : addF h s9 d = h ++ [(s9, d)] := by unfold addF; rw [if_pos ⟨htm, .inl hnil⟩]
 have m127 := m125.freezeR 20 rfl
 have hE : h.map itD ++ [[D.v (.int .i64 s9), .ns .u8 d]] = (h ++ [(s9, d)]).map itD := by rw [List.map_append]; rfl
 try rw [List.nil_append] at m127
 try simp only [List.nil_append] at m127
 rw [hE] at m127
 try simp only [List.nil_append]
 rw [hE]
 rw [List.length_map] at m127
 rw [List.length_map, hAd]
 exact ⟨_, _, rfl, m127.ren [(1, 1), (2, 2), (9, 20)] (by decide)⟩
theorem zprune_x (X : Cx) (h : List Ver) (f : Int) (p : Option Addr) (nn c : Nat) (w0 : World) (hl : h.length ≤ 1000000) (hr : Rise h) (m0 : MemOk X w0 [(1, .dat (.slice p nn c) (.l 2 (h.map itD)))] w0) :
   Calls Tryz.prog 68 #[.slice p nn c, .int .i64 f] w0 fun e w' => ∃ (p9 : Option Addr) (c9 : Nat), e = .returned (.slice p9 (pruneF h f).length c9) ∧ MemOk X w0 [(1, .dat (.slice p nn c) (.l 2 (h.map itD))), (9, .dat (.slice p9 (pruneF h f).length c9) (.l 2 ((pruneF h f).map itD)))] w' := by
 refine ent2 Tryz.func68 rfl Tryz.ntmps68 fun Az Hz => ?_
 have hnn : nn = h.length := nnOf (m0.rd (i := 1) rfl)
 revert Hz
 subst hnn
 intro Hz
 refine regS Hz (.assign rfl .nil) fun Az Hz => ?_
 refine regS Hz (.assign rfl .nil) fun Az Hz => ?_
 refine wsk fun K0 hK0 => ?_
 refine regS Hz (.assign rfl .nil) fun Az Hz => ?_
 refine wp_block ?_
 refine wp_loop_ghost (fun g a w => ∃ (i : Nat) (p9 : Option Addr) (c9 : Nat), i ≤ h.length ∧ g = h.length - i ∧ Has 36 [(0, .slice p h.length c), (1, .int .i64 f), (5, .slice p9 ((rpr h f i).map itD).length c9), (6, .int .i64 i)] a ∧ MemOk X w0 [(1, .dat (.slice p h.length c) (.l 2 (h.map itD))), (9, .row (.slice p9 ((rpr h f i).map itD).length c9) 71 2 ((rpr h f i).map itD))] w) (h.length) ?_ ?_
 · have mz := m0.nilR 9 71 2
   have hz : ([] : List (List D)) = ((rpr h f 0).map itD) := by rw [rpr_zero]; rfl
   have hz2 : 0 = ((rpr h f 0).map itD).length := by rw [rpr_zero]; rfl
   rw [hz] at mz
   exact ⟨0, none, 0, Nat.zero_le _, rfl, by rw [← hz2]; exact Hz.only [0, 1, 5, 6], by rw [← hz2]; exact mz.only [1, 9]⟩
 clear Hz m0
 rintro g Az w4 ⟨i, p9, c9, hil, hg, Hz, m4⟩
 refine wsk fun K1 hK1 => ?_
 refine regS Hz (.move rfl <| .move rfl <| .len rfl U69 <| .lss rfl rfl .nil) fun Az Hz => ?_
 refine bc Hz 10 ?_ ?_
 ·
  intro hb9 Hz; try simp only [QQ, Qax] at hb9
  have hi : i < h.length := by have := hb9; first | omega | (simp at this; omega)
  obtain ⟨⟨xs, xd⟩, hes⟩ : ∃ e, h[i]? = some e := ⟨_, List.getElem?_eq_getElem hi⟩
  refine wct Hz ?_
  refine zss (hK1 _ _ ?_)
  refine wsk fun K2 hK2 => ?_
  refine wp_block ?_
  refine zsr fun K3 hK3 => ?_
  refine goCh Hz (.move rfl <| .inc (i + 1) <| .move rfl <| .len rfl U69 <| .geq rfl rfl <| .move rfl .nil) fun Az Hz => ?_
  refine bc Hz 18 ?_ ?_
  ·
   intro hb22 Hz; try simp only [QQ, Qax] at hb22
   have hlast : h.length ≤ i + 1 := by have := hb22; first | omega | (simp at this; omega)
   have hkeep : upN h f ≤ i + 1 := by have := upN_le h f; omega
   refine gz hK3 Hz (.sk <| .sk <| .sk <| .sk <| .sk <| .sk <| .sk <| .sk <| .pickT rfl rfl <| .nil) fun Az Hz => ?_
   refine wct Hz ?_
   replace Hz := Hz.oz [0, 1, 5, 6, 27]
   refine wp_region_lit ?_
   refine goCh Hz (.move rfl <| .move rfl <| .move rfl .nil) fun Az Hz => ?_
   obtain ⟨b36, o36, vs36, hp36, hR36, ho36, m36⟩ := m4.openR (i := 1) rfl (i) (r := [.v (.int .i64 xs), .ns .u8 xd]) (itD_get hes) 100 rfl
   revert Hz
   cases hp36; clear m4 ho36
   rcases hR36 with _ | ⟨hd36_0, _ | ⟨hd36_1, _ | _⟩⟩
   obtain rfl := hd36_0.v_out
   clear hd36_0
   obtain ⟨p37, c37, hv37, hc37⟩ := hd36_1.ns_shape; subst hv37
   intro Hz
   have m37 := m36.dat 101 rfl (hd36_1.cast (fun _ h => (free_add rfl h))); clear m36 hd36_1
   refine goCh Hz (.c rfl (fun _ h_ => y_idx h_ rfl rfl U69 fct0 (i) rfl hi) <| .loadCR m37 (i := 100) rfl rfl U71 rfl fct0 .nil) fun Az Hz => ?_
   refine plz (e_litR Hz m37 102 (mm := 2) rfl (.cons rfl rfl (.cons (.v _) (.cons (m37.rd (i := 101) rfl) .nil)) .nil) U69 fct44 rfl rfl rfl rfl rfl fun g40 Az w41 Hz m41 => ?_)
   have m43 := m41.freezeR 102 rfl
   refine plz (e_appR Hz m43 9 rfl rfl rfl (m43.rd (i := 102) rfl) U69 fct44 rfl rfl (by decide) (by rw [List.length_map]; simp; have : (rpr h f i).length ≤ h.length := (by unfold rpr; rw [List.length_drop, List.length_take]; omega); omega) rfl fun p42 c42 Az w44 Hz m44 => ?_)
   refine gz hK2 Hz (.assign rfl .nil) fun Az Hz => ?_
   replace Hz := Hz.oz [0, 1, 5, 6, 27]
   refine wp_region_lit ?_
   refine goCh Hz (.move rfl <| .inc (i + 1) <| .assign rfl .nil) fun Az Hz => ?_
   refine wpList_nil ?_
   show ∃ n', n' < _ ∧ _
   have hE : ((rpr h f i).map itD) ++ [[D.v (.int .i64 xs), .ns .u8 xd]] = ((rpr h f (i + 1)).map itD) := by rw [rpr_yes hes hkeep, List.map_append]; rfl
   rw [hE] at m44 Hz
   exact ⟨h.length - (i + 1), by omega, i + 1, _, _, by omega, rfl, Hz.only [0, 1, 5, 6], m44.ren [(1, 1), (9, 9)] (by decide)⟩
  intro hb22 Hz; try simp only [QQ, Qax] at hb22
  have hi2 : i + 1 < h.length := by have := hb22; first | omega | (simp at this; omega)
  obtain ⟨⟨ys, yd⟩, hes2⟩ : ∃ e, h[i + 1]? = some e := ⟨_, List.getElem?_eq_getElem hi2⟩
  have hy9 : (h.getD (i + 1) v0).1 = ys := by rw [List.getD, hes2]; rfl
  refine goCh Hz (.moveZ rfl <| .moveZ rfl <| .addZ rfl rfl (r := ((i + 1 : Nat) : Int)) (by rw [IntWalk.i64_in _ (by omega)]; omega) .nil) fun Az Hz => ?_
  obtain ⟨b53, o53, vs53, hp53, hR53, ho53, m53⟩ := m4.openR (i := 1) rfl (i + 1) (r := [.v (.int .i64 ys), .ns .u8 yd]) (itD_get hes2) 100 rfl
  revert Hz
  cases hp53; clear m4 ho53
  rcases hR53 with _ | ⟨hd53_0, _ | ⟨hd53_1, _ | _⟩⟩
  obtain rfl := hd53_0.v_out
  clear hd53_0
  obtain ⟨p54, c54, hv54, hc54⟩ := hd53_1.ns_shape; subst hv54
  intro Hz
  have m54 := m53.dat 101 rfl (hd53_1.cast (fun _ h => (free_add rfl h))); clear m53 hd53_1
  refine gz hK3 Hz (.g rfl rfl rfl rfl (fun _ h_ => y_idx h_ rfl rfl U69 fct0 (i + 1) rfl (by omega)) <| .fieldAddrQZ 0 rfl U71 rfl (s := 0) (by kernel_rfl) rfl <| .loadC0Z m54 (i := 100) rfl rfl U2 rfl <| .moveZ rfl <| .gtrZ rfl rfl <| .pickF rfl rfl <| .nil) fun Az Hz => ?_
  refine bc Hz 27 ?_ ?_
  ·
   intro hb61 Hz; try simp only [QQ, Qax] at hb61
   have hkeep : upN h f ≤ i + 1 := by first | assumption | exact (rpr_gt hr hi2).1 (by rw [hy9]; have := hb61; first | omega | (simp at this; omega))
   refine wct Hz ?_
   replace Hz := Hz.oz [0, 1, 5, 6, 27]
   refine wp_region_lit ?_
   refine goCh Hz (.move rfl <| .move rfl <| .move rfl .nil) fun Az Hz => ?_
   obtain ⟨b66, o66, vs66, hp66, hR66, ho66, m66⟩ := m54.openR (i := 1) rfl (i) (r := [.v (.int .i64 xs), .ns .u8 xd]) (itD_get hes) 102 rfl
   revert Hz
   cases hp66; clear m54 ho66
   rcases hR66 with _ | ⟨hd66_0, _ | ⟨hd66_1, _ | _⟩⟩
   obtain rfl := hd66_0.v_out
   clear hd66_0
   obtain ⟨p67, c67, hv67, hc67⟩ := hd66_1.ns_shape; subst hv67
   intro Hz
   have m67 := m66.dat 103 rfl (hd66_1.cast (fun _ h => (free_add rfl h))); clear m66 hd66_1
   refine goCh Hz (.c rfl (fun _ h_ => y_idx h_ rfl rfl U69 fct0 (i) rfl hi) <| .loadCR m67 (i := 102) rfl rfl U71 rfl fct0 .nil) fun Az Hz => ?_
   refine plz (e_litR Hz m67 104 (mm := 2) rfl (.cons rfl rfl (.cons (.v _) (.cons (m67.rd (i := 103) rfl) .nil)) .nil) U69 fct44 rfl rfl rfl rfl rfl fun g70 Az w71 Hz m71 => ?_)
   have m73 := m71.freezeR 104 rfl
   refine plz (e_appR Hz m73 9 rfl rfl rfl (m73.rd (i := 104) rfl) U69 fct44 rfl rfl (by decide) (by rw [List.length_map]; simp; have : (rpr h f i).length ≤ h.length := (by unfold rpr; rw [List.length_drop, List.length_take]; omega); omega) rfl fun p72 c72 Az w74 Hz m74 => ?_)
   refine gz hK2 Hz (.assign rfl .nil) fun Az Hz => ?_
   replace Hz := Hz.oz [0, 1, 5, 6, 27]
   refine wp_region_lit ?_
   refine goCh Hz (.move rfl <| .inc (i + 1) <| .assign rfl .nil) fun Az Hz => ?_
   refine wpList_nil ?_
   show ∃ n', n' < _ ∧ _
   have hE : ((rpr h f i).map itD) ++ [[D.v (.int .i64 xs), .ns .u8 xd]] = ((rpr h f (i + 1)).map itD) := by rw [rpr_yes hes hkeep, List.map_append]; rfl
   rw [hE] at m74 Hz
   exact ⟨h.length - (i + 1), by omega, i + 1, _, _, by omega, rfl, Hz.only [0, 1, 5, 6], m74.ren [(1, 1), (9, 9)] (by decide)⟩
  intro hb61 Hz; try simp only [QQ, Qax] at hb61
  have hdrop : i + 1 < upN h f := by have h9 := mt (rpr_gt (f := f) hr hi2).2; have h8 : ¬ f < (h.getD (i + 1) v0).1 := (by rw [hy9]; have := hb61; first | omega | (simp at this; omega)); have := h9 h8; omega
  refine wcf Hz ?_
  refine zss (hK2 _ _ ?_)
  replace Hz := Hz.oz [0, 1, 5, 6, 27]
  refine wp_region_lit ?_
  refine goCh Hz (.move rfl <| .inc (i + 1) <| .assign rfl .nil) fun Az Hz => ?_
  refine wpList_nil ?_
  show ∃ n', n' < _ ∧ _
  have hE : ((rpr h f i).map itD) = ((rpr h f (i + 1)).map itD) := by rw [rpr_no hdrop]
  rw [hE] at m54 Hz
  exact ⟨h.length - (i + 1), by omega, i + 1, _, _, by omega, rfl, Hz.only [0, 1, 5, 6], m54.ren [(1, 1), (9, 9)] (by decide)⟩
 intro hb9 Hz; try simp only [QQ, Qax] at hb9
 revert Hz
 obtain rfl : i = h.length := by have := hb9; first | omega | (simp at this; omega)
 intro Hz
 refine wcf Hz ?_
 refine wp_exit ?_
 refine hK0 _ _ ?_
 refine regS Hz (.move rfl <| .assign rfl .nil) fun Az Hz => ?_
 refine rt1 Hz ?_
 have m86 := m4.freezeR 9 rfl
 rw [rpr_all, List.length_map] at m86
 rw [rpr_all, List.length_map]
 exact ⟨_, _, rfl, m86.ren [(1, 1), (9, 9)] (by decide)⟩
end
section
set_option maxRecDepth 100000
set_option maxHeartbeats 4000000
theorem zapply_x (X : Cx) (vo ch cn sz mk fl fr to fl2 : Int) (H : List (List Ver)) (W : List (Int × List (Int × List Int))) (p pw : Option Addr) (nn c nw cw : Nat) (w0 : World) (hok : HB 900000 H) (hH : (H.length : Int) = cn) (hP : PuOk vo ch cn sz fr to fl2 W) (hfm : fr ≤ mk) (m0 : MemOk X w0 [(1, .dat (.slice p nn c) (.l 1 (H.map hD))), (2, .dat (.slice pw nw cw) (.l 2 (W.map wrD)))] w0) :
   Calls Tryz.prog 36 #[.agg #[.int .i64 vo, .int .i64 ch, .int .i64 cn, .int .i64 sz, .int .i64 mk, .int .i64 fl, .slice p nn c], .agg #[.int .i64 vo, .int .i64 ch, .int .i64 cn, .int .i64 sz, .int .i64 fr, .int .i64 to, .int .i64 fl2, .slice pw nw cw]] w0 fun e w' => ∃ (p9 : Option Addr) (c9 : Nat), e = .returned (.agg #[.int .i64 vo, .int .i64 ch, .int .i64 cn, .int .i64 sz, .int .i64 (max mk to), .int .i64 (max fl fl2), .slice p9 nn c9]) ∧ MemOk X w0 [(1, .dat (.slice p nn c) (.l 1 (H.map hD))), (2, .dat (.slice pw nw cw) (.l 2 (W.map wrD))), (9, .row (.slice p9 nn c9) 69 1 (((applyW mk H W).map (fun h => pruneF h (max fl fl2))).map hD))] w' := by
 refine ent2 Tryz.func36 rfl Tryz.ntmps36 fun Az Hz => ?_
 have hl : H.length ≤ 1000000 := by have := hP.1.2.2.1; omega
 have hWl := hP.2.2.2.2.1
 have hnn : nn = H.length := nnOf (m0.rd (i := 1) rfl)
 have hnw : nw = W.length := nnOf (m0.rd (i := 2) rfl)
 revert Hz
 subst hnn; subst hnw
 intro Hz
 refine zsr fun K0 hK0 => ?_
 refine plz (e_box Hz m0 30 (cs := [_, _, _, _, _, _, _]) rfl rfl rfl fun g1 Az w2 Hz m2 _ _ => ?_)
 refine plz (e_box Hz m2 31 (cs := [_, _, _, _, _, _, _, _]) rfl rfl rfl fun g3 Az w4 Hz m4 _ _ => ?_)
 refine plz (e_alloc Hz m4 32 fct17 rfl fun g5 Az w6 Hz m6 _ _ => ?_)
 refine znl (hK0 _ _ ?_)
 refine wsk fun K1 hK1 => ?_
 refine zsr fun K2 hK2 => ?_
 refine goCh Hz (.loadBR m6 (i := 31) rfl rfl U90 rfl fct14 (by simp) (by dsimp only [List.drop, List.take] <;> rfl) .nil) fun Az Hz => ?_
 refine plz (ecl Hz Tryz.func66 rfl (zpright_x _ vo ch cn sz fr to fl2 W _ _ _ _ hP (m6.into [(1, 2)] (by decide) rfl)) ?_)
 rintro e w9 ⟨rfl, hm9⟩
 have mx9 := m6.back hm9 [(2, 1)] (by decide); clear hm9 m6
 have m9 := mx9.oz [2, 1, 30, 31, 32]
 refine ⟨_, rfl, ?_⟩; intro Az Hz
 refine goCh Hz (.not rfl <| .move rfl <| .faZ 0 rfl U28 <| .loadB1Z m9 (i := 30) rfl rfl rfl U3 rfl <| .faZ 0 rfl U90 <| .loadB1Z m9 (i := 31) rfl rfl rfl U3 rfl <| .neqZ rfl rfl <| .pickF rfl rfl <| .move rfl .nil) fun Az Hz => ?_
 refine bc Hz 21 ?_ ?_
 · intro hb _; exact absurd hb (by first | (simp; done) | (simp; omega))
 clear Hz; intro _ Hz
 refine goCh Hz (.faZ 1 rfl U28 <| .loadB1Z m9 (i := 30) rfl rfl rfl U3 rfl <| .faZ 1 rfl U90 <| .loadB1Z m9 (i := 31) rfl rfl rfl U3 rfl <| .neqZ rfl rfl <| .pickF rfl rfl <| .move rfl .nil) fun Az Hz => ?_
 refine bc Hz 28 ?_ ?_
 · intro hb _; exact absurd hb (by first | (simp; done) | (simp; omega))
 clear Hz; intro _ Hz
 refine goCh Hz (.faZ 2 rfl U28 <| .loadB1Z m9 (i := 30) rfl rfl rfl U3 rfl <| .faZ 2 rfl U90 <| .loadB1Z m9 (i := 31) rfl rfl rfl U3 rfl <| .neqZ rfl rfl <| .pickF rfl rfl <| .move rfl .nil) fun Az Hz => ?_
 refine bc Hz 35 ?_ ?_
 · intro hb _; exact absurd hb (by first | (simp; done) | (simp; omega))
 clear Hz; intro _ Hz
 refine goCh Hz (.faZ 3 rfl U28 <| .loadB1Z m9 (i := 30) rfl rfl rfl U3 rfl <| .faZ 3 rfl U90 <| .loadB1Z m9 (i := 31) rfl rfl rfl U3 rfl <| .neqZ rfl rfl <| .pickF rfl rfl <| .move rfl .nil) fun Az Hz => ?_
 refine bc Hz 42 ?_ ?_
 · intro hb _; exact absurd hb (by first | (simp; done) | (simp; omega))
 clear Hz; intro _ Hz
 refine gz hK2 Hz (.faZ 4 rfl U28 <| .loadB1Z m9 (i := 30) rfl rfl rfl U2 rfl <| .faZ 4 rfl U90 <| .loadB1Z m9 (i := 31) rfl rfl rfl U2 rfl <| .lssZ rfl rfl <| .pickF rfl rfl <| .nil) fun Az Hz => ?_
 refine bc Hz 48 ?_ ?_
 · intro hb _; exact absurd hb (by first | (simp; done) | (simp; omega))
 clear Hz; intro _ Hz
 refine wcf Hz ?_
 refine zss (hK1 _ _ ?_)
 replace Hz := Hz.oz [2, 3, 4, 28]
 refine zsr fun K3 hK3 => ?_
 refine goCh Hz (.fa 6 rfl U28 <| .lb m9 30 U26 rfl rfl rfl .nil) fun Az Hz => ?_
 have m57 := m9.nilR 33 69 1
 refine plz (e_appR Hz m57 33 rfl rfl rfl (m57.rd (i := 1) rfl) U26 fct9 rfl rfl (by decide) (by simp only [List.length_append, List.length_nil, List.length_map, List.length_cons]; omega) rfl fun p58 c58 Az w59 Hz m59 => ?_)
 refine gz hK3 Hz (.assign rfl .nil) fun Az Hz => ?_
 refine wsk fun K4 hK4 => ?_
 refine regS Hz (.assign rfl .nil) fun Az Hz => ?_
 refine wp_block ?_
 refine wp_loop_ghost (fun g a w => ∃ (k gA gB gR : Nat) (Hk : List (List Ver)) (p9 : Option Addr) (c9 : Nat), k ≤ W.length ∧ g = W.length - k ∧ Hk = applyW mk H (W.take k) ∧ HB (900000 + 8 * k) Hk ∧ Has 132 [(2, .pointer (some ⟨gA, 0, none⟩)), (3, .pointer (some ⟨gB, 0, none⟩)), (4, .pointer (some ⟨gR, 0, none⟩)), (5, .slice p9 H.length c9), (6, .int .i64 k)] a ∧ MemOk X w0 [(1, .dat (.slice p H.length c) (.l 1 (H.map hD))), (2, .dat (.slice pw W.length cw) (.l 2 (W.map wrD))), (9, .row (.slice p9 H.length c9) 69 1 (Hk.map hD)), (10, .box gA 28 [.int .i64 vo, .int .i64 ch, .int .i64 cn, .int .i64 sz, .int .i64 mk, .int .i64 fl, .slice p H.length c]), (11, .box gB 90 [.int .i64 vo, .int .i64 ch, .int .i64 cn, .int .i64 sz, .int .i64 fr, .int .i64 to, .int .i64 fl2, .slice pw W.length cw]), (12, .box gR 28 [.int .i64 0, .int .i64 0, .int .i64 0, .int .i64 0, .int .i64 0, .int .i64 0, .slice none 0 0])] w) (W.length) ?_ ?_
 · simp only [List.nil_append, List.length_nil, List.length_append, List.length_map, Nat.zero_add] at m59 Hz
   exact ⟨0, _, _, _, H, _, _, Nat.zero_le _, rfl, rfl, hok.up (by omega), Hz.only [2, 3, 4, 5, 6], m59.ren [(1, 1), (2, 2), (9, 33), (10, 30), (11, 31), (12, 32)] (by decide)⟩
 clear Hz m59
 rintro g Az w62 ⟨k, gA, gB, gR, Hk, p9, c9, hkl, hg, hHk, hHB, Hz, m62⟩
 refine wsk fun K5 hK5 => ?_
 refine regS Hz (.move rfl <| .fa 7 rfl U90 <| .lb m62 11 U31 rfl rfl rfl <| .len rfl U31 <| .lss rfl rfl .nil) fun Az Hz => ?_
 refine bc Hz 57 ?_ ?_
 ·
  intro hb68 Hz; try simp only [QQ, Qax] at hb68
  have hk : k < W.length := by have := hb68; first | omega | (simp at this; omega)
  obtain ⟨⟨xs, xl⟩, hes⟩ : ∃ e, W[k]? = some e := ⟨_, List.getElem?_eq_getElem hk⟩
  have hit : ∀ {j : Nat} {xb : Int} {xd : List Int}, xl[j]? = some (xb, xd) → (0 ≤ xb ∧ xb < cn) ∧ (xd.length ≤ 32 ∧ xl.length ≤ 8) := fun h7 => wpre_at hP hes h7
  have hx8 : xl.length ≤ 8 := wpre_8 hP hes
  have hml : (xl.map itD).length = xl.length := List.length_map _
  refine wct Hz ?_
  refine zss (hK5 _ _ ?_)
  refine wsk fun K6 hK6 => ?_
  refine wp_block ?_
  refine zsr fun K7 hK7 => ?_
  refine goCh Hz (.fa 7 rfl U90 <| .lb m62 11 U31 rfl rfl rfl <| .move rfl .nil) fun Az Hz => ?_
  obtain ⟨b76, o76, vs76, hp76, hR76, ho76, m76⟩ := m62.openR (i := 2) rfl (k) (r := [.v (.int .i64 xs), .l 2 (xl.map itD)]) (wrD_get hes) 100 rfl
  revert Hz
  cases hp76; clear m62 ho76
  rcases hR76 with _ | ⟨hd76_0, _ | ⟨hd76_1, _ | _⟩⟩
  obtain rfl := hd76_0.v_out
  clear hd76_0
  obtain ⟨p77, c77, hv77, hc77⟩ := hd76_1.l_shape; subst hv77
  intro Hz
  have m77 := m76.dat 101 rfl (hd76_1.cast (fun _ h => (free_add rfl h))); clear m76 hd76_1
  refine goCh Hz (.c rfl (fun _ h_ => y_idx h_ rfl rfl U31 fct15 (k) rfl hk) <| .loadCR m77 (i := 100) rfl rfl U109 rfl fct15 .nil) fun Az Hz => ?_
  refine plz (e_alloc Hz m77 102 fct18 rfl fun g80 Az w81 Hz m81 _ _ => ?_)
  refine plz (stw Hz m81 102 fct15 fun w82 m82 _ => ?_)
  refine znl (hK7 _ _ ?_)
  replace Hz := Hz.oz [2, 3, 4, 5, 6, 7]
  refine regS Hz (.assign rfl .nil) fun Az Hz => ?_
  refine wp_block ?_
  refine wp_loop_ghost (fun g a w => ∃ (j gA gB gR gW : Nat) (L2 : List (List Ver)) (p9 : Option Addr) (c9 : Nat) (px : Option Addr) (cx : Nat), j ≤ xl.length ∧ g = xl.length - j ∧ L2 = addW xs Hk (xl.take j) ∧ (xs ≤ mk → j = 0) ∧ L2.length = H.length ∧ HB (900000 + 8 * k + j) L2 ∧ Has 132 [(2, .pointer (some ⟨gA, 0, none⟩)), (3, .pointer (some ⟨gB, 0, none⟩)), (4, .pointer (some ⟨gR, 0, none⟩)), (5, .slice p9 H.length c9), (6, .int .i64 k), (7, .pointer (some ⟨gW, 0, none⟩)), (8, .int .i64 j)] a ∧ MemOk X w0 [(1, .dat (.slice p H.length c) (.l 1 (H.map hD))), (2, .dat (.slice (some ⟨b76, o76, none⟩) W.length cw) (.l 2 (W.map wrD))), (9, .row (.slice p9 H.length c9) 69 1 (L2.map hD)), (10, .box gA 28 [.int .i64 vo, .int .i64 ch, .int .i64 cn, .int .i64 sz, .int .i64 mk, .int .i64 fl, .slice p H.length c]), (11, .box gB 90 [.int .i64 vo, .int .i64 ch, .int .i64 cn, .int .i64 sz, .int .i64 fr, .int .i64 to, .int .i64 fl2, .slice (some ⟨b76, o76, none⟩) W.length cw]), (12, .box gR 28 [.int .i64 0, .int .i64 0, .int .i64 0, .int .i64 0, .int .i64 0, .int .i64 0, .slice none 0 0]), (13, .box gW 109 [.int .i64 xs, .slice px (xl.map itD).length cx]), (14, .dat (.slice px (xl.map itD).length cx) (.l 2 (xl.map itD)))] w) (xl.length) ?_ ?_
  · exact ⟨0, _, _, _, _, Hk, _, _, _, _, Nat.zero_le _, rfl, rfl, fun _ => rfl, by rw [hHk, applyW_len], hHB, Hz.only [2, 3, 4, 5, 6, 7, 8], m82.ren [(1, 1), (2, 2), (9, 9), (10, 10), (11, 11), (12, 12), (13, 102), (14, 101)] (by decide)⟩
  clear Hz m82
  rintro g Az w85 ⟨j, gA, gB, gR, gW, L2, p9, c9, px, cx, hjl, hg2, hL2, hj0, hLl, hLB, Hz, m85⟩
  refine wsk fun K8 hK8 => ?_
  refine zsr fun K9 hK9 => ?_
  refine goCh Hz (.move rfl <| .fa 1 rfl U109 <| .lb m85 13 U40 rfl rfl rfl <| .len rfl U40 <| .lss rfl rfl <| .move rfl .nil) fun Az Hz => ?_
  refine bc Hz 70 ?_ ?_
  ·
   intro hb98 Hz; try simp only [QQ, Qax] at hb98
   have hj : j < xl.length := by have := hb98; first | (rw [List.length_map] at this; omega) | (simp at this; omega)
   refine gz hK9 Hz (.faZ 0 rfl U109 <| .loadB1Z m85 (i := 13) rfl rfl rfl U2 rfl <| .faZ 4 rfl U28 <| .loadB1Z m85 (i := 10) rfl rfl rfl U2 rfl <| .gtrZ rfl rfl <| .pickT rfl rfl <| .nil) fun Az Hz => ?_
   refine bc Hz 76 ?_ ?_
   ·
    intro hb105 Hz; try simp only [QQ, Qax] at hb105
    have hgt : mk < xs := by have := hb105; first | omega | (simp at this; omega)
    obtain ⟨⟨xb, xd⟩, hxs⟩ : ∃ e, xl[j]? = some e := ⟨_, List.getElem?_eq_getElem hj⟩
    have hxb := (hit hxs).1
    have hxd : xd.length ≤ 1000000 := by have := (hit hxs).2; omega
    obtain ⟨h9, hes9⟩ : ∃ e, L2[xb.toNat]? = some e := ⟨_, List.getElem?_eq_getElem (by omega)⟩
    have hx9 : L2.getD xb.toNat [] = h9 := by rw [List.getD, hes9]; rfl
    have hh9 := hLB.at (List.mem_of_getElem? hes9)
    refine wct Hz ?_
    refine zss (hK8 _ _ ?_)
    refine wsk fun K10 hK10 => ?_
    refine wp_block ?_
    replace Hz := Hz.oz [2, 3, 4, 5, 6, 7, 8]
    refine zsr fun K11 hK11 => ?_
    refine goCh Hz (.fa 1 rfl U109 <| .lb m85 13 U40 rfl rfl rfl <| .move rfl .nil) fun Az Hz => ?_
    obtain ⟨b114, o114, vs114, hp114, hR114, ho114, m114⟩ := m85.openR (i := 14) rfl (j) (r := [.v (.int .i64 xb), .ns .u8 xd]) (itD_get hxs) 200 rfl
    revert Hz
    cases hp114; clear m85 ho114
    rcases hR114 with _ | ⟨hd114_0, _ | ⟨hd114_1, _ | _⟩⟩
    obtain rfl := hd114_0.v_out
    clear hd114_0
    obtain ⟨p115, c115, hv115, hc115⟩ := hd114_1.ns_shape; subst hv115
    intro Hz
    have m115 := m114.dat 201 rfl (hd114_1.cast (fun _ h => (free_add rfl h))); clear m114 hd114_1
    refine gz hK11 Hz (.c rfl (fun _ h_ => y_idx h_ rfl rfl U40 fct16 (j) rfl (by rw [List.length_map]; omega)) <| .fieldAddrQ 0 rfl U111 rfl (s := 0) (by kernel_rfl) rfl <| .loadC0 m115 (i := 200) rfl rfl U3 rfl <| .assign rfl <| .nil) fun Az Hz => ?_
    replace Hz := Hz.oz [2, 3, 4, 5, 6, 7, 8, 9]
    obtain ⟨gr122, cr122, hp122, m122⟩ := m115.openC (i := 9) rfl (Nat.lt_of_le_of_lt (Nat.zero_le (xb.toNat)) (by first | omega | (rw [List.length_map]; omega)))
    revert Hz
    cases hp122
    intro Hz
    obtain ⟨vs123, hc123, hR123⟩ := m122.eltC (i := 9) rfl (xb.toNat) (r := [.l 2 (h9.map itD)]) (hD_get hes9)
    revert Hz
    rcases hR123 with _ | ⟨hd123_0, _ | _⟩
    obtain ⟨p124, c124, hv124, hw124⟩ := hd123_0.l_shape; subst hv124
    intro Hz
    have m124 := m122.dat 202 rfl (hd123_0.cast (fun _ h => h)); clear m122 hd123_0
    obtain ⟨b125, o125, vs125, hp125, hR125, ho125, m125⟩ := m124.openR (i := 14) rfl (j) (r := [.v (.int .i64 xb), .ns .u8 xd]) (itD_get hxs) 203 rfl
    revert Hz
    cases hp125; clear m124 ho125
    rcases hR125 with _ | ⟨hd125_0, _ | ⟨hd125_1, _ | _⟩⟩
    obtain rfl := hd125_0.v_out
    clear hd125_0
    obtain ⟨p126, c126, hv126, hc126⟩ := hd125_1.ns_shape; subst hv126
    intro Hz
    have m126 := m125.dat 204 rfl (hd125_1.cast (fun _ h => (free_add rfl h))); clear m125 hd125_1
    have m127 := m126.oz [1, 2, 9, 10, 11, 12, 13, 14, 200, 201, 202, 203, 204]
    refine region_p 16 (B := [(1, _), (2, _), (9, _), (10, _), (11, _), (12, _), (13, _), (14, _), (200, _), (201, _), (202, _), (203, _), (204, _)]) (m127.to ⟨il, il, il, il, il, il, il, il, il, il, il, il, il, trivial⟩) m127 (by kernel_rfl) (fun w128 hP128 m128 => ?_); clear m127
    refine goR hP128 [0, 1, 2, 3, 4, 5, 6, 7, 8, 9, 10, 11, 12, 13] [5, 7, 9, 13] 14 0 16383 Hz (m128.to ⟨il, il, il, il, il, il, il, il, il, il, il, il, il, trivial⟩) (.move rfl <| .move rfl <| .move rfl <| .move rfl <| .p (fun _ _ h_ => y_idx h_ rfl rfl U26 fct13 (xb.toNat) (Int.toNat_of_nonneg hxb.1).symm (by first | omega | (rw [List.length_map]; omega))) <| .c (fun _ hW _ h_ => y_loadRC1 h_ hW (i := 9) rfl (xb.toNat) hc123 rfl U69 rfl) <| .fa 0 rfl U109 <| .lb hh 13 U2 rfl rfl rfl <| .fa 1 rfl U109 <| .lb hh 13 U40 rfl rfl rfl <| .move rfl <| .p (fun _ _ h_ => y_idx h_ rfl rfl U40 fct16 (j) rfl (by rw [List.length_map]; omega)) <| .fieldAddrQ 1 rfl U111 rfl (s := 0) (by kernel_rfl) rfl <| .loadC1 hh (i := 203) (q := 1) rfl rfl rfl U22 rfl .nil) fun Az Hz => ?_
    refine so 14 ?_
    refine ecl Hz Tryz.func67 rfl (zadd_x _ h9 xs xd _ _ _ _ _ _ hh9.2.1 hxd (m128.into [(1, 202), (2, 204)] (by decide) rfl)) ?_
    rintro e w143 ⟨p143, c143, rfl, hm143⟩
    have mx143 := m128.back hm143 [(202, 1), (204, 2), (205, 9)] (by decide); clear hm143 m128
    have m143 := mx143.oz [202, 204, 205, 1, 2, 9, 10, 11, 12, 13, 14, 200, 201, 203]
    refine ⟨_, rfl, ?_⟩; intro Az Hz
    refine ⟨m143.to ⟨il, il, il, il, il, il, il, il, il, il, il, il, il, trivial⟩, ?_⟩
    refine goA hP128 [15] 1 32767 65535 Hz (m143.to ⟨il, il, il, il, il, il, il, il, il, il, il, il, il, trivial⟩) (.p (fun _ _ h_ => y_idx h_ rfl rfl U26 fct13 (xb.toNat) (Int.toNat_of_nonneg hxb.1).symm (by omega)) .nil) fun Az Hz => ?_
    have m146 := m143.closeC 9 rfl
    refine se 16 ?_
    refine e_storeR1 Hz m146 9 rfl (xb.toNat) (by rw [List.length_map]; omega) rfl rfl rfl rfl fct13 (m146.rd (i := 205) rfl) fun w147 m147 => ?_
    have hset : (L2.map hD).set xb.toNat [D.l 2 ((addF h9 xs xd).map itD)] = (L2.set xb.toNat (addF h9 xs xd)).map hD := by rw [List.map_set]; rfl
    rw [hset] at m147
    refine wpAnyE_done (by kernel_rfl) ?_ _
    refine hK10 _ _ ?_
    replace Hz := Hz.oz [2, 3, 4, 5, 6, 7, 8]
    refine wp_region_lit ?_
    refine goCh Hz (.move rfl <| .inc (j + 1) <| .assign rfl .nil) fun Az Hz => ?_
    refine wpList_nil ?_
    show ∃ n', n' < _ ∧ _
    exact ⟨xl.length - (j + 1), by omega, j + 1, _, _, _, _, L2.set xb.toNat (addF h9 xs xd), _, _, _, _, by omega, rfl, by rw [addW_snoc hxs, ← hL2, hx9], fun h8 => by omega, by rw [List.length_set]; exact hLl, hLB.set hh9.1 hxd (by omega), Hz.only [2, 3, 4, 5, 6, 7, 8], m147.ren [(1, 1), (2, 2), (9, 9), (10, 10), (11, 11), (12, 12), (13, 13), (14, 14)] (by decide)⟩
   intro hb105 Hz; try simp only [QQ, Qax] at hb105
   have hj9 : xs ≤ mk ∨ j = xl.length := .inl (by have := hb105; first | omega | (simp at this; omega))
   refine wcf Hz ?_
   refine wp_exit ?_
   refine hK6 _ _ ?_
   replace Hz := Hz.oz [2, 3, 4, 5, 6, 7, 8]
   refine wp_region_lit ?_
   refine goCh Hz (.move rfl <| .inc (k + 1) <| .assign rfl .nil) fun Az Hz => ?_
   refine wpList_nil ?_
   show ∃ n', n' < _ ∧ _
   have hstep : L2 = applyW mk H (W.take (k + 1)) := by
     rw [applyW_snoc hes, ← hHk]
     by_cases hle9 : xs ≤ mk
     · rw [if_pos hle9, hL2, hj0 hle9, List.take_zero]; rfl
     rw [if_neg hle9, hL2, hj9.resolve_left hle9, List.take_length]
   exact ⟨W.length - (k + 1), by omega, k + 1, _, _, _, L2, _, _, by omega, rfl, hstep, hLB.up (by omega), Hz.only [2, 3, 4, 5, 6], m85.ren [(1, 1), (2, 2), (9, 9), (10, 10), (11, 11), (12, 12)] (by decide)⟩
  intro hb98 Hz; try simp only [QQ, Qax] at hb98
  have hj9 : xs ≤ mk ∨ j = xl.length := .inr (by have := hb98; first | (rw [List.length_map] at this; omega) | (simp at this; omega))
  refine gz hK9 Hz (.sk <| .sk <| .sk <| .sk <| .sk <| .pickF rfl rfl <| .nil) fun Az Hz => ?_
  refine wcf Hz ?_
  refine wp_exit ?_
  refine hK6 _ _ ?_
  replace Hz := Hz.oz [2, 3, 4, 5, 6, 7, 8]
  refine wp_region_lit ?_
  refine goCh Hz (.move rfl <| .inc (k + 1) <| .assign rfl .nil) fun Az Hz => ?_
  refine wpList_nil ?_
  show ∃ n', n' < _ ∧ _
  have hstep : L2 = applyW mk H (W.take (k + 1)) := by
    rw [applyW_snoc hes, ← hHk]
    by_cases hle9 : xs ≤ mk
    · rw [if_pos hle9, hL2, hj0 hle9, List.take_zero]; rfl
    rw [if_neg hle9, hL2, hj9.resolve_left hle9, List.take_length]
  exact ⟨W.length - (k + 1), by omega, k + 1, _, _, _, L2, _, _, by omega, rfl, hstep, hLB.up (by omega), Hz.only [2, 3, 4, 5, 6], m85.ren [(1, 1), (2, 2), (9, 9), (10, 10), (11, 11), (12, 12)] (by decide)⟩
 intro hb68 Hz; try simp only [QQ, Qax] at hb68
 revert Hz
 obtain rfl : k = W.length := by have := hb68; first | omega | (simp at this; omega)
 intro Hz
 rw [List.take_length] at hHk
 have hfl : Hk.length = H.length := by rw [hHk, applyW_len]
 refine wcf Hz ?_
 refine wp_exit ?_
 refine hK4 _ _ ?_
 refine wsk fun K12 hK12 => ?_
 have m166 := m62.oz [1, 2, 9, 10, 11, 12]
 refine region_p 11 (B := [(1, _), (2, _), (9, _), (10, _), (11, _), (12, _)]) (m166.to ⟨il, il, il, il, il, il, trivial⟩) m166 (by kernel_rfl) (fun w167 hP167 m167 => ?_); clear m166
 refine goR hP167 [0, 1, 2, 3, 4, 5, 6, 7, 10] [1, 3, 6] 9 0 1279 Hz (m167.to ⟨il, il, il, il, il, il, trivial⟩) (.fa 4 rfl U28 <| .lb hh 10 U2 rfl rfl rfl <| .fa 5 rfl U90 <| .lb hh 11 U2 rfl rfl rfl <| .p (fun _ _ h_ => y_max h_ rfl rfl rfl) <| .fa 5 rfl U28 <| .lb hh 10 U2 rfl rfl rfl <| .fa 6 rfl U90 <| .fa 4 rfl U28 .nil) fun Az Hz => ?_
 refine dtw 8 11 ?_ ?_
 ·
  refine e_y Hz rfl (y_loadB1 Hz m167 (i := 11) rfl rfl rfl U2 rfl) fun Az Hz => ?_
  refine ⟨fun _ => (m167.to ⟨il, il, il, il, il, il, trivial⟩), ?_⟩
  refine goA hP167 [9] 1 1535 2047 Hz (m167.to ⟨il, il, il, il, il, il, trivial⟩) (.p (fun _ _ h_ => y_max h_ rfl rfl rfl) .nil) fun Az Hz => ?_
  refine se 11 ?_
  refine st1 Hz m167 10 fct10 fun w179 m179 _ => ?_
  refine goB hP167 [12] 1 4095 8191 Hz (.fa 5 rfl U28 .nil) fun Az Hz => ?_
  refine se 13 ?_
  refine st1 Hz m179 10 fct10 fun w181 m181 _ => ?_
  refine wpAnyE_done (by kernel_rfl) ?_ _
  refine hK12 _ _ ?_
  refine wsk fun K13 hK13 => ?_
  replace Hz := Hz.oz [2, 3, 4, 5, 6]
  refine regS Hz (.assign rfl .nil) fun Az Hz => ?_
  refine wp_block ?_
  refine wp_loop_ghost (fun g a w => ∃ (k gA gB gR : Nat) (L3 : List (List Ver)) (p9 : Option Addr) (c9 : Nat), k ≤ H.length ∧ g = H.length - k ∧ L3 = ((Hk.take k).map (fun h => pruneF h (max fl fl2)) ++ Hk.drop k) ∧ Has 132 [(2, .pointer (some ⟨gA, 0, none⟩)), (3, .pointer (some ⟨gB, 0, none⟩)), (4, .pointer (some ⟨gR, 0, none⟩)), (5, .slice p9 H.length c9), (10, .int .i64 k)] a ∧ MemOk X w0 [(1, .dat (.slice p H.length c) (.l 1 (H.map hD))), (2, .dat (.slice pw W.length cw) (.l 2 (W.map wrD))), (9, .row (.slice p9 H.length c9) 69 1 (L3.map hD)), (10, .box gA 28 [.int .i64 vo, .int .i64 ch, .int .i64 cn, .int .i64 sz, .int .i64 (max mk to), .int .i64 (max fl fl2), .slice p H.length c]), (11, .box gB 90 [.int .i64 vo, .int .i64 ch, .int .i64 cn, .int .i64 sz, .int .i64 fr, .int .i64 to, .int .i64 fl2, .slice pw W.length cw]), (12, .box gR 28 [.int .i64 0, .int .i64 0, .int .i64 0, .int .i64 0, .int .i64 0, .int .i64 0, .slice none 0 0])] w) (H.length) ?_ ?_
  · exact ⟨0, _, _, _, Hk, _, _, Nat.zero_le _, rfl, by simp, Hz.only [2, 3, 4, 5, 10], m181.ren [(1, 1), (2, 2), (9, 9), (10, 10), (11, 11), (12, 12)] (by decide)⟩
  clear Hz m181
  rintro g Az w184 ⟨k, gA, gB, gR, L3, p9, c9, hkl, hg3, hL3, Hz, m184⟩
  refine wsk fun K14 hK14 => ?_
  refine regS Hz (.move rfl <| .move rfl <| .len rfl U26 <| .lss rfl rfl .nil) fun Az Hz => ?_
  refine bc Hz 116 ?_ ?_
  ·
   intro hb189 Hz; try simp only [QQ, Qax] at hb189
   have hk : k < H.length := by have := hb189; first | omega | (simp at this; omega)
   obtain ⟨h9, hes⟩ : ∃ e, Hk[k]? = some e := ⟨_, List.getElem?_eq_getElem (by omega)⟩
   have hes9 : L3[k]? = some h9 := by rw [hL3]; exact prune_at hes
   have hLl : L3.length = H.length := by rw [hL3, List.length_append, List.length_map, List.length_take, List.length_drop]; omega
   have hh9 := hHB.at (List.mem_of_getElem? hes)
   refine wct Hz ?_
   refine zss (hK14 _ _ ?_)
   refine wsk fun K15 hK15 => ?_
   refine wp_block ?_
   obtain ⟨gr191, cr191, hp191, m191⟩ := m184.openC (i := 9) rfl (Nat.lt_of_le_of_lt (Nat.zero_le (k)) (by first | omega | (rw [List.length_map]; omega)))
   revert Hz
   cases hp191
   intro Hz
   obtain ⟨vs192, hc192, hR192⟩ := m191.eltC (i := 9) rfl (k) (r := [.l 2 (h9.map itD)]) (hD_get hes9)
   revert Hz
   rcases hR192 with _ | ⟨hd192_0, _ | _⟩
   obtain ⟨p193, c193, hv193, hw193⟩ := hd192_0.l_shape; subst hv193
   intro Hz
   have m193 := m191.dat 200 rfl (hd192_0.cast (fun _ h => h)); clear m191 hd192_0
   have m194 := m193.oz [1, 2, 9, 10, 11, 12, 200]
   refine region_p 10 (B := [(1, _), (2, _), (9, _), (10, _), (11, _), (12, _), (200, _)]) (m194.to ⟨il, il, il, il, il, il, il, trivial⟩) m194 (by kernel_rfl) (fun w195 hP195 m195 => ?_); clear m194
   refine goR hP195 [0, 1, 2, 3, 4, 5, 6, 7] [5, 7] 8 0 255 Hz (m195.to ⟨il, il, il, il, il, il, il, trivial⟩) (.move rfl <| .move rfl <| .move rfl <| .move rfl <| .p (fun _ _ h_ => y_idx h_ rfl rfl U26 fct13 (k) rfl (by first | omega | (rw [List.length_map]; omega))) <| .c (fun _ hW _ h_ => y_loadRC1 h_ hW (i := 9) rfl (k) hc192 rfl U69 rfl) <| .fa 5 rfl U28 <| .lb hh 10 U2 rfl rfl rfl .nil) fun Az Hz => ?_
   refine so 8 ?_
   refine ecl Hz Tryz.func68 rfl (zprune_x _ h9 (max fl fl2) _ _ _ _ hh9.2.1 hh9.1 (m195.into [(1, 200)] (by decide) rfl)) ?_
   rintro e w204 ⟨p204, c204, rfl, hm204⟩
   have mx204 := m195.back hm204 [(200, 1), (201, 9)] (by decide); clear hm204 m195
   have m204 := mx204.oz [200, 201, 1, 2, 9, 10, 11, 12]
   refine ⟨_, rfl, ?_⟩; intro Az Hz
   refine ⟨m204.to ⟨il, il, il, il, il, il, il, trivial⟩, ?_⟩
   refine goA hP195 [9] 1 511 1023 Hz (m204.to ⟨il, il, il, il, il, il, il, trivial⟩) (.p (fun _ _ h_ => y_idx h_ rfl rfl U26 fct13 (k) rfl (by omega)) .nil) fun Az Hz => ?_
   have m207 := m204.closeC 9 rfl
   refine se 10 ?_
   refine e_storeR1 Hz m207 9 rfl (k) (by rw [List.length_map]; omega) rfl rfl rfl rfl fct13 (m207.rd (i := 201) rfl) fun w208 m208 => ?_
   have hset : (L3.map hD).set k [D.l 2 ((pruneF h9 (max fl fl2)).map itD)] = (L3.set k (pruneF h9 (max fl fl2))).map hD := by rw [List.map_set]; rfl
   rw [hset] at m208
   refine wpAnyE_done (by kernel_rfl) ?_ _
   refine hK15 _ _ ?_
   replace Hz := Hz.oz [2, 3, 4, 5, 10]
   refine wp_region_lit ?_
   refine goCh Hz (.move rfl <| .inc (k + 1) <| .assign rfl .nil) fun Az Hz => ?_
   refine wpList_nil ?_
   show ∃ n', n' < _ ∧ _
   have hstep : L3.set k (pruneF h9 (max fl fl2)) = ((Hk.take (k + 1)).map (fun h => pruneF h (max fl fl2)) ++ Hk.drop (k + 1)) := by rw [hL3]; exact prune_step hes
   exact ⟨H.length - (k + 1), by omega, k + 1, _, _, _, _, _, _, by omega, rfl, hstep, Hz.only [2, 3, 4, 5, 10], m208.ren [(1, 1), (2, 2), (9, 9), (10, 10), (11, 11), (12, 12)] (by decide)⟩
  intro hb189 Hz; try simp only [QQ, Qax] at hb189
  revert Hz
  obtain rfl : k = H.length := by have := hb189; first | omega | (simp at this; omega)
  intro Hz
  refine wcf Hz ?_
  refine wp_exit ?_
  refine hK13 _ _ ?_
  refine zsr fun K16 hK16 => ?_
  refine goCh Hz (.move rfl <| .fa 6 rfl U28 .nil) fun Az Hz => ?_
  refine plz (st1 Hz m184 10 fct11 fun w217 m217 _ => ?_)
  refine znl (hK16 _ _ ?_)
  replace Hz := Hz.oz [2, 3, 4, 5, 10]
  refine zsr fun K17 hK17 => ?_
  refine goCh Hz (.loadBR m217 (i := 10) rfl rfl U28 rfl fct12 (by simp) (by dsimp only [List.drop, List.take] <;> rfl) .nil) fun Az Hz => ?_
  refine plz (stw Hz m217 12 fct12 fun w221 m221 _ => ?_)
  refine znl (hK17 _ _ ?_)
  refine rtd (retC (fn := Tryz.f36) Hz m221 (i := 12) rfl rfl rfl U28 rfl fct12 ?_)
  have hend : L3 = Hk.map (fun h => pruneF h (max fl fl2)) := by rw [hL3, ← hfl, List.take_length, List.drop_length, List.append_nil]
  rw [hend, hHk] at m221
  exact ⟨_, _, rfl, m221.ren [(1, 1), (2, 2), (9, 9)] (by decide)⟩
 refine st1 Hz m167 10 fct10 fun w222 m222 _ => ?_
 refine ⟨fun h => (Bool.false_ne_true (h.symm.trans (by rfl))).elim, ?_⟩
 refine se 8 ?_
 refine e_y Hz rfl (y_loadB1 Hz m222 (i := 11) rfl rfl rfl U2 rfl) fun Az Hz => ?_
 refine goB hP167 [9, 12] 2 3583 8191 Hz (.p (fun _ _ h_ => y_max h_ rfl rfl rfl) <| .fa 5 rfl U28 .nil) fun Az Hz => ?_
 refine se 13 ?_
 refine st1 Hz m222 10 fct10 fun w226 m226 _ => ?_
 refine wpAnyE_done (by kernel_rfl) ?_ _
 refine hK12 _ _ ?_
 refine wsk fun K18 hK18 => ?_
 replace Hz := Hz.oz [2, 3, 4, 5, 6]
 refine regS Hz (.assign rfl .nil) fun Az Hz => ?_
 refine wp_block ?_
 refine wp_loop_ghost (fun g a w => ∃ (k gA gB gR : Nat) (L3 : List (List Ver)) (p9 : Option Addr) (c9 : Nat), k ≤ H.length ∧ g = H.length - k ∧ L3 = ((Hk.take k).map (fun h => pruneF h (max fl fl2)) ++ Hk.drop k) ∧ Has 132 [(2, .pointer (some ⟨gA, 0, none⟩)), (3, .pointer (some ⟨gB, 0, none⟩)), (4, .pointer (some ⟨gR, 0, none⟩)), (5, .slice p9 H.length c9), (10, .int .i64 k)] a ∧ MemOk X w0 [(1, .dat (.slice p H.length c) (.l 1 (H.map hD))), (2, .dat (.slice pw W.length cw) (.l 2 (W.map wrD))), (9, .row (.slice p9 H.length c9) 69 1 (L3.map hD)), (10, .box gA 28 [.int .i64 vo, .int .i64 ch, .int .i64 cn, .int .i64 sz, .int .i64 (max mk to), .int .i64 (max fl fl2), .slice p H.length c]), (11, .box gB 90 [.int .i64 vo, .int .i64 ch, .int .i64 cn, .int .i64 sz, .int .i64 fr, .int .i64 to, .int .i64 fl2, .slice pw W.length cw]), (12, .box gR 28 [.int .i64 0, .int .i64 0, .int .i64 0, .int .i64 0, .int .i64 0, .int .i64 0, .slice none 0 0])] w) (H.length) ?_ ?_
 · exact ⟨0, _, _, _, Hk, _, _, Nat.zero_le _, rfl, by simp, Hz.only [2, 3, 4, 5, 10], m226.ren [(1, 1), (2, 2), (9, 9), (10, 10), (11, 11), (12, 12)] (by decide)⟩
 clear Hz m226
 rintro g Az w229 ⟨k, gA, gB, gR, L3, p9, c9, hkl, hg3, hL3, Hz, m229⟩
 refine wsk fun K19 hK19 => ?_
 refine regS Hz (.move rfl <| .move rfl <| .len rfl U26 <| .lss rfl rfl .nil) fun Az Hz => ?_
 refine bc Hz 116 ?_ ?_
 ·
  intro hb234 Hz; try simp only [QQ, Qax] at hb234
  have hk : k < H.length := by have := hb234; first | omega | (simp at this; omega)
  obtain ⟨h9, hes⟩ : ∃ e, Hk[k]? = some e := ⟨_, List.getElem?_eq_getElem (by omega)⟩
  have hes9 : L3[k]? = some h9 := by rw [hL3]; exact prune_at hes
  have hLl : L3.length = H.length := by rw [hL3, List.length_append, List.length_map, List.length_take, List.length_drop]; omega
  have hh9 := hHB.at (List.mem_of_getElem? hes)
  refine wct Hz ?_
  refine zss (hK19 _ _ ?_)
  refine wsk fun K20 hK20 => ?_
  refine wp_block ?_
  obtain ⟨gr236, cr236, hp236, m236⟩ := m229.openC (i := 9) rfl (Nat.lt_of_le_of_lt (Nat.zero_le (k)) (by first | omega | (rw [List.length_map]; omega)))
  revert Hz
  cases hp236
  intro Hz
  obtain ⟨vs237, hc237, hR237⟩ := m236.eltC (i := 9) rfl (k) (r := [.l 2 (h9.map itD)]) (hD_get hes9)
  revert Hz
  rcases hR237 with _ | ⟨hd237_0, _ | _⟩
  obtain ⟨p238, c238, hv238, hw238⟩ := hd237_0.l_shape; subst hv238
  intro Hz
  have m238 := m236.dat 200 rfl (hd237_0.cast (fun _ h => h)); clear m236 hd237_0
  have m239 := m238.oz [1, 2, 9, 10, 11, 12, 200]
  refine region_p 10 (B := [(1, _), (2, _), (9, _), (10, _), (11, _), (12, _), (200, _)]) (m239.to ⟨il, il, il, il, il, il, il, trivial⟩) m239 (by kernel_rfl) (fun w240 hP240 m240 => ?_); clear m239
  refine goR hP240 [0, 1, 2, 3, 4, 5, 6, 7] [5, 7] 8 0 255 Hz (m240.to ⟨il, il, il, il, il, il, il, trivial⟩) (.move rfl <| .move rfl <| .move rfl <| .move rfl <| .p (fun _ _ h_ => y_idx h_ rfl rfl U26 fct13 (k) rfl (by first | omega | (rw [List.length_map]; omega))) <| .c (fun _ hW _ h_ => y_loadRC1 h_ hW (i := 9) rfl (k) hc237 rfl U69 rfl) <| .fa 5 rfl U28 <| .lb hh 10 U2 rfl rfl rfl .nil) fun Az Hz => ?_
  refine so 8 ?_
  refine ecl Hz Tryz.func68 rfl (zprune_x _ h9 (max fl fl2) _ _ _ _ hh9.2.1 hh9.1 (m240.into [(1, 200)] (by decide) rfl)) ?_
  rintro e w249 ⟨p249, c249, rfl, hm249⟩
  have mx249 := m240.back hm249 [(200, 1), (201, 9)] (by decide); clear hm249 m240
  have m249 := mx249.oz [200, 201, 1, 2, 9, 10, 11, 12]
  refine ⟨_, rfl, ?_⟩; intro Az Hz
  refine ⟨m249.to ⟨il, il, il, il, il, il, il, trivial⟩, ?_⟩
  refine goA hP240 [9] 1 511 1023 Hz (m249.to ⟨il, il, il, il, il, il, il, trivial⟩) (.p (fun _ _ h_ => y_idx h_ rfl rfl U26 fct13 (k) rfl (by omega)) .nil) fun Az Hz => ?_
  have m252 := m249.closeC 9 rfl
  refine se 10 ?_
  refine e_storeR1 Hz m252 9 rfl (k) (by rw [List.length_map]; omega) rfl rfl rfl rfl fct13 (m252.rd (i := 201) rfl) fun w253 m253 => ?_
  have hset : (L3.map hD).set k [D.l 2 ((pruneF h9 (max fl fl2)).map itD)] = (L3.set k (pruneF h9 (max fl fl2))).map hD := by rw [List.map_set]; rfl
  rw [hset] at m253
  refine wpAnyE_done (by kernel_rfl) ?_ _
  refine hK20 _ _ ?_
  replace Hz := Hz.oz [2, 3, 4, 5, 10]
  refine wp_region_lit ?_
  refine goCh Hz (.move rfl <| .inc (k + 1) <| .assign rfl .nil) fun Az Hz => ?_
  refine wpList_nil ?_
  show ∃ n', n' < _ ∧ _
  have hstep : L3.set k (pruneF h9 (max fl fl2)) = ((Hk.take (k + 1)).map (fun h => pruneF h (max fl fl2)) ++ Hk.drop (k + 1)) := by rw [hL3]; exact prune_step hes
  exact ⟨H.length - (k + 1), by omega, k + 1, _, _, _, _, _, _, by omega, rfl, hstep, Hz.only [2, 3, 4, 5, 10], m253.ren [(1, 1), (2, 2), (9, 9), (10, 10), (11, 11), (12, 12)] (by decide)⟩
 intro hb234 Hz; try simp only [QQ, Qax] at hb234
 revert Hz
 obtain rfl : k = H.length := by have := hb234; first | omega | (simp at this; omega)
 intro Hz
 refine wcf Hz ?_
 refine wp_exit ?_
 refine hK18 _ _ ?_
 refine zsr fun K21 hK21 => ?_
 refine goCh Hz (.move rfl <| .fa 6 rfl U28 .nil) fun Az Hz => ?_
 refine plz (st1 Hz m229 10 fct11 fun w262 m262 _ => ?_)
 refine znl (hK21 _ _ ?_)
 replace Hz := Hz.oz [2, 3, 4, 5, 10]
 refine zsr fun K22 hK22 => ?_
 refine goCh Hz (.loadBR m262 (i := 10) rfl rfl U28 rfl fct12 (by simp) (by dsimp only [List.drop, List.take] <;> rfl) .nil) fun Az Hz => ?_
 refine plz (stw Hz m262 12 fct12 fun w266 m266 _ => ?_)
 refine znl (hK22 _ _ ?_)
 refine rtd (retC (fn := Tryz.f36) Hz m266 (i := 12) rfl rfl rfl U28 rfl fct12 ?_)
 have hend : L3 = Hk.map (fun h => pruneF h (max fl fl2)) := by rw [hL3, ← hfl, List.take_length, List.drop_length, List.append_nil]
 rw [hend, hHk] at m266
 exact ⟨_, _, rfl, m266.ren [(1, 1), (2, 2), (9, 9)] (by decide)⟩
end
section
theorem fl28znw : flatS Tryz.prog 28 [.int .i64 0, .int .i64 0, .int .i64 0, .int .i64 0, .int .i64 0, .int .i64 0, .slice none 0 0] = true := by kernel_rfl
set_option maxRecDepth 100000
set_option maxHeartbeats 4000000
theorem znew_x (X : Cx) (vo ch sz fr to fl : Int) (n9 : Nat) (pw : Option Addr) (nw cw : Nat) (w0 : World) (hn : n9 ≤ 256) (m0 : MemOk X w0 [] w0) :
   Calls Tryz.prog 35 #[.agg #[.int .i64 vo, .int .i64 ch, .int .i64 n9, .int .i64 sz, .int .i64 fr, .int .i64 to, .int .i64 fl, .slice pw nw cw]] w0 fun e w' => ∃ (p9 : Option Addr) (c9 : Nat), e = .returned (.agg #[.int .i64 vo, .int .i64 ch, .int .i64 n9, .int .i64 sz, .int .i64 0, .int .i64 0, .slice p9 n9 c9]) ∧ MemOk X w0 [(9, .row (.slice p9 n9 c9) 69 1 ((List.replicate n9 ([] : List Ver)).map hD))] w' := by
 refine ent1 Tryz.func35 rfl Tryz.ntmps35 fun Az Hz => ?_
 refine zsr fun K0 hK0 => ?_
 refine plz (e_box Hz m0 20 (cs := [_, _, _, _, _, _, _, _]) rfl rfl rfl fun g1 Az w2 Hz m2 _ _ => ?_)
 refine plz (e_alloc Hz m2 21 fct17 rfl fun g3 Az w4 Hz m4 _ _ => ?_)
 refine znl (hK0 _ _ ?_)
 refine wsk fun K1 hK1 => ?_
 have m5 := m4.oz [20, 21]
 refine region_p 14 (B := [(20, _), (21, _)]) (m5.to ⟨il, il, trivial⟩) m5 (by kernel_rfl) (fun w6 hP6 m6 => ?_); clear m5
 refine goR hP6 [0, 1, 2, 3, 4, 5, 6, 7, 8, 9, 10, 11] [1, 3, 5, 7, 9] 12 0 4095 Hz (m6.to ⟨il, il, trivial⟩) (.fa 0 rfl U90 <| .lb hh 20 U3 rfl rfl rfl <| .fa 1 rfl U90 <| .lb hh 20 U3 rfl rfl rfl <| .fa 2 rfl U90 <| .lb hh 20 U3 rfl rfl rfl <| .fa 3 rfl U90 <| .lb hh 20 U3 rfl rfl rfl <| .fa 2 rfl U90 <| .lb hh 20 U3 rfl rfl rfl <| .p (fun _ _ h_ => y_max h_ rfl rfl (r := (n9 : Int)) (by omega)) <| .p (fun _ _ h_ => y_min h_ rfl rfl (r := (n9 : Int)) (by omega)) .nil) fun Az Hz => ?_
 refine so 12 ?_
 refine e_makeR Hz m6 22 (n9) 2 rfl rfl rfl rfl U26 fct9 (by decide) (by omega) rfl fun p19 c19 Az w20 Hz m20 => ?_
 refine ⟨m20.to ⟨il, il, trivial⟩, ?_⟩
 refine goA hP6 [13] 1 8191 16383 Hz (m20.to ⟨il, il, trivial⟩) (.build rfl fct17 fl28znw rfl (by dsimp only [setL, List.set] <;> rfl) .nil) fun Az Hz => ?_
 refine se 14 ?_
 refine stw Hz m20 21 fct12 fun w22 m22 _ => ?_
 refine wpAnyE_done (by kernel_rfl) ?_ _
 refine hK1 _ _ ?_
 refine rtd (retC (fn := Tryz.f35) Hz m22 (i := 21) rfl rfl rfl U28 rfl fct12 ?_)
 have hE : List.replicate n9 [D.l 2 []] = (List.replicate n9 ([] : List Ver)).map hD := by rw [List.map_replicate]; rfl
 rw [hE] at m22
 exact ⟨_, _, rfl, m22.ren [(9, 22)] (by decide)⟩
theorem hchanged_x (X : Cx) (h : List Ver) (a b : Int) (p : Option Addr) (nn c : Nat) (w0 : World) (hl : h.length ≤ 1000000) (hr : Rise h) (m0 : MemOk X w0 [(1, .dat (.slice p nn c) (.l 2 (h.map itD)))] w0) :
   Calls Tryz.prog 73 #[.slice p nn c, .int .i64 a, .int .i64 b] w0 fun e w' => e = .returned (.bool (chgF h a b)) ∧ MemOk X w0 [(1, .dat (.slice p nn c) (.l 2 (h.map itD)))] w' := by
 refine ent3 Tryz.func73 rfl Tryz.ntmps73 fun Az Hz => ?_
 have hul := upN_le h a
 have hnn : nn = h.length := nnOf (m0.rd (i := 1) rfl)
 revert Hz
 subst hnn
 intro Hz
 refine regS Hz (.assign rfl .nil) fun Az Hz => ?_
 refine zsr fun K0 hK0 => ?_
 refine goCh Hz (.move rfl <| .move rfl .nil) fun Az Hz => ?_
 refine plz (ecl Hz Tryz.func99 rfl (upto_x _ h a _ _ _ hl hr (m0.into [(1, 1)] (by decide) rfl)) ?_)
 rintro e w6 ⟨rfl, hm6⟩
 have mx6 := m0.back hm6 [(1, 1)] (by decide); clear hm6 m0
 have m6 := mx6.oz [1]
 refine ⟨_, rfl, ?_⟩; intro Az Hz
 refine gz hK0 Hz (.assign rfl .nil) fun Az Hz => ?_
 refine zsr fun K1 hK1 => ?_
 refine goCh Hz (.move rfl <| .move rfl <| .len rfl U69 <| .lss rfl rfl <| .move rfl .nil) fun Az Hz => ?_
 refine bc Hz 15 ?_ ?_
 ·
  intro hb19 Hz; try simp only [QQ, Qax] at hb19
  have hlt : upN h a < h.length := by have := hb19; first | omega | (simp at this; omega)
  obtain ⟨⟨xs, xd⟩, hes⟩ : ∃ e, h[upN h a]? = some e := ⟨_, List.getElem?_eq_getElem hlt⟩
  have hx9 : (h.getD (upN h a) v0).1 = xs := by rw [List.getD, hes]; rfl
  refine goCh Hz (.moveZ rfl <| .moveZ rfl .nil) fun Az Hz => ?_
  obtain ⟨b22, o22, vs22, hp22, hR22, ho22, m22⟩ := m6.openR (i := 1) rfl (upN h a) (r := [.v (.int .i64 xs), .ns .u8 xd]) (itD_get hes) 20 rfl
  revert Hz
  cases hp22; clear m6 ho22
  rcases hR22 with _ | ⟨hd22_0, _ | ⟨hd22_1, _ | _⟩⟩
  obtain rfl := hd22_0.v_out
  clear hd22_0
  obtain ⟨p23, c23, hv23, hc23⟩ := hd22_1.ns_shape; subst hv23
  intro Hz
  have m23 := m22.dat 21 rfl (hd22_1.cast (fun _ h => (free_add rfl h))); clear m22 hd22_1
  refine gz hK1 Hz (.g rfl rfl rfl rfl (fun _ h_ => y_idx h_ rfl rfl U69 fct0 (upN h a) rfl hlt) <| .fieldAddrQZ 0 rfl U71 rfl (s := 0) (by kernel_rfl) rfl <| .loadC0Z m23 (i := 20) rfl rfl U2 rfl <| .moveZ rfl <| .leqZ rfl rfl <| .pickT rfl rfl <| .assign rfl <| .nil) fun Az Hz => ?_
  refine rt1 Hz ?_
  have hv : chgF h a b = decide (xs ≤ b) := by unfold chgF; rw [decide_eq_true hlt, hx9, Bool.true_and]
  exact ⟨by rw [hv], m23.only [1]⟩
 intro hb19 Hz; try simp only [QQ, Qax] at hb19
 have hge : ¬ upN h a < h.length := by have := hb19; first | omega | (simp at this; omega)
 refine gz hK1 Hz (.sk <| .sk <| .sk <| .sk <| .sk <| .sk <| .sk <| .pickF rfl rfl <| .assign rfl <| .nil) fun Az Hz => ?_
 refine rt1 Hz ?_
 have hv : chgF h a b = false := by unfold chgF; rw [decide_eq_false hge, Bool.false_and]
 exact ⟨by rw [hv], m6.only [1]⟩
theorem cchanged_x (X : Cx) (vo ch cn sz mk fl : Int) (H : List (List Ver)) (a9 b9 : Int) (p : Option Addr) (c : Nat) (w0 : World) (hl : H.length ≤ 1000000) (hok : ∀ h ∈ H, h.length ≤ 1000000 ∧ Rise h) (m0 : MemOk X w0 [(1, .dat (.slice p H.length c) (.l 1 (H.map hD)))] w0) :
   Calls Tryz.prog 44 #[.agg #[.int .i64 vo, .int .i64 ch, .int .i64 cn, .int .i64 sz, .int .i64 mk, .int .i64 fl, .slice p H.length c], .int .i64 a9, .int .i64 b9] w0 fun e w' => ∃ (p9 : Option Addr) (c9 : Nat), e = .returned (.slice p9 (chgL H a9 b9 H.length).length c9) ∧ MemOk X w0 [(1, .dat (.slice p H.length c) (.l 1 (H.map hD))), (9, .num (.slice p9 (chgL H a9 b9 H.length).length c9) 3 .i64 (chgL H a9 b9 H.length))] w' := by
 refine ent3 Tryz.func44 rfl Tryz.ntmps44 fun Az Hz => ?_
 refine zsr fun K0 hK0 => ?_
 refine plz (e_box Hz m0 20 (cs := [_, _, _, _, _, _, _]) rfl rfl rfl fun g1 Az w2 Hz m2 _ _ => ?_)
 refine gz hK0 Hz (.assign rfl .nil) fun Az Hz => ?_
 refine regS Hz (.assign rfl .nil) fun Az Hz => ?_
 refine wsk fun K1 hK1 => ?_
 refine regS Hz (.fa 6 rfl U28 <| .lb m2 20 U26 rfl rfl rfl <| .len rfl U26 <| .move rfl .nil) fun Az Hz => ?_
 refine wp_block ?_
 refine wp_loop_ghost (fun g a w => ∃ (k : Nat) (p9 : Option Addr) (c9 : Nat), k ≤ H.length ∧ g = H.length - k ∧ Has 28 [(1, .int .i64 a9), (2, .int .i64 b9), (7, .slice p9 (chgL H a9 b9 k).length c9), (11, .slice p H.length c), (12, .int .i64 H.length), (13, .int .i64 k)] a ∧ MemOk X w0 [(1, .dat (.slice p H.length c) (.l 1 (H.map hD))), (9, .num (.slice p9 (chgL H a9 b9 k).length c9) 3 .i64 (chgL H a9 b9 k))] w) (H.length) ?_ ?_
 · have mz := m2.nilN 9 3 .i64
   exact ⟨0, none, 0, Nat.zero_le _, rfl, Hz.only [1, 2, 7, 11, 12, 13], mz.only [1, 9]⟩
 clear Hz m2
 rintro g Az w9 ⟨k, p9, c9, hkl, hg, Hz, m9⟩
 refine regS Hz (.lss rfl rfl .nil) fun Az Hz => ?_
 refine wsk fun K2 hK2 => ?_
 refine bc Hz 14 ?_ ?_
 ·
  intro hb11 Hz; try simp only [QQ, Qax] at hb11
  have hk : k < H.length := by have := hb11; first | omega | (simp at this; omega)
  obtain ⟨h9, hes⟩ : ∃ e, H[k]? = some e := ⟨_, List.getElem?_eq_getElem hk⟩
  have hx9 : H.getD k [] = h9 := by rw [List.getD, hes]; rfl
  have hh9 := hok _ (List.mem_of_getElem? hes)
  refine wct Hz ?_
  refine zss (hK2 _ _ ?_)
  refine wsk fun K3 hK3 => ?_
  refine wp_block ?_
  refine zsr fun K4 hK4 => ?_
  refine goCh Hz (.move rfl .nil) fun Az Hz => ?_
  obtain ⟨b15, o15, vs15, hp15, hR15, ho15, m15⟩ := m9.openR (i := 1) rfl (k) (r := [.l 2 (h9.map itD)]) (hD_get hes) 100 rfl
  revert Hz
  cases hp15; clear m9 ho15
  rcases hR15 with _ | ⟨hd15_0, _ | _⟩
  obtain ⟨p16, c16, hv16, hc16⟩ := hd15_0.l_shape; subst hv16
  intro Hz
  have m16 := m15.dat 101 rfl (hd15_0.cast (fun _ h => (free_add rfl h))); clear m15 hd15_0
  refine gz hK4 Hz (.c rfl (fun _ h_ => y_idx h_ rfl rfl U26 fct13 (k) rfl hk) <| .loadC0 m16 (i := 100) rfl rfl U69 rfl <| .assign rfl <| .assign rfl <| .nil) fun Az Hz => ?_
  refine zsr fun K5 hK5 => ?_
  refine goCh Hz (.move rfl <| .move rfl <| .move rfl .nil) fun Az Hz => ?_
  refine plz (ecl Hz Tryz.func73 rfl (hchanged_x _ h9 a9 b9 _ _ _ _ hh9.1 hh9.2 (m16.into [(1, 101)] (by decide) rfl)) ?_)
  rintro e w27 ⟨rfl, hm27⟩
  have mx27 := m16.back hm27 [(101, 1)] (by decide); clear hm27 m16
  have m27 := mx27.oz [101, 1, 9, 100]
  refine ⟨_, rfl, ?_⟩; intro Az Hz
  refine znl (hK5 _ _ ?_)
  refine bc Hz 21 ?_ ?_
  ·
   intro hb29 Hz; try simp only [QQ, Qax] at hb29
   have hyes : chgF h9 a9 b9 = true := by have h8 := hb29; simpa using h8
   refine wct Hz ?_
   replace Hz := Hz.oz [1, 2, 7, 11, 12, 13, 8, 21]
   refine wp_region_lit ?_
   refine goCh Hz (.move rfl <| .move rfl .nil) fun Az Hz => ?_
   refine plz (e_litN Hz m27 102 (k := .i64) rfl rfl U29 fct37 rfl rfl rfl rfl fun g33 Az w34 Hz m34 => ?_)
   refine plz (e_appN Hz m34 9 rfl rfl rfl (m34.numsO (i := 102) rfl) U29 fct37 (by decide) (by have := chgL_len H a9 b9 k; simp; omega) rfl fun p35 c35 Az w36 Hz m36 => ?_)
   refine gz hK3 Hz (.assign rfl .nil) fun Az Hz => ?_
   refine wp_region_lit ?_
   refine goCh Hz (.inc (k + 1) <| .move rfl .nil) fun Az Hz => ?_
   refine wpList_nil ?_
   show ∃ n', n' < _ ∧ _
   have hE : (chgL H a9 b9 k) ++ [(k : Int)] = (chgL H a9 b9 (k + 1)) := by rw [chgL_yes (by rw [hx9]; exact hyes)]
   rw [hE] at m36 Hz
   exact ⟨H.length - (k + 1), by omega, k + 1, _, _, by omega, rfl, Hz.only [1, 2, 7, 11, 12, 13], m36.ren [(1, 1), (9, 9)] (by decide)⟩
  intro hb29 Hz; try simp only [QQ, Qax] at hb29
  have hno : chgF h9 a9 b9 = false := by have h8 := hb29; simpa using h8
  refine wcf Hz ?_
  refine zss (hK3 _ _ ?_)
  replace Hz := Hz.oz [1, 2, 7, 11, 12, 13, 21]
  refine wp_region_lit ?_
  refine goCh Hz (.inc (k + 1) <| .move rfl .nil) fun Az Hz => ?_
  refine wpList_nil ?_
  show ∃ n', n' < _ ∧ _
  have hE : (chgL H a9 b9 k) = (chgL H a9 b9 (k + 1)) := by rw [chgL_no (by rw [hx9]; exact hno)]
  rw [hE] at m27 Hz
  exact ⟨H.length - (k + 1), by omega, k + 1, _, _, by omega, rfl, Hz.only [1, 2, 7, 11, 12, 13], m27.ren [(1, 1), (9, 9)] (by decide)⟩
 intro hb11 Hz; try simp only [QQ, Qax] at hb11
 revert Hz
 obtain rfl : k = H.length := by have := hb11; first | omega | (simp at this; omega)
 intro Hz
 refine wcf Hz ?_
 refine wp_exit ?_
 refine hK1 _ _ ?_
 refine regS Hz (.move rfl <| .assign rfl .nil) fun Az Hz => ?_
 refine rt1 Hz ?_
 exact ⟨_, _, rfl, m9.ren [(1, 1), (9, 9)] (by decide)⟩
end
section
set_option maxRecDepth 100000
set_option maxHeartbeats 4000000
theorem znew_c (X : Cx) (y : VolV) (k fn cnt : Nat) (hC : CkOk y k fn cnt) (hF : VolF y) (mi tq fl : Int) (pw : Option Addr) (nw cw : Nat) (w0 : World) (m0 : MemOk X w0 [] w0) :
   Calls Tryz.prog 35 #[.agg #[.int .i64 y.vo, .int .i64 (k : Int), .int .i64 (cnt : Int), .int .i64 y.sz, .int .i64 mi, .int .i64 tq, .int .i64 fl, .slice pw nw cw]] w0 fun e w' => ∃ (p9 : Option Addr) (c9 : Nat), e = .returned (.agg #[.int .i64 y.vo, .int .i64 (k : Int), .int .i64 (cnt : Int), .int .i64 y.sz, .int .i64 0, .int .i64 0, .slice p9 cnt c9]) ∧ MemOk X w0 [(9, .row (.slice p9 cnt c9) 69 1 ((chN y fn cnt 0).map hD))] w' := by
 have h := znew_x X y.vo (k : Int) y.sz mi tq fl cnt pw nw cw w0 hC.c256 m0
 rw [← chuH_zero y.ws (fn : Int) cnt (min y.fl ((0 : Nat) : Int))] at h
 exact h
theorem zapply_c (X : Cx) (y : VolV) (k fn cnt m : Nat) (hC : CkOk y k fn cnt) (hF : VolF y) (mi fi : Int) (p pw : Option Addr) (c cw : Nat) (w0 : World) (hmi : mi = (m : Int)) (hfi : fi = min y.fl (m : Int)) (hm : m ≤ y.ws.length) (m0 : MemOk X w0 [(1, .dat (.slice p cnt c) (.l 1 ((chN y fn cnt m).map hD))), (2, .dat (.slice pw (pwN y fn cnt m).length cw) (.l 2 ((pwN y fn cnt m).map wrD)))] w0) :
   Calls Tryz.prog 36 #[.agg #[.int .i64 y.vo, .int .i64 (k : Int), .int .i64 (cnt : Int), .int .i64 y.sz, .int .i64 mi, .int .i64 fi, .slice p cnt c], .agg #[.int .i64 y.vo, .int .i64 (k : Int), .int .i64 (cnt : Int), .int .i64 y.sz, .int .i64 mi, .int .i64 (tqN y m : Int), .int .i64 (min y.fl (tqN y m : Int)), .slice pw (pwN y fn cnt m).length cw]] w0 fun e w' => ∃ (p9 : Option Addr) (c9 : Nat), e = .returned (.agg #[.int .i64 y.vo, .int .i64 (k : Int), .int .i64 (cnt : Int), .int .i64 y.sz, .int .i64 (tqN y m : Int), .int .i64 (min y.fl (tqN y m : Int)), .slice p9 cnt c9]) ∧ MemOk X w0 [(1, .dat (.slice p cnt c) (.l 1 ((chN y fn cnt m).map hD))), (2, .dat (.slice pw (pwN y fn cnt m).length cw) (.l 2 ((pwN y fn cnt m).map wrD))), (9, .row (.slice p9 cnt c9) 69 1 ((chN y fn cnt (tqN y m)).map hD))] w' := by
 subst hmi hfi
 have hl := hF.wl
 have h := zapply_x X y.vo (k : Int) (cnt : Int) y.sz (m : Int) (min y.fl (m : Int)) (m : Int) (tqN y m : Int) (min y.fl (tqN y m : Int)) (chN y fn cnt m) (pwN y fn cnt m) p pw cnt c (pwN y fn cnt m).length cw w0 (chu_hb hF.wr hF.sz.2 (by omega)) (by rw [chN_len]) (pw_ok hC hF hm) (Int.le_refl _) m0
 rw [show max (m : Int) (tqN y m : Int) = (tqN y m : Int) by unfold tqN; omega, show max (min y.fl (m : Int)) (min y.fl (tqN y m : Int)) = min y.fl (tqN y m : Int) by unfold tqN; omega, ch_apply hC hF hm] at h
 exact h
theorem zchunk_x (X : Cx) (y : VolV) (k fn cnt : Nat) (hC : CkOk y k fn cnt) (hF : VolF y) (hwo : WrsOk y.ws) (pp pn pw : Option Addr) (cp nn9 cn9 cw : Nat) (mark : Int) (w0 : World) (m0 : MemOk X w0 [(3, .dat (.slice pw (y.ws.map wrD).length cw) (.l 2 (y.ws.map wrD)))] w0) :
   Calls Tryz.prog 12 #[.agg #[.int .i64 y.vo, .int .i64 y.bl, .int .i64 y.sz, .int .i64 y.pe, .slice pp y.place.length cp, .int .i64 y.to, .int .i64 y.ne, .bool y.hi, .int .i64 y.fl, .slice pn nn9 cn9, .slice pw (y.ws.map wrD).length cw], .int .i64 (k : Int), .int .i64 mark] w0 fun e w' => ∃ (m : Nat) (pc : Option Addr) (cc : Nat), m ≤ y.ws.length ∧ (mark ≤ (m : Int) ∨ m = y.ws.length) ∧ e = .returned (.agg #[.int .i64 y.vo, .int .i64 (k : Int), .int .i64 (cnt : Int), .int .i64 y.sz, .int .i64 (m : Int), .int .i64 (min y.fl (m : Int)), .slice pc cnt cc]) ∧ MemOk X w0 [(3, .dat (.slice pw (y.ws.map wrD).length cw) (.l 2 (y.ws.map wrD))), (9, .dat (.slice pc cnt cc) (.l 1 ((chN y fn cnt m).map hD)))] w' := by
 refine ent3 Tryz.func12 rfl Tryz.ntmps12 fun Az Hz => ?_
 have hf0 := hF.fl0
 refine zsr fun K0 hK0 => ?_
 refine plz (e_box Hz m0 60 (cs := [_, _, _, _, _, _, _, _, _, _, _]) rfl rfl rfl fun g1 Az w2 Hz m2 _ _ => ?_)
 refine plz (e_alloc Hz m2 61 fct17 rfl fun g3 Az w4 Hz m4 _ _ => ?_)
 refine znl (hK0 _ _ ?_)
 refine zsr fun K1 hK1 => ?_
 refine goCh Hz (.loadBR m4 (i := 60) rfl rfl U33 rfl fct1 (by simp) (by dsimp only [List.drop, List.take] <;> rfl) <| .move rfl .nil) fun Az Hz => ?_
 refine plz (ecl Hz Tryz.func34 rfl (gpush_x _ y k fn cnt 0 hC hF hwo _ _ _ _ _ _ _ _ _ rfl (Nat.zero_le _) (m4.into [(3, 3)] (by decide) rfl)) ?_)
 rintro e w9 ⟨p9, c9, rfl, hm9⟩
 have mx9 := m4.back hm9 [(3, 3), (62, 9)] (by decide); clear hm9 m4
 have m9 := mx9.oz [3, 62, 60, 61]
 refine ⟨_, rfl, ?_⟩; intro Az Hz
 refine goCh Hz (.move rfl <| .extract rfl rfl <| .extract rfl rfl .nil) fun Az Hz => ?_
 refine plz (e_alloc Hz m9 63 fct28 rfl fun g14 Az w15 Hz m15 _ _ => ?_)
 refine plz (stw Hz m15 63 fct14 fun w16 m16 _ => ?_)
 refine gz hK1 Hz (.assign rfl .nil) fun Az Hz => ?_
 replace Hz := Hz.oz [1, 2, 3, 6, 7, 8]
 refine zsr fun K2 hK2 => ?_
 refine goCh Hz (.loadBR m16 (i := 63) rfl rfl U90 rfl fct14 (by simp) (by dsimp only [List.drop, List.take] <;> rfl) .nil) fun Az Hz => ?_
 refine plz (ecl Hz Tryz.func35 rfl (znew_c _ y k fn cnt hC hF _ _ _ _ _ _ _ (m16.into [] (by decide) rfl)) ?_)
 rintro e w21 ⟨p21, c21, rfl, hm21⟩
 have mx21 := m16.back hm21 [(64, 9)] (by decide); clear hm21 m16
 have m21 := mx21.oz [64, 3, 60, 61, 62, 63]
 refine ⟨_, rfl, ?_⟩; intro Az Hz
 refine plz (e_alloc Hz m21 65 fct17 rfl fun g23 Az w24 Hz m24 _ _ => ?_)
 refine plz (stw Hz m24 65 fct12 fun w25 m25 _ => ?_)
 refine znl (hK2 _ _ ?_)
 refine wsk fun K3 hK3 => ?_
 refine wp_block ?_
 have m26 := m25.freezeR 64 rfl
 refine wp_loop_ghost (fun g a w => ∃ (m B3 B6 B7 B9 : Nat) (pc : Option Addr) (cc : Nat) (a1 a2 a3 a4 a5 a6 a7 : Int) (pq : Option Addr) (nq cq : Nat), m ≤ y.ws.length ∧ g = y.ws.length - m ∧ Has 44 [(1, .int .i64 (k : Int)), (2, .int .i64 mark), (3, .pointer (some ⟨B3, 0, none⟩)), (6, .pointer (some ⟨B6, 0, none⟩)), (7, .pointer (some ⟨B7, 0, none⟩)), (8, .bool true), (9, .pointer (some ⟨B9, 0, none⟩))] a ∧ MemOk X w0 [(3, .dat (.slice pw (y.ws.map wrD).length cw) (.l 2 (y.ws.map wrD))), (20, .box B3 33 [.int .i64 y.vo, .int .i64 y.bl, .int .i64 y.sz, .int .i64 y.pe, .slice pp y.place.length cp, .int .i64 y.to, .int .i64 y.ne, .bool y.hi, .int .i64 y.fl, .slice pn nn9 cn9, .slice pw (y.ws.map wrD).length cw]), (21, .box B6 28 [.int .i64 0, .int .i64 0, .int .i64 0, .int .i64 0, .int .i64 0, .int .i64 0, .slice none 0 0]), (22, .box B7 90 [.int .i64 a1, .int .i64 a2, .int .i64 a3, .int .i64 a4, .int .i64 a5, .int .i64 a6, .int .i64 a7, .slice pq nq cq]), (25, .box B9 28 [.int .i64 y.vo, .int .i64 (k : Int), .int .i64 (cnt : Int), .int .i64 y.sz, .int .i64 (m : Nat), .int .i64 (min y.fl (m : Nat)), .slice pc cnt cc]), (26, .dat (.slice pc cnt cc) (.l 1 ((chN y fn cnt m).map hD)))] w) (y.ws.length) ?_ ?_
 · have hz0 : min y.fl ((0 : Nat) : Int) = 0 := by omega
   exact ⟨0, _, _, _, _, _, _, _, _, _, _, _, _, _, _, _, _, Nat.zero_le _, rfl, Hz.only [1, 2, 3, 6, 7, 8, 9], by rw [hz0]; exact m26.ren [(3, 3), (20, 60), (21, 61), (22, 63), (25, 65), (26, 64)] (by decide)⟩
 clear Hz m26
 rintro g Az w27 ⟨m, B3, B6, B7, B9, pc, cc, a1, a2, a3, a4, a5, a6, a7, pq, nq, cq, hmn, hg, Hz, m27⟩
 refine wsk fun K4 hK4 => ?_
 refine wsk fun K5 hK5 => ?_
 have m28 := m27.oz [3, 20, 21, 22, 25, 26]
 refine region_p 14 (B := [(3, _), (20, _), (21, _), (22, _), (25, _), (26, _)]) (m28.to ⟨il, il, il, il, il, il, trivial⟩) m28 (by kernel_rfl) (fun w29 hP29 m29 => ?_); clear m28
 refine goR hP29 [0, 1, 2, 3, 4, 5, 6, 7] [3] 8 0 255 Hz (m29.to ⟨il, il, il, il, il, il, trivial⟩) (.move rfl <| .move rfl <| .fa 4 rfl U28 <| .lb hh 25 U2 rfl rfl rfl <| .move rfl <| .lss rfl rfl <| .pickT rfl rfl <| .move rfl .nil) fun Az Hz => ?_
 refine bc Hz 25 ?_ ?_
 ·
  intro hb38 Hz; try simp only [QQ, Qax] at hb38
  have hlm : (m : Int) < mark := by have := hb38; first | omega | (simp at this; omega)
  refine goR hP29 [8, 9, 10] [9, 10] 3 255 2047 Hz (m29.to ⟨il, il, il, il, il, il, trivial⟩) (.fa 4 rfl U28 <| .lb hh 25 U2 rfl rfl rfl <| .loadBR hh (i := 20) rfl rfl U33 rfl fct1 (by simp) (by dsimp only [List.drop, List.take] <;> rfl) .nil) fun Az Hz => ?_
  refine stepE_only 11 rfl (by kernel_rfl) (wantedG Hz rfl rfl rfl rfl) (fun K hK => ?_)
  refine e_call Hz Tryz.func13 rfl rfl rfl rfl (rlen_y y _ _ _ _ _ _ _ _ _) ?_
  rintro e w42 ⟨rfl, hb42⟩
  have m43 := m29.later hb42
  refine ⟨_, rfl, ?_⟩; intro Az Hz
  refine hK _ _ (m43.to ⟨il, il, il, il, il, il, trivial⟩) ?_; clear hK K
  refine goA hP29 [12, 13] 2 4095 16383 Hz (m43.to ⟨il, il, il, il, il, il, trivial⟩) (.lss rfl rfl <| .pickT rfl rfl .nil) fun Az Hz => ?_
  refine wpAnyE_done (by kernel_rfl) ?_ _
  refine hK5 _ _ ?_
  refine bc Hz 31 ?_ ?_
  ·
   intro hb47 Hz; try simp only [QQ, Qax] at hb47
   have hln : m < y.ws.length := by have := hb47; first | omega | (simp at this; omega)
   refine wct Hz ?_
   refine zss (hK4 _ _ ?_)
   refine wp_block ?_
   replace Hz := Hz.oz [1, 2, 3, 6, 7, 8, 9, 28]
   refine zsr fun K6 hK6 => ?_
   refine goCh Hz (.loadBR m43 (i := 20) rfl rfl U33 rfl fct1 (by simp) (by dsimp only [List.drop, List.take] <;> rfl) <| .move rfl <| .fa 4 rfl U28 <| .lb m43 25 U2 rfl rfl rfl .nil) fun Az Hz => ?_
   refine plz (ecl Hz Tryz.func34 rfl (gpush_x _ y k fn cnt m hC hF hwo _ _ _ _ _ _ _ _ _ rfl hmn (m43.into [(3, 3)] (by decide) rfl)) ?_)
   rintro e w57 ⟨p57, c57, rfl, hm57⟩
   have mx57 := m43.back hm57 [(3, 3), (100, 9)] (by decide); clear hm57 m43
   have m57 := mx57.oz [3, 100, 20, 21, 22, 25, 26]
   refine ⟨_, rfl, ?_⟩; intro Az Hz
   refine goCh Hz (.move rfl <| .extract rfl rfl <| .extract rfl rfl .nil) fun Az Hz => ?_
   refine plz (stw Hz m57 22 fct14 fun w62 m62 _ => ?_)
   refine gz hK6 Hz (.assign rfl .nil) fun Az Hz => ?_
   replace Hz := Hz.oz [1, 2, 3, 6, 7, 8, 9, 28]
   refine wp_region_lit ?_
   refine goCh Hz (.loadBR m62 (i := 25) rfl rfl U28 rfl fct12 (by simp) (by dsimp only [List.drop, List.take] <;> rfl) <| .loadBR m62 (i := 22) rfl rfl U90 rfl fct14 (by simp) (by dsimp only [List.drop, List.take] <;> rfl) .nil) fun Az Hz => ?_
   refine plz (ecl Hz Tryz.func36 rfl (zapply_c _ y k fn cnt m hC hF _ _ _ _ _ _ _ rfl rfl hmn (m62.into [(1, 26), (2, 100)] (by decide) rfl)) ?_)
   rintro e w67 ⟨p67, c67, rfl, hm67⟩
   have mx67 := m62.back hm67 [(26, 1), (100, 2), (101, 9)] (by decide); clear hm67 m62
   have m67 := mx67.oz [26, 100, 101, 3, 20, 21, 22, 25]
   refine ⟨_, rfl, ?_⟩; intro Az Hz
   refine plz (stw Hz m67 25 fct12 fun w69 m69 _ => ?_)
   refine wpList_nil ?_
   show ∃ n', n' < _ ∧ _
   have m70 := m69.freezeR 101 rfl
   exact ⟨y.ws.length - tqN y m, by unfold tqN; omega, tqN y m, _, _, _, _, _, _, _, _, _, _, _, _, _, _, _, _, by unfold tqN; omega, rfl, Hz.only [1, 2, 3, 6, 7, 8, 9], m70.ren [(3, 3), (20, 20), (21, 21), (22, 22), (25, 25), (26, 101)] (by decide)⟩
  intro hb47 Hz; try simp only [QQ, Qax] at hb47
  have hfin : mark ≤ (m : Int) ∨ m = y.ws.length := .inr (by have := hb47; first | omega | (simp at this; omega))
  refine wcf Hz ?_
  refine wp_exit ?_
  refine hK3 _ _ ?_
  replace Hz := Hz.oz [1, 2, 3, 6, 7, 8, 9, 28]
  refine zsr fun K7 hK7 => ?_
  refine goCh Hz (.loadBR m43 (i := 25) rfl rfl U28 rfl fct12 (by simp) (by dsimp only [List.drop, List.take] <;> rfl) .nil) fun Az Hz => ?_
  refine plz (stw Hz m43 21 fct12 fun w74 m74 _ => ?_)
  refine znl (hK7 _ _ ?_)
  refine rtd (retC (fn := Tryz.f12) Hz m74 (i := 21) rfl rfl rfl U28 rfl fct12 ?_)
  exact ⟨m, _, _, hmn, hfin, rfl, m74.ren [(3, 3), (9, 26)] (by decide)⟩
 intro hb38 Hz; try simp only [QQ, Qax] at hb38
 have hfin : mark ≤ (m : Int) ∨ m = y.ws.length := .inl (by have := hb38; first | omega | (simp at this; omega))
 refine goA hP29 [8, 9, 10, 11, 12, 13] 6 255 16383 Hz (m29.to ⟨il, il, il, il, il, il, trivial⟩) (.s <| .s <| .s <| .s <| .s <| .pickF rfl rfl .nil) fun Az Hz => ?_
 refine wpAnyE_done (by kernel_rfl) ?_ _
 refine hK5 _ _ ?_
 refine wcf Hz ?_
 refine wp_exit ?_
 refine hK3 _ _ ?_
 replace Hz := Hz.oz [1, 2, 3, 6, 7, 8, 9, 28]
 refine zsr fun K8 hK8 => ?_
 refine goCh Hz (.loadBR m29 (i := 25) rfl rfl U28 rfl fct12 (by simp) (by dsimp only [List.drop, List.take] <;> rfl) .nil) fun Az Hz => ?_
 refine plz (stw Hz m29 21 fct12 fun w84 m84 _ => ?_)
 refine znl (hK8 _ _ ?_)
 refine rtd (retC (fn := Tryz.f12) Hz m84 (i := 21) rfl rfl rfl U28 rfl fct12 ?_)
 exact ⟨m, _, _, hmn, hfin, rfl, m84.ren [(3, 3), (9, 26)] (by decide)⟩
end
section
theorem place_pos {y : VolV} {n : Nat} (hS : VolS n y) : 0 < y.place.length := by
 obtain ⟨v1, -⟩ := hS.1
 obtain ⟨n1, n2, n3, n4, n5, n6, n7, n8, n9, n10, n11⟩ := v1
 have h : (1 : Int) ≤ (y.bl + y.pe - 1) / y.pe := Int.le_ediv_of_mul_le (by omega) (by omega)
 have := n9.2
 omega
theorem place_top {y : VolV} {n : Nat} (hS : VolS n y) : y.place.length ≤ 1000 := by
 obtain ⟨v1, -⟩ := hS.1
 obtain ⟨n1, n2, n3, n4, n5, n6, n7, n8, n9, n10, n11⟩ := v1
 have h : (y.bl + y.pe - 1) / y.pe ≤ y.bl + y.pe - 1 := Int.ediv_le_self _ (by omega)
 have := n9.2
 omega
end
section
def rdF (y : VolV) (fn cnt m i : Nat) (t : Int) : List Int := (atF ((chN y fn cnt m).getD i []) t).getD (List.replicate y.sz.toNat 0)
set_option maxRecDepth 100000
set_option maxHeartbeats 4000000
theorem gchanged_c (X : Cx) (y : VolV) (k fn cnt m : Nat) (hC : CkOk y k fn cnt) (hF : VolF y) (hmn : m ≤ y.ws.length) (fi a9 b9 : Int) (p : Option Addr) (c : Nat) (w0 : World) (m0 : MemOk X w0 [(1, .dat (.slice p cnt c) (.l 1 ((chN y fn cnt m).map hD)))] w0) :
   Calls Tryz.prog 44 #[.agg #[.int .i64 y.vo, .int .i64 (k : Int), .int .i64 (cnt : Int), .int .i64 y.sz, .int .i64 (m : Int), .int .i64 fi, .slice p cnt c], .int .i64 a9, .int .i64 b9] w0 fun e w' => ∃ (p9 : Option Addr) (c9 : Nat), e = .returned (.slice p9 (chgL (chN y fn cnt m) a9 b9 cnt).length c9) ∧ MemOk X w0 [(1, .dat (.slice p cnt c) (.l 1 ((chN y fn cnt m).map hD))), (9, .num (.slice p9 (chgL (chN y fn cnt m) a9 b9 cnt).length c9) 3 .i64 (chgL (chN y fn cnt m) a9 b9 cnt))] w' := by
 have hl := hF.wl
 have hcl := chN_len y fn cnt m
 have hHB : HB 900000 (chN y fn cnt m) := chu_hb hF.wr hF.sz.2 (by omega)
 have hc2 := hC.c256
 have h := cchanged_x X y.vo (k : Int) (cnt : Int) y.sz (m : Int) fi (chN y fn cnt m) a9 b9 p c w0 (by omega) (fun x hx => ⟨(hHB.at hx).2.1, (hHB.at hx).1⟩) (by rw [hcl]; exact m0)
 rw [hcl] at h
 exact h
end
section
set_option maxRecDepth 100000
set_option maxHeartbeats 4000000
theorem gread_f (X : Cx) (y : VolV) (k fn cnt m : Nat) (f : Int) (hC : CkOk y k fn cnt) (hF : VolF y) (hm : m ≤ y.ws.length) (hf : 0 ≤ f ∧ f ≤ m) (i t : Nat) (p : Option Addr) (c : Nat) (tv : Int) (w0 : World) (S : List (List Int)) (hS : stL y.bl y.sz y.ws t = S) (htv : tv = (t : Int)) (hi : i < cnt) (hft : f ≤ tv) (ht : tv ≤ m) (m0 : MemOk X w0 [(1, .dat (.slice p cnt c) (.l 1 ((chuH y.ws (fn : Int) cnt m f).map hD)))] w0) :
   Calls Tryz.prog 70 #[.agg #[.int .i64 y.vo, .int .i64 (k : Int), .int .i64 (cnt : Int), .int .i64 y.sz, .int .i64 (m : Int), .int .i64 f, .slice p cnt c], .int .i64 (i : Int), .int .i64 tv] w0 fun e w' => ∃ (p9 : Option Addr) (c9 : Nat), e = .returned (.tuple #[.slice p9 (S.getD (fn + i) []).length c9, .int .i64 0]) ∧ MemOk X w0 [(1, .dat (.slice p cnt c) (.l 1 ((chuH y.ws (fn : Int) cnt m f).map hD))), (9, .dat (.slice p9 (S.getD (fn + i) []).length c9) (.ns .u8 (S.getD (fn + i) [])))] w' := by
 subst htv hS
 have hl := hF.wl; have htop := hC.top
 have hR := chu_read hF.wr (fi := (fn : Int)) (fl := f) (fn := fn) (cnt := cnt) (m := m) (t := t) (i := i) rfl hft (by omega) hi (by omega)
 have hcl : (chuH y.ws (fn : Int) cnt m f).length = cnt := chuH_len _ _ _ _ _
 have hHB : HB 900000 (chuH y.ws (fn : Int) cnt m f) := chu_hb hF.wr hF.sz.2 (by omega)
 rw [← hR]
 have hc2 := hC.c256
 rcases hA : atF ((chuH y.ws (fn : Int) cnt m f).getD i []) t with _ | d
 · have h := cread_none X y.vo (k : Int) (cnt : Int) y.sz (m : Int) f (chuH y.ws (fn : Int) cnt m f) i (t : Int) p c w0 (by omega) hHB.ok (chu_rise hF.wr) (by omega) (by omega) ⟨by have := hF.sz; omega, hF.sz.2⟩ hft ht hA (by rw [hcl]; exact m0)
   rw [hcl] at h
   rw [hA] at h
   exact h
 have h := cread_some X y.vo (k : Int) (cnt : Int) y.sz (m : Int) f (chuH y.ws (fn : Int) cnt m f) i (t : Int) p c w0 (by omega) hHB.ok (chu_rise hF.wr) (by omega) (by omega) ⟨by have := hF.sz; omega, hF.sz.2⟩ hft ht hA (by rw [hcl]; exact m0)
 rw [hcl] at h
 rw [hA] at h
 exact h
end
section
def lastB (its : List (Int × List Int)) (k : Nat) : Int := if k = 0 then -1 else (its.getD (k - 1) i0).1
structure StreamOk (bl sz fr to : Int) (its : List (Int × List Int)) : Prop where
 b : 1 ≤ bl ∧ bl ≤ 256
 z : 1 ≤ sz ∧ sz ≤ 32
 f : -1 ≤ fr
 t : 0 ≤ to ∧ to ≤ 1099511627776
 ft : fr ≤ to
 l : fr = -1 → (its.length : Int) = bl
 i : ∀ k e, its[k]? = some e → lastB its k < e.1 ∧ e.1 < bl ∧ (e.2.length : Int) = sz
 len : its.length ≤ 256
def wholeI (S : List (List Int)) (k : Nat) : List (Int × List Int) := (List.range k).map (fun j : Nat => ((j : Int), S.getD j []))
theorem wholeI_len (S : List (List Int)) (k : Nat) : (wholeI S k).length = k := by simp [wholeI]
set_option maxRecDepth 100000
set_option maxHeartbeats 4000000
end
section
set_option maxRecDepth 100000
set_option maxHeartbeats 4000000
end
section
def fnY (y : VolV) (k : Nat) : Nat := ((k : Int) * y.pe).toNat
def cnY (y : VolV) (k : Nat) : Nat := (min y.pe (y.bl - (k : Int) * y.pe)).toNat
theorem ckY {y : VolV} {n k : Nat} (hS : VolS n y) (hk : k < y.place.length) : CkOk y k (fnY y k) (cnY y k) := by
 obtain ⟨v1, -⟩ := hS.1
 obtain ⟨n1, n2, n3, n4, n5, n6, n7, n8, n9, n10, n11⟩ := v1
 have h := chunk_math n7 n8 n4 n9.2 (ch := (k : Int)) ⟨by omega, by omega⟩
 have hkb : (k : Int) ≤ (k : Int) * y.pe := by
   have := Int.mul_le_mul_of_nonneg_left n7 (show (0 : Int) ≤ k by omega)
   omega
 unfold fnY cnY
 exact ⟨hk, by omega, by omega, by omega, by omega, by omega, by omega, by omega⟩
def enY (y : VolV) (k : Nat) : Nat := (min ((k : Int) * y.pe) y.bl).toNat
theorem vol_len {y : VolV} {n : Nat} (hS : VolS n y) : 1 ≤ y.pe ∧ 1 ≤ y.bl ∧ y.bl ≤ 256 ∧ (y.place.length : Int) * y.pe ≤ y.bl + y.pe - 1 ∧ y.bl ≤ (y.place.length : Int) * y.pe := by
 obtain ⟨v1, -⟩ := hS.1
 obtain ⟨n1, n2, n3, n4, n5, n6, n7, n8, n9, n10, n11⟩ := v1
 have q1 := Int.ediv_mul_le (y.bl + y.pe - 1) (show y.pe ≠ 0 by omega)
 have q2 := Int.lt_ediv_add_one_mul_self (y.bl + y.pe - 1) (show 0 < y.pe by omega)
 rw [← n9.2] at q1 q2
 rw [Int.add_mul, Int.one_mul] at q2
 exact ⟨n7, n3, n4, q1, by omega⟩
theorem en_zero {y : VolV} {n : Nat} (hS : VolS n y) : enY y 0 = 0 := by
 have := vol_len hS
 unfold enY
 omega
theorem en_all {y : VolV} {n : Nat} (hS : VolS n y) : enY y y.place.length = y.bl.toNat := by
 have := vol_len hS
 unfold enY
 omega
theorem en_fn {y : VolV} {n k : Nat} (hS : VolS n y) (hk : k < y.place.length) : enY y k = fnY y k := by
 have h1 := vol_len hS
 have h2 : ((k : Int) + 1) * y.pe ≤ (y.place.length : Int) * y.pe := Int.mul_le_mul_of_nonneg_right (by omega) (by omega)
 rw [Int.add_mul, Int.one_mul] at h2
 unfold enY fnY
 omega
theorem en_next {y : VolV} {n k : Nat} (hS : VolS n y) (hk : k < y.place.length) : fnY y k + cnY y k = enY y (k + 1) := by
 have h1 := vol_len hS
 have h2 : ((k : Int) + 1) * y.pe ≤ (y.place.length : Int) * y.pe := Int.mul_le_mul_of_nonneg_right (by omega) (by omega)
 have h3 : 0 ≤ (k : Int) * y.pe := Int.mul_nonneg (by omega) (by omega)
 rw [Int.add_mul, Int.one_mul] at h2
 unfold enY fnY cnY
 rw [show ((k + 1 : Nat) : Int) = (k : Int) + 1 by omega, Int.add_mul, Int.one_mul]
 omega
theorem ck_last {y : VolV} {n k : Nat} (hS : VolS n y) (hk : k < y.place.length) : ((k : Int) = (y.place.length : Int) - 1 → y.bl - (fnY y k : Int) = (cnY y k : Int)) ∧ ((k : Int) ≠ (y.place.length : Int) - 1 → (cnY y k : Int) = y.pe) := by
 have h1 := vol_len hS
 have h3 : 0 ≤ (k : Int) * y.pe := Int.mul_nonneg (by omega) (by omega)
 unfold fnY cnY
 constructor
 · intro h
   have h4 : (k : Int) * y.pe = (y.place.length : Int) * y.pe - y.pe := by rw [h, Int.sub_mul, Int.one_mul]
   omega
 intro h
 have h2 : ((k : Int) + 1 + 1) * y.pe ≤ (y.place.length : Int) * y.pe := Int.mul_le_mul_of_nonneg_right (by omega) (by omega)
 rw [Int.add_mul, Int.add_mul, Int.one_mul] at h2
 omega
def ckD (y : VolV) (x : Nat × Nat) : List D := [.v (.int .i64 y.vo), .v (.int .i64 (x.1 : Int)), .v (.int .i64 (cnY y x.1 : Int)), .v (.int .i64 y.sz), .v (.int .i64 (x.2 : Int)), .v (.int .i64 (min y.fl (x.2 : Int))), .l 1 ((chN y (fnY y x.1) (cnY y x.1) x.2).map hD)]
theorem ckD_get {y : VolV} {L : List (Nat × Nat)} {i k m : Nat} (e : L[i]? = some (k, m)) : (L.map (ckD y))[i]? = some [.v (.int .i64 y.vo), .v (.int .i64 (k : Int)), .v (.int .i64 (cnY y k : Int)), .v (.int .i64 y.sz), .v (.int .i64 (m : Int)), .v (.int .i64 (min y.fl (m : Int))), .l 1 ((chN y (fnY y k) (cnY y k) m).map hD)] := by simp [e, ckD]
def PkOk (y : VolV) (k : Nat) (a b : Int) (x : Nat × Nat) : Prop := x.1 = k ∧ min y.fl (x.2 : Int) ≤ a ∧ b ≤ (x.2 : Int)
theorem pk_snoc {y : VolV} {k : Nat} {a b : Int} {L : List (Nat × Nat)} {i : Nat} {x : Nat × Nat} (h : ∀ z ∈ L.take i, ¬ PkOk y k a b z) (hes : L[i]? = some x) (hx : ¬ PkOk y k a b x) : ∀ z ∈ L.take (i + 1), ¬ PkOk y k a b z := by
 rw [take_snoc hes]
 intro z hz
 rcases List.mem_append.1 hz with h1 | h1
 · exact h z h1
 obtain rfl := List.mem_singleton.1 h1
 exact hx
def PkL (y : VolV) (L : List (Nat × Nat)) (a b : Int) (Lp : List (Nat × Nat)) (j : Nat) : Prop := Lp.length = j ∧ ∀ (x : Nat × Nat) (i : Nat), Lp[i]? = some x → PkOk y i a b x ∧ x ∈ L
theorem PkL.snoc {y : VolV} {L : List (Nat × Nat)} {a b : Int} {Lp : List (Nat × Nat)} {j m : Nat} (h : PkL y L a b Lp j) (hm : (j, m) ∈ L) (ha : min y.fl (m : Int) ≤ a) (hb : b ≤ (m : Int)) : PkL y L a b (Lp ++ [(j, m)]) (j + 1) := by
 refine ⟨by rw [List.length_append, h.1]; rfl, fun x i hx => ?_⟩
 rcases Nat.lt_or_ge i Lp.length with h1 | h1
 · rw [List.getElem?_append_left h1] at hx
   exact h.2 x i hx
 rw [List.getElem?_append_right h1] at hx
 have h2 := (List.getElem?_eq_some_iff.1 hx).1
 have h3 : i - Lp.length = 0 := by simp at h2; omega
 rw [h3] at hx
 obtain rfl : (j, m) = x := by simpa using hx
 have := h.1
 exact ⟨⟨by show j = i; omega, ha, hb⟩, hm⟩
def selI (S : List (List Int)) (P : Nat → Bool) (b : Nat) : List (Int × List Int) := ((List.range b).filter P).map fun j : Nat => ((j : Int), S.getD j [])
def ckI (S : List (List Int)) (fn : Nat) (L : List Nat) : List (Int × List Int) := L.map fun i : Nat => (((fn + i : Nat) : Int), S.getD (fn + i) [])
theorem selI_ck (S : List (List Int)) (P : Nat → Bool) (fn c : Nat) : selI S P (fn + c) = selI S P fn ++ ckI S fn ((List.range c).filter fun i => P (fn + i)) := by
 unfold selI ckI
 rw [List.range_add, List.filter_append, List.map_append, List.filter_map, List.map_map]
 rfl
theorem selI_len (S : List (List Int)) (P : Nat → Bool) (b : Nat) : (selI S P b).length ≤ b := by
 unfold selI; rw [List.length_map]; exact Nat.le_trans (List.length_filter_le _ _) (Nat.le_of_eq List.length_range)
theorem ckI_len (S : List (List Int)) (fn : Nat) (L : List Nat) : (ckI S fn L).length = L.length := by unfold ckI; rw [List.length_map]
theorem ckI_snoc {S : List (List Int)} {fn j q : Nat} {L : List Nat} (h : L[j]? = some q) : ckI S fn (L.take (j + 1)) = ckI S fn (L.take j) ++ [(((fn + q : Nat) : Int), S.getD (fn + q) [])] := by
 unfold ckI; rw [take_snoc h, List.map_append]; rfl
theorem selI_all (S : List (List Int)) (b : Nat) : selI S (fun _ => true) b = wholeI S b := by
 unfold selI wholeI; rw [List.filter_eq_self.2 (fun _ _ => rfl)]
def selN (P : Nat → Bool) (fn c : Nat) : List Nat := (List.range c).filter fun i => P (fn + i)
def selJ (P : Nat → Bool) (fn c : Nat) : List Int := (selN P fn c).map fun i : Nat => (i : Int)
theorem selN_len (P : Nat → Bool) (fn c : Nat) : (selN P fn c).length ≤ c := Nat.le_trans (List.length_filter_le _ _) (Nat.le_of_eq List.length_range)
theorem selJ_len (P : Nat → Bool) (fn c : Nat) : (selJ P fn c).length = (selN P fn c).length := by unfold selJ; rw [List.length_map]
theorem selN_at {P : Nat → Bool} {fn c j : Nat} (hj : j < (selN P fn c).length) : ∃ q, (selN P fn c)[j]? = some q ∧ q < c ∧ (selJ P fn c).getD j 0 = (q : Int) := by
 refine ⟨(selN P fn c)[j], List.getElem?_eq_getElem hj, ?_, ?_⟩
 · exact List.mem_range.1 (List.mem_filter.1 (List.getElem_mem hj)).1
 unfold selJ
 rw [List.getD, List.getElem?_map, List.getElem?_eq_getElem hj]; rfl
def chgB (y : VolV) (a t : Int) (b : Nat) : Bool := chgF (pruneF (blkH (y.ws.take y.ws.length) (b : Int)) (min y.fl (y.ws.length : Int))) a t
end
section
instance (y : VolV) (k : Nat) (a b : Int) (x : Nat × Nat) : Decidable (PkOk y k a b x) := by unfold PkOk; infer_instance
def pkF (y : VolV) (L : List (Nat × Nat)) (k : Nat) (a b : Int) : Option (Nat × Nat) := L.find? fun z => decide (PkOk y k a b z)
def AllOk (y : VolV) (L : List (Nat × Nat)) (a b : Int) : Prop := ∀ k, k < y.place.length → ∃ m, (k, m) ∈ L ∧ min y.fl (m : Int) ≤ a ∧ b ≤ (m : Int)
theorem find_at {α : Type} {p : α → Bool} : ∀ {L : List α} {i : Nat} {x : α}, (∀ z ∈ L.take i, p z = false) → L[i]? = some x → p x = true → L.find? p = some x
 | [], i, x, _, h, _ => by simp at h
 | a :: L, 0, x, _, h, hp => by
   obtain rfl : a = x := by simpa using h
   rw [List.find?_cons, hp]
 | a :: L, i + 1, x, hn, h, hp => by
   have h1 : p a = false := hn a (by rw [List.take_succ_cons]; exact List.mem_cons_self)
   rw [List.find?_cons, h1]
   exact find_at (i := i) (fun z hz => hn z (by rw [List.take_succ_cons]; exact List.mem_cons_of_mem _ hz)) (by simpa using h) hp
theorem pkF_at {y : VolV} {k : Nat} {a b : Int} {L : List (Nat × Nat)} {i : Nat} {x : Nat × Nat} (h : ∀ z ∈ L.take i, ¬ PkOk y k a b z) (hes : L[i]? = some x) (hx : PkOk y k a b x) : pkF y L k a b = some x :=
 find_at (fun z hz => decide_eq_false (h z hz)) hes (decide_eq_true hx)
theorem pkF_no {y : VolV} {k : Nat} {a b : Int} {L : List (Nat × Nat)} (h : ∀ z ∈ L, ¬ PkOk y k a b z) : pkF y L k a b = none :=
 List.find?_eq_none.2 (fun z hz => by rw [decide_eq_true_eq]; exact h z hz)
theorem pkF_some {y : VolV} {k : Nat} {a b : Int} {L : List (Nat × Nat)} {x : Nat × Nat} (h : pkF y L k a b = some x) : PkOk y k a b x ∧ x ∈ L :=
 ⟨of_decide_eq_true (List.find?_some (p := fun z => decide (PkOk y k a b z)) h), List.mem_of_find?_eq_some h⟩
theorem pkF_none {y : VolV} {k : Nat} {a b : Int} {L : List (Nat × Nat)} (h : pkF y L k a b = none) : ∀ z ∈ L, ¬ PkOk y k a b z := fun z hz hx => by
 have := List.find?_eq_none.1 h z hz
 exact this (decide_eq_true hx)
theorem PkL.all {y : VolV} {L Lp : List (Nat × Nat)} {a b : Int} (h : PkL y L a b Lp y.place.length) : AllOk y L a b := fun k hk => by
 have hl : k < Lp.length := by rw [h.1]; exact hk
 obtain ⟨x, hx⟩ : ∃ x, Lp[k]? = some x := ⟨_, List.getElem?_eq_getElem hl⟩
 obtain ⟨⟨h1, h2, h3⟩, h4⟩ := h.2 x k hx
 exact ⟨x.2, by rw [← h1]; exact h4, h2, h3⟩
theorem Rise.le {h : List Ver} (hr : Rise h) {i j : Nat} (hij : i ≤ j) (hj : j < h.length) : (h.getD i v0).1 ≤ (h.getD j v0).1 := by
 rcases Nat.lt_or_ge i j with h1 | h1
 · have := hr.lt h1 hj; omega
 rw [show i = j by omega]; exact Int.le_refl _
theorem ver_at {h : List Ver} {v : Ver} (hv : v ∈ h) : ∃ i, i < h.length ∧ h.getD i v0 = v := by
 obtain ⟨i, hi, rfl⟩ := List.getElem_of_mem hv
 exact ⟨i, hi, by rw [List.getD, List.getElem?_eq_getElem hi]; rfl⟩
theorem ver_mem {h : List Ver} {i : Nat} (hi : i < h.length) : h.getD i v0 ∈ h := by
 rw [List.getD, List.getElem?_eq_getElem hi]; exact List.getElem_mem hi
theorem chgF_iff {h : List Ver} (hr : Rise h) {a b : Int} : chgF h a b = true ↔ ∃ v ∈ h, a < v.1 ∧ v.1 ≤ b := by
 unfold chgF
 rw [Bool.and_eq_true, decide_eq_true_eq, decide_eq_true_eq]
 constructor
 · rintro ⟨h1, h2⟩
   exact ⟨_, ver_mem h1, upN_at h1, h2⟩
 rintro ⟨v, hv, h1, h2⟩
 obtain ⟨i, hi, rfl⟩ := ver_at hv
 have h3 : upN h a ≤ i := by
   rcases Nat.lt_or_ge i (upN h a) with h4 | h4
   · have := upN_below h4; omega
   exact h4
 exact ⟨by omega, Int.le_trans (hr.le h3 hi) h2⟩
theorem prune_mem {h : List Ver} {f : Int} {v : Ver} (hv : v ∈ h) (hf : f < v.1) : v ∈ pruneF h f := by
 obtain ⟨i, hi, rfl⟩ := ver_at hv
 have h3 : upN h f ≤ i := by
   rcases Nat.lt_or_ge i (upN h f) with h4 | h4
   · have := upN_below h4; omega
   exact h4
 unfold pruneF
 rw [List.mem_iff_getElem?]
 refine ⟨i - (upN h f - 1), ?_⟩
 rw [List.getElem?_drop, show upN h f - 1 + (i - (upN h f - 1)) = i by omega, List.getD, List.getElem?_eq_getElem hi]
 rfl
theorem blk_take {bl sz : Int} {ws : List PWr} (hw : WrPre bl sz ws ws.length) {m : Nat} {b : Int} {v : Ver} (hm : m ≤ ws.length) : v ∈ blkH (ws.take m) b ↔ v ∈ blkH ws b ∧ v.1 ≤ (m : Int) := by
 have e : blkH ws b = blkH (ws.take m) b ++ blkH (ws.drop m) b := by rw [← blk_app, List.take_append_drop]
 constructor
 · intro h
   refine ⟨by rw [e]; exact List.mem_append.2 (.inl h), ?_⟩
   obtain ⟨w, hw1, h1, -⟩ := blk_mem h
   have := ws_take hw hw1
   omega
 rintro ⟨h1, h2⟩
 rw [e] at h1
 rcases List.mem_append.1 h1 with h3 | h3
 · exact h3
 obtain ⟨w, hw1, h4, -⟩ := blk_mem h3
 have h5 : (m : Int) < w.1 := ws_drop (tq := ws.length) hw (by rw [List.take_length]; exact hw1)
 omega
theorem chg_m {y : VolV} (hF : VolF y) {m : Nat} {f t : Int} {b : Int} (hm : m ≤ y.ws.length) (hf : min y.fl (m : Int) ≤ f) (ht : t ≤ (m : Int)) (hfl : y.fl ≤ f) : chgF (pruneF (blkH (y.ws.take m) b) (min y.fl (m : Int))) f t = chgF (pruneF (blkH (y.ws.take y.ws.length) b) (min y.fl (y.ws.length : Int))) f t := by
 have r1 : Rise (pruneF (blkH (y.ws.take m) b) (min y.fl (m : Int))) := prune_rise (blk_rise (ws_rise hF.wr).take)
 have r2 : Rise (pruneF (blkH (y.ws.take y.ws.length) b) (min y.fl (y.ws.length : Int))) := prune_rise (blk_rise (ws_rise hF.wr).take)
 have h : ∀ v : Ver, f < v.1 ∧ v.1 ≤ t → (v ∈ pruneF (blkH (y.ws.take m) b) (min y.fl (m : Int)) ↔ v ∈ pruneF (blkH (y.ws.take y.ws.length) b) (min y.fl (y.ws.length : Int))) := by
   intro v hv
   constructor
   · intro h1
     have h2 := (blk_take hF.wr hm).1 (mem_prune h1)
     exact prune_mem (by rw [List.take_length]; exact h2.1) (by omega)
   intro h1
   have h2 := mem_prune h1
   rw [List.take_length] at h2
   exact prune_mem ((blk_take hF.wr hm).2 ⟨h2, by omega⟩) (by omega)
 rw [Bool.eq_iff_iff, chgF_iff r1, chgF_iff r2]
 constructor
 · rintro ⟨v, h1, h2⟩
   exact ⟨v, (h v h2).1 h1, h2⟩
 rintro ⟨v, h1, h2⟩
 exact ⟨v, (h v h2).2 h1, h2⟩
theorem chg_at {y : VolV} (hF : VolF y) {m fn cnt i : Nat} {f t : Int} (hm : m ≤ y.ws.length) (hf : min y.fl (m : Int) ≤ f) (ht : t ≤ (m : Int)) (hfl : y.fl ≤ f) (hi : i < cnt) : chgF ((chN y fn cnt m).getD i []) f t = chgB y f t (fn + i) := by
 unfold chN chgB
 rw [chuH_at hi, show ((fn + i : Nat) : Int) = (fn : Int) + (i : Int) by omega]
 exact chg_m hF hm hf ht hfl
theorem chgB_m {y : VolV} (hF : VolF y) {m fn cnt : Nat} {f t : Int} (hm : m ≤ y.ws.length) (hf : min y.fl (m : Int) ≤ f) (ht : t ≤ (m : Int)) (hfl : y.fl ≤ f) : chgL (chN y fn cnt m) f t cnt = selJ (chgB y f t) fn cnt := by
 unfold chgL selJ selN
 congr 1
 exact List.filter_congr fun i hi => chg_at hF hm hf ht hfl (List.mem_range.1 hi)
end
section
theorem fl28epk : flatS Tryz.prog 28 [.int .i64 0, .int .i64 0, .int .i64 0, .int .i64 0, .int .i64 0, .int .i64 0, .slice none 0 0] = true := by kernel_rfl
theorem vpush_y (y : VolV) (n : Nat) (hS : VolS n y) (hn : n ≤ 1000) (pp pn pw : Option Addr) (cp nn9 cn9 cw : Nat) (k : Nat) (hk : k < y.place.length) (w0 : World) (h2 : Rd (fun _ => True) w0 (.slice pw (y.ws.map wrD).length cw) (.l 2 (y.ws.map wrD))) :
   Calls Tryz.prog 45 #[.agg #[.int .i64 y.vo, .int .i64 y.bl, .int .i64 y.sz, .int .i64 y.pe, .slice pp y.place.length cp, .int .i64 y.to, .int .i64 y.ne, .bool y.hi, .int .i64 y.fl, .slice pn nn9 cn9, .slice pw (y.ws.map wrD).length cw], .int .i64 (k : Int), .int .i64 0] w0 fun e w' => ∃ (tq fl2 : Int) (p : Option Addr) (np c : Nat), e = .returned (.tuple #[.agg #[.int .i64 y.vo, .int .i64 (k : Int), .int .i64 (cnY y k : Int), .int .i64 y.sz, .int .i64 0, .int .i64 tq, .int .i64 fl2, .slice p np c], .bool true]) ∧ Below w0.heap.size w0 w' := by
 have hF := hS.f hn
 have hC := ckY hS hk
 have hL := ck_last hS hk
 have hpl := place_top hS
 have hwl := hF.wl
 have hf := hC.fe
 have hfb := hC.fnb
 have hcb := hC.c256
 rw [List.length_map] at h2
 rw [List.length_map]
 have h := push_any y.vo y.bl y.sz y.pe y.to y.ne y.fl y.hi pp pn pw cp nn9 cn9 cw y.place y.ws (k : Int) (fnY y k : Int) (cnY y k : Int) 0 (min 4 y.ws.length) w0 h2 (by omega) (by omega) hS.1.its.1 ⟨by omega, by omega⟩ (Nat.zero_le _) hf.symm ⟨by omega, by omega⟩ hL ⟨by omega, by omega⟩ (by omega)
 refine h.mono fun e w' h9 => ?_
 obtain ⟨p, c, h5, -, h6⟩ := h9
 exact ⟨_, _, p, _, c, h5, h6⟩
theorem ecopy_x (X : Cx) (y : VolV) (k fn cnt m : Nat) (hC : CkOk y k fn cnt) (hF : VolF y) (hmn : m ≤ y.ws.length) (nn c : Nat) (p : Option Addr) (w0 : World) (m0 : MemOk X w0 [(1, .dat (.slice p nn c) (.l 1 ((chN y fn cnt m).map hD)))] w0) :
   Calls Tryz.prog 46 #[.agg #[.int .i64 y.vo, .int .i64 (k : Int), .int .i64 (cnt : Int), .int .i64 y.sz, .int .i64 (m : Int), .int .i64 (min y.fl (m : Int)), .slice p nn c]] w0 fun e w' => ∃ (p9 : Option Addr) (c9 : Nat), e = .returned (.agg #[.int .i64 y.vo, .int .i64 (k : Int), .int .i64 (cnt : Int), .int .i64 y.sz, .int .i64 (m : Int), .int .i64 (min y.fl (m : Int)), .slice p9 cnt c9]) ∧ MemOk X w0 [(1, .dat (.slice p nn c) (.l 1 ((chN y fn cnt m).map hD))), (9, .dat (.slice p9 cnt c9) (.l 1 ((chN y fn cnt m).map hD)))] w' := by
 have hcl := chN_len y fn cnt m
 obtain rfl : cnt = nn := by have h9 := nnOf (m0.rd (i := 1) rfl); rw [hcl] at h9; exact h9.symm
 have hl := hF.wl
 have hHB : HB 900000 (chN y fn cnt m) := chu_hb hF.wr hF.sz.2 (by omega)
 have hc2 := hC.c256
 have h := pchunk_x X y.vo (k : Int) (cnt : Int) y.sz (m : Int) (min y.fl (m : Int)) (chN y fn cnt m) p c w0 (by omega) hHB.ok (by rw [hcl]; exact m0)
 rw [hcl] at h
 refine h.mono fun e w' h9 => ?_
 obtain ⟨p9, c9, h1, h2⟩ := h9
 exact ⟨p9, c9, h1, (h2.freezeR 9 rfl).ren [(1, 1), (9, 9)] (by decide)⟩
theorem nopk {y : VolV} {L : List (Nat × Nat)} {k : Nat} {a b : Int} (h : ¬ ∃ m, (k, m) ∈ L ∧ min y.fl (m : Int) ≤ a ∧ b ≤ (m : Int)) : pkF y L k a b = none := pkF_no (fun z hz hx => h ⟨z.2, by obtain ⟨h1, -⟩ := hx; rw [← h1]; exact hz, hx.2.1, hx.2.2⟩)
set_option maxRecDepth 100000
set_option maxHeartbeats 4000000
theorem epick_f (X : Cx) (y : VolV) (n : Nat) (hS : VolS n y) (hn : n ≤ 1000) (pp pn pw : Option Addr) (cp nn9 cn9 cw : Nat) (L : List (Nat × Nat)) (pl : Option Addr) (cl : Nat) (k : Nat) (a9 b9 : Int) (w0 : World) (hL : L.length ≤ 1000000) (hLo : ∀ x ∈ L, x.1 < y.place.length ∧ x.2 ≤ y.ws.length) (hk : k < y.place.length) (m0 : MemOk X w0 [(3, .dat (.slice pw (y.ws.map wrD).length cw) (.l 2 (y.ws.map wrD))), (4, .dat (.slice pl L.length cl) (.l 7 (L.map (ckD y))))] w0) :
   Calls Tryz.prog 19 #[.agg #[.int .i64 y.vo, .int .i64 y.bl, .int .i64 y.sz, .int .i64 y.pe, .slice pp y.place.length cp, .int .i64 y.to, .int .i64 y.ne, .bool y.hi, .int .i64 y.fl, .slice pn nn9 cn9, .slice pw (y.ws.map wrD).length cw], .slice pl L.length cl, .int .i64 (k : Int), .int .i64 a9, .int .i64 b9] w0 fun e w' => (∃ (m : Nat) (p9 : Option Addr) (c9 : Nat), pkF y L k a9 b9 = some (k, m) ∧ e = .returned (.tuple #[.agg #[.int .i64 y.vo, .int .i64 (k : Int), .int .i64 (cnY y k : Int), .int .i64 y.sz, .int .i64 (m : Int), .int .i64 (min y.fl (m : Int)), .slice p9 (cnY y k) c9], .bool true]) ∧ MemOk X w0 [(3, .dat (.slice pw (y.ws.map wrD).length cw) (.l 2 (y.ws.map wrD))), (4, .dat (.slice pl L.length cl) (.l 7 (L.map (ckD y)))), (9, .dat (.slice p9 (cnY y k) c9) (.l 1 ((chN y (fnY y k) (cnY y k) m).map hD)))] w') ∨ (pkF y L k a9 b9 = none ∧ e = .returned (.tuple #[.agg #[.int .i64 0, .int .i64 0, .int .i64 0, .int .i64 0, .int .i64 0, .int .i64 0, .slice none 0 0], .bool false]) ∧ MemOk X w0 [(3, .dat (.slice pw (y.ws.map wrD).length cw) (.l 2 (y.ws.map wrD))), (4, .dat (.slice pl L.length cl) (.l 7 (L.map (ckD y))))] w') := by
 refine ent5 Tryz.func19 rfl Tryz.ntmps19 fun Az Hz => ?_
 have hF := hS.f hn
 have hC := ckY hS hk
 refine zsr fun K0 hK0 => ?_
 refine plz (e_box Hz m0 40 (cs := [_, _, _, _, _, _, _, _, _, _, _]) rfl rfl rfl fun g1 Az w2 Hz m2 _ _ => ?_)
 refine plz (e_alloc Hz m2 41 fct17 rfl fun g3 Az w4 Hz m4 _ _ => ?_)
 refine gz hK0 Hz (.assign rfl .nil) fun Az Hz => ?_
 refine zsr fun K1 hK1 => ?_
 refine goCh Hz (.loadBR m4 (i := 40) rfl rfl U33 rfl fct1 (by simp) (by dsimp only [List.drop, List.take] <;> rfl) <| .move rfl .nil) fun Az Hz => ?_
 refine plz (ecl Hz Tryz.func45 rfl (vpush_y y n hS hn _ _ _ _ _ _ _ k hk _ (m4.rd (i := 3) rfl).any) ?_)
 rintro e w10 ⟨tq9, fq9, p10, np10, c10, rfl, hb10⟩
 have m11 := m4.later hb10
 refine ⟨_, rfl, ?_⟩; intro Az Hz
 refine goCh Hz (.move rfl <| .extract rfl rfl <| .extract rfl rfl .nil) fun Az Hz => ?_
 refine plz (e_alloc Hz m11 42 fct28 rfl fun g16 Az w17 Hz m17 _ _ => ?_)
 refine plz (stw Hz m17 42 fct14 fun w18 m18 _ => ?_)
 refine gz hK1 Hz (.assign rfl .nil) fun Az Hz => ?_
 refine wsk fun K2 hK2 => ?_
 replace Hz := Hz.oz [1, 3, 4, 10, 11, 12, 13]
 refine regS Hz (.move rfl <| .not rfl .nil) fun Az Hz => ?_
 refine wcf Hz ?_
 refine zss (hK2 _ _ ?_)
 refine wsk fun K3 hK3 => ?_
 refine regS Hz (.move rfl <| .len rfl U23 <| .move rfl .nil) fun Az Hz => ?_
 refine wp_block ?_
 refine wp_loop_ghost (fun g a w => ∃ (i B10 B12 : Nat) (tq9 fq9 : Int) (pq : Option Addr) (nq cq : Nat), i ≤ L.length ∧ g = L.length - i ∧ (∀ z ∈ L.take i, ¬ PkOk y k a9 b9 z) ∧ Has 75 [(3, .int .i64 a9), (4, .int .i64 b9), (10, .pointer (some ⟨B10, 0, none⟩)), (12, .pointer (some ⟨B12, 0, none⟩)), (26, .slice pl L.length cl), (27, .int .i64 L.length), (28, .int .i64 i)] a ∧ MemOk X w0 [(3, .dat (.slice pw (y.ws.map wrD).length cw) (.l 2 (y.ws.map wrD))), (4, .dat (.slice pl L.length cl) (.l 7 (L.map (ckD y)))), (20, .box B10 28 [.int .i64 0, .int .i64 0, .int .i64 0, .int .i64 0, .int .i64 0, .int .i64 0, .slice none 0 0]), (21, .box B12 90 [.int .i64 y.vo, .int .i64 (k : Int), .int .i64 (cnY y k : Int), .int .i64 y.sz, .int .i64 0, .int .i64 tq9, .int .i64 fq9, .slice pq nq cq])] w) (L.length) ?_ ?_
 · exact ⟨0, _, _, _, _, _, _, _, Nat.zero_le _, rfl, (fun z hz => by rw [List.take_zero] at hz; cases hz), Hz.only [3, 4, 10, 12, 26, 27, 28], m18.ren [(3, 3), (4, 4), (20, 41), (21, 42)] (by decide)⟩
 clear Hz m18
 rintro g Az w26 ⟨i, B10, B12, tq9, fq9, pq, nq, cq, hil, hg, hno, Hz, m26⟩
 refine regS Hz (.lss rfl rfl .nil) fun Az Hz => ?_
 refine wsk fun K4 hK4 => ?_
 refine bc Hz 29 ?_ ?_
 ·
  intro hb28 Hz; try simp only [QQ, Qax] at hb28
  have hi : i < L.length := by have := hb28; first | omega | (simp at this; omega) | (simp at this; exact this)
  obtain ⟨⟨xk, xm⟩, hes⟩ : ∃ e, L[i]? = some e := ⟨_, List.getElem?_eq_getElem hi⟩
  have hxL := hLo _ (List.mem_of_getElem? hes)
  dsimp only at hxL
  have hxm := hxL.2
  refine wct Hz ?_
  refine zss (hK4 _ _ ?_)
  refine wsk fun K5 hK5 => ?_
  refine wp_block ?_
  refine zsr fun K6 hK6 => ?_
  obtain ⟨b30, o30, vs30, hp30, hR30, ho30, m30⟩ := m26.openR (i := 4) rfl (i) (r := [.v (.int .i64 y.vo), .v (.int .i64 (xk : Int)), .v (.int .i64 (cnY y xk : Int)), .v (.int .i64 y.sz), .v (.int .i64 (xm : Int)), .v (.int .i64 (min y.fl (xm : Int))), .l 1 ((chN y (fnY y xk) (cnY y xk) xm).map hD)]) (ckD_get hes) 100 rfl
  revert Hz
  cases hp30; clear m26 ho30
  rcases hR30 with _ | ⟨hd30_0, _ | ⟨hd30_1, _ | ⟨hd30_2, _ | ⟨hd30_3, _ | ⟨hd30_4, _ | ⟨hd30_5, _ | ⟨hd30_6, _ | _⟩⟩⟩⟩⟩⟩⟩
  obtain rfl := hd30_0.v_out
  clear hd30_0
  obtain rfl := hd30_1.v_out
  clear hd30_1
  obtain rfl := hd30_2.v_out
  clear hd30_2
  obtain rfl := hd30_3.v_out
  clear hd30_3
  obtain rfl := hd30_4.v_out
  clear hd30_4
  obtain rfl := hd30_5.v_out
  clear hd30_5
  obtain ⟨p31, c31, hv31, hc31⟩ := hd30_6.l_shape; subst hv31
  intro Hz
  have m31 := m30.dat 101 rfl (hd30_6.cast (fun _ h => (free_add rfl h))); clear m30 hd30_6
  refine goCh Hz (.c rfl (fun _ h_ => y_idx h_ rfl rfl U23 fct12 (i) rfl hi) <| .loadCR m31 (i := 100) rfl rfl U28 rfl fct12 .nil) fun Az Hz => ?_
  refine plz (e_alloc Hz m31 102 fct17 rfl fun g34 Az w35 Hz m35 _ _ => ?_)
  refine plz (stw Hz m35 102 fct12 fun w36 m36 _ => ?_)
  refine znl (hK6 _ _ ?_)
  refine zsr fun K7 hK7 => ?_
  refine goCh Hz (.fa 0 rfl U28 <| .lb m36 102 U3 rfl rfl rfl <| .fa 0 rfl U90 <| .lb m36 21 U3 rfl rfl rfl <| .eql rfl rfl <| .move rfl .nil) fun Az Hz => ?_
  refine bc Hz 37 ?_ ?_
  rotate_left
  · intro hb _; exact absurd hb (by simp)
  clear Hz; intro _ Hz
  refine goCh Hz (.faZ 1 rfl U28 <| .loadB1Z m36 (i := 102) rfl rfl rfl U3 rfl <| .faZ 1 rfl U90 <| .loadB1Z m36 (i := 21) rfl rfl rfl U3 rfl <| .eqlZ rfl rfl <| .pickT rfl rfl <| .move rfl .nil) fun Az Hz => ?_
  refine bc Hz 44 ?_ ?_
  ·
   intro hb57 Hz; try simp only [QQ, Qax] at hb57
   have hk1 : k = xk := by have := hb57; first | omega | (simp at this; omega) | (simp at this; exact this)
   revert Hz
   subst hk1
   intro Hz
   refine goCh Hz (.faZ 2 rfl U28 <| .loadB1Z m36 (i := 102) rfl rfl rfl U3 rfl <| .faZ 2 rfl U90 <| .loadB1Z m36 (i := 21) rfl rfl rfl U3 rfl <| .eqlZ rfl rfl <| .pickT rfl rfl <| .move rfl .nil) fun Az Hz => ?_
   refine bc Hz 51 ?_ ?_
   rotate_left
   · intro hb _; exact absurd hb (by simp)
   clear Hz; intro _ Hz
   refine gz hK7 Hz (.faZ 3 rfl U28 <| .loadB1Z m36 (i := 102) rfl rfl rfl U3 rfl <| .faZ 3 rfl U90 <| .loadB1Z m36 (i := 21) rfl rfl rfl U3 rfl <| .eqlZ rfl rfl <| .pickT rfl rfl <| .assign rfl <| .nil) fun Az Hz => ?_
   replace Hz := Hz.oz [3, 4, 10, 12, 26, 27, 28, 15, 16]
   refine zsr fun K8 hK8 => ?_
   refine goCh Hz (.move rfl <| .move rfl .nil) fun Az Hz => ?_
   refine bc Hz 59 ?_ ?_
   rotate_left
   · intro hb _; exact absurd hb (by simp)
   clear Hz; intro _ Hz
   refine goCh Hz (.faZ 5 rfl U28 <| .loadB1Z m36 (i := 102) rfl rfl rfl U2 rfl <| .moveZ rfl <| .leqZ rfl rfl <| .pickT rfl rfl <| .move rfl .nil) fun Az Hz => ?_
   refine bc Hz 65 ?_ ?_
   ·
    intro hb85 Hz; try simp only [QQ, Qax] at hb85
    have hfl : min y.fl (xm : Int) ≤ a9 := by have := hb85; first | omega | (simp at this; omega) | (simp at this; exact this)
    refine gz hK8 Hz (.faZ 4 rfl U28 <| .loadB1Z m36 (i := 102) rfl rfl rfl U2 rfl <| .moveZ rfl <| .geqZ rfl rfl <| .pickT rfl rfl <| .nil) fun Az Hz => ?_
    refine bc Hz 70 ?_ ?_
    ·
     intro hb91 Hz; try simp only [QQ, Qax] at hb91
     have hmk : b9 ≤ (xm : Int) := by have := hb91; first | omega | (simp at this; omega) | (simp at this; exact this)
     refine wct Hz ?_
     replace Hz := Hz.oz [3, 4, 10, 12, 26, 27, 28, 15, 70]
     refine zsr fun K9 hK9 => ?_
     refine goCh Hz (.loadBR m36 (i := 102) rfl rfl U28 rfl fct12 (by simp) (by dsimp only [List.drop, List.take] <;> rfl) .nil) fun Az Hz => ?_
     refine plz (ecl Hz Tryz.func46 rfl (ecopy_x _ y k _ _ xm (ckY hS hk) hF hxm _ _ _ _ (m36.into [(1, 101)] (by decide) rfl)) ?_)
     rintro e w95 ⟨p95, c95, rfl, hm95⟩
     have mx95 := m36.back hm95 [(101, 1), (103, 9)] (by decide); clear hm95 m36
     have m95 := mx95.oz [101, 103, 3, 4, 20, 21, 100, 102]
     refine ⟨_, rfl, ?_⟩; intro Az Hz
     refine plz (stw Hz m95 20 fct12 fun w97 m97 _ => ?_)
     refine gz hK9 Hz (.assign rfl .nil) fun Az Hz => ?_
     refine rtd (retCT (fn := Tryz.f19) Hz m97 (i := 20) rfl rfl rfl rfl U28 rfl fct12 ?_)
     exact .inl ⟨xm, _, _, pkF_at hno hes ⟨rfl, hfl, hmk⟩, rfl, m97.ren [(3, 3), (4, 4), (9, 103)] (by decide)⟩
    intro hb91 Hz; try simp only [QQ, Qax] at hb91
    have hmk : ¬ b9 ≤ (xm : Int) := by have := hb91; first | omega | (simp at this; omega) | (simp at this; exact this)
    have hx9 : ¬ PkOk y k a9 b9 (k, xm) := fun h9 => by obtain ⟨h7, h8, h6⟩ := h9; dsimp only at h7 h8 h6; exact hmk h6
    refine wcf Hz ?_
    refine zss (hK5 _ _ ?_)
    replace Hz := Hz.oz [3, 4, 10, 12, 26, 27, 28, 70]
    refine wp_region_lit ?_
    refine goCh Hz (.inc (i + 1) <| .move rfl .nil) fun Az Hz => ?_
    refine wpList_nil ?_
    show ∃ n', n' < _ ∧ _
    have hno2 := pk_snoc hno hes hx9
    exact ⟨L.length - (i + 1), by omega, i + 1, _, _, _, _, _, _, _, by omega, rfl, hno2, Hz.only [3, 4, 10, 12, 26, 27, 28], m36.ren [(3, 3), (4, 4), (20, 20), (21, 21)] (by decide)⟩
   intro hb85 Hz; try simp only [QQ, Qax] at hb85
   have hfl : ¬ min y.fl (xm : Int) ≤ a9 := by have := hb85; first | omega | (simp at this; omega) | (simp at this; exact this)
   have hx9 : ¬ PkOk y k a9 b9 (k, xm) := fun h9 => by obtain ⟨h7, h8, h6⟩ := h9; dsimp only at h7 h8 h6; exact hfl h8
   refine gz hK8 Hz (.sk <| .sk <| .sk <| .sk <| .pickF rfl rfl <| .nil) fun Az Hz => ?_
   refine wcf Hz ?_
   refine zss (hK5 _ _ ?_)
   replace Hz := Hz.oz [3, 4, 10, 12, 26, 27, 28, 70]
   refine wp_region_lit ?_
   refine goCh Hz (.inc (i + 1) <| .move rfl .nil) fun Az Hz => ?_
   refine wpList_nil ?_
   show ∃ n', n' < _ ∧ _
   have hno2 := pk_snoc hno hes hx9
   exact ⟨L.length - (i + 1), by omega, i + 1, _, _, _, _, _, _, _, by omega, rfl, hno2, Hz.only [3, 4, 10, 12, 26, 27, 28], m36.ren [(3, 3), (4, 4), (20, 20), (21, 21)] (by decide)⟩
  intro hb57 Hz; try simp only [QQ, Qax] at hb57
  have hk1 : ¬ xk = k := by have := hb57; first | omega | (simp at this; omega) | (simp at this; exact this)
  have hx9 : ¬ PkOk y k a9 b9 (xk, xm) := fun h9 => by obtain ⟨h7, h8, h6⟩ := h9; dsimp only at h7 h8 h6; exact hk1 h7
  refine gz hK7 Hz (.sk <| .sk <| .sk <| .sk <| .sk <| .pickF rfl rfl <| .move rfl <| .sk <| .sk <| .sk <| .sk <| .sk <| .pickF rfl rfl <| .assign rfl <| .nil) fun Az Hz => ?_
  replace Hz := Hz.oz [3, 4, 10, 12, 26, 27, 28, 15, 16]
  refine regS Hz (.move rfl <| .move rfl <| .sk <| .sk <| .sk <| .sk <| .pickF rfl rfl <| .move rfl <| .sk <| .sk <| .sk <| .sk <| .pickF rfl rfl .nil) fun Az Hz => ?_
  refine wcf Hz ?_
  refine zss (hK5 _ _ ?_)
  replace Hz := Hz.oz [3, 4, 10, 12, 26, 27, 28, 70]
  refine wp_region_lit ?_
  refine goCh Hz (.inc (i + 1) <| .move rfl .nil) fun Az Hz => ?_
  refine wpList_nil ?_
  show ∃ n', n' < _ ∧ _
  have hno2 := pk_snoc hno hes hx9
  exact ⟨L.length - (i + 1), by omega, i + 1, _, _, _, _, _, _, _, by omega, rfl, hno2, Hz.only [3, 4, 10, 12, 26, 27, 28], m36.ren [(3, 3), (4, 4), (20, 20), (21, 21)] (by decide)⟩
 intro hb28 Hz; try simp only [QQ, Qax] at hb28
 obtain rfl : i = L.length := by have := hb28; first | omega | (simp at this; omega) | (simp at this; exact this)
 refine wcf Hz ?_
 refine wp_exit ?_
 refine hK3 _ _ ?_
 refine zsr fun K10 hK10 => ?_
 refine goCh Hz (.build rfl fct17 fl28epk rfl (by dsimp only [setL, List.set] <;> rfl) .nil) fun Az Hz => ?_
 refine plz (stw Hz m26 20 fct12 fun w143 m143 _ => ?_)
 refine gz hK10 Hz (.assign rfl .nil) fun Az Hz => ?_
 refine rtd (retCT (fn := Tryz.f19) Hz m143 (i := 20) rfl rfl rfl rfl U28 rfl fct12 ?_)
 exact .inr ⟨pkF_no (by rw [List.take_length] at hno; exact hno), rfl, m143.only [3, 4]⟩
theorem epick_one (X : Cx) (y : VolV) (n : Nat) (hS : VolS n y) (hn : n ≤ 1000) (pp pn pw : Option Addr) (cp nn9 cn9 cw : Nat) (L : List (Nat × Nat)) (pl : Option Addr) (cl : Nat) (k m : Nat) (a9 b9 : Int) (w0 : World) (hL : L.length ≤ 1000000) (hLo : ∀ x ∈ L, x.1 < y.place.length ∧ x.2 ≤ y.ws.length) (hk : k < y.place.length) (hf : pkF y L k a9 b9 = some (k, m)) (m0 : MemOk X w0 [(3, .dat (.slice pw (y.ws.map wrD).length cw) (.l 2 (y.ws.map wrD))), (4, .dat (.slice pl L.length cl) (.l 7 (L.map (ckD y))))] w0) :
   Calls Tryz.prog 19 #[.agg #[.int .i64 y.vo, .int .i64 y.bl, .int .i64 y.sz, .int .i64 y.pe, .slice pp y.place.length cp, .int .i64 y.to, .int .i64 y.ne, .bool y.hi, .int .i64 y.fl, .slice pn nn9 cn9, .slice pw (y.ws.map wrD).length cw], .slice pl L.length cl, .int .i64 (k : Int), .int .i64 a9, .int .i64 b9] w0 fun e w' => ∃ (p9 : Option Addr) (c9 : Nat), e = .returned (.tuple #[.agg #[.int .i64 y.vo, .int .i64 (k : Int), .int .i64 (cnY y k : Int), .int .i64 y.sz, .int .i64 (m : Int), .int .i64 (min y.fl (m : Int)), .slice p9 (cnY y k) c9], .bool true]) ∧ MemOk X w0 [(3, .dat (.slice pw (y.ws.map wrD).length cw) (.l 2 (y.ws.map wrD))), (4, .dat (.slice pl L.length cl) (.l 7 (L.map (ckD y)))), (9, .dat (.slice p9 (cnY y k) c9) (.l 1 ((chN y (fnY y k) (cnY y k) m).map hD)))] w' := by
 refine (epick_f X y n hS hn pp pn pw cp nn9 cn9 cw L pl cl k a9 b9 w0 hL hLo hk m0).mono fun e w' h => ?_
 rcases h with ⟨m2, p9, c9, h1, h2, h3⟩ | ⟨h1, -⟩
 · rw [hf] at h1
   obtain rfl : m = m2 := by injection h1 with h4; injection h4
   exact ⟨p9, c9, h2, h3⟩
 rw [hf] at h1; cases h1
theorem epick_none (X : Cx) (y : VolV) (n : Nat) (hS : VolS n y) (hn : n ≤ 1000) (pp pn pw : Option Addr) (cp nn9 cn9 cw : Nat) (L : List (Nat × Nat)) (pl : Option Addr) (cl : Nat) (k : Nat) (a9 b9 : Int) (w0 : World) (hL : L.length ≤ 1000000) (hLo : ∀ x ∈ L, x.1 < y.place.length ∧ x.2 ≤ y.ws.length) (hk : k < y.place.length) (hf : pkF y L k a9 b9 = none) (m0 : MemOk X w0 [(3, .dat (.slice pw (y.ws.map wrD).length cw) (.l 2 (y.ws.map wrD))), (4, .dat (.slice pl L.length cl) (.l 7 (L.map (ckD y))))] w0) :
   Calls Tryz.prog 19 #[.agg #[.int .i64 y.vo, .int .i64 y.bl, .int .i64 y.sz, .int .i64 y.pe, .slice pp y.place.length cp, .int .i64 y.to, .int .i64 y.ne, .bool y.hi, .int .i64 y.fl, .slice pn nn9 cn9, .slice pw (y.ws.map wrD).length cw], .slice pl L.length cl, .int .i64 (k : Int), .int .i64 a9, .int .i64 b9] w0 fun e w' => e = .returned (.tuple #[.agg #[.int .i64 0, .int .i64 0, .int .i64 0, .int .i64 0, .int .i64 0, .int .i64 0, .slice none 0 0], .bool false]) ∧ MemOk X w0 [(3, .dat (.slice pw (y.ws.map wrD).length cw) (.l 2 (y.ws.map wrD))), (4, .dat (.slice pl L.length cl) (.l 7 (L.map (ckD y))))] w' := by
 refine (epick_f X y n hS hn pp pn pw cp nn9 cn9 cw L pl cl k a9 b9 w0 hL hLo hk m0).mono fun e w' h => ?_
 rcases h with ⟨m2, p9, c9, h1, h2, h3⟩ | ⟨-, h2, h3⟩
 · rw [hf] at h1; cases h1
 exact ⟨h2, h3⟩
theorem epick_yes (X : Cx) (y : VolV) (n : Nat) (hS : VolS n y) (hn : n ≤ 1000) (pp pn pw : Option Addr) (cp nn9 cn9 cw : Nat) (L : List (Nat × Nat)) (pl : Option Addr) (cl : Nat) (k : Nat) (a9 b9 : Int) (w0 : World) (hL : L.length ≤ 1000000) (hLo : ∀ x ∈ L, x.1 < y.place.length ∧ x.2 ≤ y.ws.length) (hk : k < y.place.length) (hin : ∃ m, (k, m) ∈ L ∧ min y.fl (m : Int) ≤ a9 ∧ b9 ≤ (m : Int)) (m0 : MemOk X w0 [(3, .dat (.slice pw (y.ws.map wrD).length cw) (.l 2 (y.ws.map wrD))), (4, .dat (.slice pl L.length cl) (.l 7 (L.map (ckD y))))] w0) :
   Calls Tryz.prog 19 #[.agg #[.int .i64 y.vo, .int .i64 y.bl, .int .i64 y.sz, .int .i64 y.pe, .slice pp y.place.length cp, .int .i64 y.to, .int .i64 y.ne, .bool y.hi, .int .i64 y.fl, .slice pn nn9 cn9, .slice pw (y.ws.map wrD).length cw], .slice pl L.length cl, .int .i64 (k : Int), .int .i64 a9, .int .i64 b9] w0 fun e w' => ∃ (m : Nat) (p9 : Option Addr) (c9 : Nat), PkOk y k a9 b9 (k, m) ∧ (k, m) ∈ L ∧ e = .returned (.tuple #[.agg #[.int .i64 y.vo, .int .i64 (k : Int), .int .i64 (cnY y k : Int), .int .i64 y.sz, .int .i64 (m : Int), .int .i64 (min y.fl (m : Int)), .slice p9 (cnY y k) c9], .bool true]) ∧ MemOk X w0 [(3, .dat (.slice pw (y.ws.map wrD).length cw) (.l 2 (y.ws.map wrD))), (4, .dat (.slice pl L.length cl) (.l 7 (L.map (ckD y)))), (9, .dat (.slice p9 (cnY y k) c9) (.l 1 ((chN y (fnY y k) (cnY y k) m).map hD)))] w' := by
 refine (epick_f X y n hS hn pp pn pw cp nn9 cn9 cw L pl cl k a9 b9 w0 hL hLo hk m0).mono fun e w' h => ?_
 rcases h with ⟨m, p9, c9, h1, h2, h3⟩ | ⟨h1, -⟩
 · exact ⟨m, p9, c9, (pkF_some h1).1, (pkF_some h1).2, h2, h3⟩
 obtain ⟨m, h4, h5, h6⟩ := hin
 exact absurd ⟨rfl, h5, h6⟩ (pkF_none h1 _ h4)
theorem epall_g (X : Cx) (y : VolV) (n : Nat) (hS : VolS n y) (hn : n ≤ 1000) (pp pn pw : Option Addr) (cp nn9 cn9 cw : Nat) (L : List (Nat × Nat)) (pl : Option Addr) (cl : Nat) (a9 b9 : Int) (w0 : World) (hL : L.length ≤ 1000000) (hLo : ∀ x ∈ L, x.1 < y.place.length ∧ x.2 ≤ y.ws.length) (m0 : MemOk X w0 [(3, .dat (.slice pw (y.ws.map wrD).length cw) (.l 2 (y.ws.map wrD))), (4, .dat (.slice pl L.length cl) (.l 7 (L.map (ckD y))))] w0) :
   Calls Tryz.prog 38 #[.agg #[.int .i64 y.vo, .int .i64 y.bl, .int .i64 y.sz, .int .i64 y.pe, .slice pp y.place.length cp, .int .i64 y.to, .int .i64 y.ne, .bool y.hi, .int .i64 y.fl, .slice pn nn9 cn9, .slice pw (y.ws.map wrD).length cw], .slice pl L.length cl, .int .i64 a9, .int .i64 b9] w0 fun e w' => (∃ (Lp : List (Nat × Nat)) (p9 : Option Addr) (c9 : Nat), PkL y L a9 b9 Lp y.place.length ∧ e = .returned (.tuple #[.slice p9 ((Lp).map (ckD y)).length c9, .bool true]) ∧ MemOk X w0 [(3, .dat (.slice pw (y.ws.map wrD).length cw) (.l 2 (y.ws.map wrD))), (4, .dat (.slice pl L.length cl) (.l 7 (L.map (ckD y)))), (9, .dat (.slice p9 ((Lp).map (ckD y)).length c9) (.l 7 ((Lp).map (ckD y))))] w') ∨ (¬ AllOk y L a9 b9 ∧ e = .returned (.tuple #[.slice none 0 0, .bool false]) ∧ MemOk X w0 [(3, .dat (.slice pw (y.ws.map wrD).length cw) (.l 2 (y.ws.map wrD))), (4, .dat (.slice pl L.length cl) (.l 7 (L.map (ckD y))))] w') := by
 refine ent4 Tryz.func38 rfl Tryz.ntmps38 fun Az Hz => ?_
 have hpt := place_top hS
 refine zsr fun K0 hK0 => ?_
 refine plz (e_box Hz m0 40 (cs := [_, _, _, _, _, _, _, _, _, _, _]) rfl rfl rfl fun g1 Az w2 Hz m2 _ _ => ?_)
 refine gz hK0 Hz (.assign rfl <| .assign rfl <| .nil) fun Az Hz => ?_
 refine regS Hz (.assign rfl .nil) fun Az Hz => ?_
 refine wsk fun K1 hK1 => ?_
 refine regS Hz (.fa 4 rfl U33 <| .lb m2 40 U29 rfl rfl rfl <| .len rfl U29 <| .move rfl .nil) fun Az Hz => ?_
 refine wp_block ?_
 refine wp_loop_ghost (fun g a w => ∃ (i B4 : Nat) (Lp : List (Nat × Nat)) (p9 : Option Addr) (c9 : Nat), i ≤ y.place.length ∧ g = y.place.length - i ∧ PkL y L a9 b9 Lp i ∧ Has 37 [(1, .slice pl L.length cl), (2, .int .i64 a9), (3, .int .i64 b9), (4, .pointer (some ⟨B4, 0, none⟩)), (10, .slice p9 ((Lp).map (ckD y)).length c9), (16, .int .i64 y.place.length), (17, .int .i64 i)] a ∧ MemOk X w0 [(3, .dat (.slice pw (y.ws.map wrD).length cw) (.l 2 (y.ws.map wrD))), (4, .dat (.slice pl L.length cl) (.l 7 (L.map (ckD y)))), (20, .box B4 33 [.int .i64 y.vo, .int .i64 y.bl, .int .i64 y.sz, .int .i64 y.pe, .slice pp y.place.length cp, .int .i64 y.to, .int .i64 y.ne, .bool y.hi, .int .i64 y.fl, .slice pn nn9 cn9, .slice pw (y.ws.map wrD).length cw]), (9, .row (.slice p9 ((Lp).map (ckD y)).length c9) 28 7 ((Lp).map (ckD y)))] w) (y.place.length) ?_ ?_
 · have mz := m2.nilR 9 28 7
   exact ⟨0, _, [], _, _, Nat.zero_le _, rfl, ⟨rfl, (fun x i h => by cases h)⟩, Hz.only [1, 2, 3, 4, 10, 16, 17], mz.ren [(3, 3), (4, 4), (20, 40), (9, 9)] (by decide)⟩
 clear Hz m2
 rintro g Az w10 ⟨i, B4, Lp, p9, c9, hil, hg, hPL, Hz, m10⟩
 refine regS Hz (.lss rfl rfl .nil) fun Az Hz => ?_
 refine wsk fun K2 hK2 => ?_
 refine bc Hz 18 ?_ ?_
 ·
  intro hb12 Hz; try simp only [QQ, Qax] at hb12
  have hi : i < y.place.length := by have := hb12; first | omega | (simp at this; omega) | (simp at this; exact this)
  refine wct Hz ?_
  refine zss (hK2 _ _ ?_)
  refine wsk fun K3 hK3 => ?_
  refine wp_block ?_
  refine regS Hz (.move rfl <| .assign rfl .nil) fun Az Hz => ?_
  refine wsk fun K4 hK4 => ?_
  by_cases hpk9 : ∃ m, (i, m) ∈ L ∧ min y.fl (m : Int) ≤ a9 ∧ b9 ≤ (m : Int)
  ·
   refine wp_region_lit ?_
   refine goCh Hz (.loadBR m10 (i := 20) rfl rfl U33 rfl fct1 (by simp) (by dsimp only [List.drop, List.take] <;> rfl) <| .move rfl <| .move rfl <| .move rfl <| .move rfl .nil) fun Az Hz => ?_
   refine plz (ecl Hz Tryz.func19 rfl (epick_yes _ y n hS hn _ _ _ _ _ _ _ L _ _ i a9 b9 _ hL hLo hi hpk9 (m10.into [(3, 3), (4, 4)] (by decide) rfl)) ?_)
   rintro e w20 ⟨xm, p20, c20, hpk, hxL, rfl, hm20⟩
   have mx20 := m10.back hm20 [(3, 3), (4, 4), (100, 9)] (by decide); clear hm20 m10
   have m20 := mx20.oz [3, 4, 100, 9, 20]
   refine ⟨_, rfl, ?_⟩; intro Az Hz
   refine goCh Hz (.move rfl <| .extract rfl rfl <| .extract rfl rfl .nil) fun Az Hz => ?_
   refine plz (e_alloc Hz m20 101 fct17 rfl fun g25 Az w26 Hz m26 _ _ => ?_)
   refine plz (stw Hz m26 101 fct12 fun w27 m27 _ => ?_)
   refine gz hK4 Hz (.assign rfl .nil) fun Az Hz => ?_
   refine wsk fun K5 hK5 => ?_
   replace Hz := Hz.oz [1, 2, 3, 4, 10, 16, 17, 12, 13]
   refine regS Hz (.move rfl <| .not rfl .nil) fun Az Hz => ?_
   refine wcf Hz ?_
   refine zss (hK5 _ _ ?_)
   refine wp_region_lit ?_
   refine goCh Hz (.move rfl <| .loadBR m27 (i := 101) rfl rfl U28 rfl fct12 (by simp) (by dsimp only [List.drop, List.take] <;> rfl) .nil) fun Az Hz => ?_
   refine plz (e_litR Hz m27 102 (mm := 7) rfl (.cons rfl rfl (.cons (.v _) (.cons (.v _) (.cons (.v _) (.cons (.v _) (.cons (.v _) (.cons (.v _) (.cons (m27.rd (i := 100) rfl) .nil))))))) .nil) U23 fct36 rfl rfl rfl rfl rfl fun g34 Az w35 Hz m35 => ?_)
   have m37 := m35.freezeR 102 rfl
   refine plz (e_appR Hz m37 9 rfl rfl rfl (m37.rd (i := 102) rfl) U23 fct36 rfl rfl (by decide) (by have h9 := hPL.1; simp; omega) rfl fun p36 c36 Az w38 Hz m38 => ?_)
   refine gz hK3 Hz (.assign rfl .nil) fun Az Hz => ?_
   replace Hz := Hz.oz [1, 2, 3, 4, 10, 16, 17]
   refine wp_region_lit ?_
   refine goCh Hz (.inc (i + 1) <| .move rfl .nil) fun Az Hz => ?_
   refine wpList_nil ?_
   show ∃ n', n' < _ ∧ _
   have hE : ((Lp).map (ckD y)) ++ [[D.v (.int .i64 y.vo), .v (.int .i64 (i : Int)), .v (.int .i64 (cnY y i : Int)), .v (.int .i64 y.sz), .v (.int .i64 (xm : Int)), .v (.int .i64 (min y.fl (xm : Int))), .l 1 ((chN y (fnY y i) (cnY y i) xm).map hD)]] = ((Lp ++ [(i, xm)]).map (ckD y)) := by rw [List.map_append]; rfl
   rw [hE] at m38 Hz
   exact ⟨y.place.length - (i + 1), by omega, i + 1, _, Lp ++ [(i, xm)], _, _, by omega, rfl, hPL.snoc hxL hpk.2.1 hpk.2.2, Hz.only [1, 2, 3, 4, 10, 16, 17], m38.ren [(3, 3), (4, 4), (20, 20), (9, 9)] (by decide)⟩
  refine wp_region_lit ?_
  refine goCh Hz (.loadBR m10 (i := 20) rfl rfl U33 rfl fct1 (by simp) (by dsimp only [List.drop, List.take] <;> rfl) <| .move rfl <| .move rfl <| .move rfl <| .move rfl .nil) fun Az Hz => ?_
  refine plz (ecl Hz Tryz.func19 rfl (epick_none _ y n hS hn _ _ _ _ _ _ _ L _ _ i a9 b9 _ hL hLo hi (nopk hpk9) (m10.into [(3, 3), (4, 4)] (by decide) rfl)) ?_)
  rintro e w48 ⟨rfl, hm48⟩
  have mx48 := m10.back hm48 [(3, 3), (4, 4)] (by decide); clear hm48 m10
  have m48 := mx48.oz [3, 4, 9, 20]
  refine ⟨_, rfl, ?_⟩; intro Az Hz
  refine goCh Hz (.move rfl <| .extract rfl rfl <| .extract rfl rfl .nil) fun Az Hz => ?_
  refine plz (e_alloc Hz m48 100 fct17 rfl fun g53 Az w54 Hz m54 _ _ => ?_)
  refine plz (stw Hz m54 100 fct12 fun w55 m55 _ => ?_)
  refine gz hK4 Hz (.assign rfl .nil) fun Az Hz => ?_
  refine wsk fun K6 hK6 => ?_
  replace Hz := Hz.oz [1, 2, 3, 4, 10, 16, 17, 12, 13]
  refine regS Hz (.move rfl <| .not rfl .nil) fun Az Hz => ?_
  refine wct Hz ?_
  refine regS Hz (.assign rfl <| .assign rfl .nil) fun Az Hz => ?_
  refine rt2 Hz ?_
  exact .inr ⟨fun h9 => hpk9 (h9 i hi), rfl, m55.ren [(3, 3), (4, 4)] (by decide)⟩
 intro hb12 Hz; try simp only [QQ, Qax] at hb12
 obtain rfl : i = y.place.length := by have := hb12; first | omega | (simp at this; omega) | (simp at this; exact this)
 refine wcf Hz ?_
 refine wp_exit ?_
 refine hK1 _ _ ?_
 refine regS Hz (.move rfl <| .assign rfl <| .assign rfl .nil) fun Az Hz => ?_
 refine rt2 Hz ?_
 have m65 := m10.freezeR 9 rfl
 exact .inl ⟨Lp, _, _, hPL, rfl, m65.ren [(3, 3), (4, 4), (9, 9)] (by decide)⟩
theorem epall_yes (X : Cx) (y : VolV) (n : Nat) (hS : VolS n y) (hn : n ≤ 1000) (pp pn pw : Option Addr) (cp nn9 cn9 cw : Nat) (L : List (Nat × Nat)) (pl : Option Addr) (cl : Nat) (a9 b9 : Int) (w0 : World) (hL : L.length ≤ 1000000) (hLo : ∀ x ∈ L, x.1 < y.place.length ∧ x.2 ≤ y.ws.length) (hall : AllOk y L a9 b9) (m0 : MemOk X w0 [(3, .dat (.slice pw (y.ws.map wrD).length cw) (.l 2 (y.ws.map wrD))), (4, .dat (.slice pl L.length cl) (.l 7 (L.map (ckD y))))] w0) :
   Calls Tryz.prog 38 #[.agg #[.int .i64 y.vo, .int .i64 y.bl, .int .i64 y.sz, .int .i64 y.pe, .slice pp y.place.length cp, .int .i64 y.to, .int .i64 y.ne, .bool y.hi, .int .i64 y.fl, .slice pn nn9 cn9, .slice pw (y.ws.map wrD).length cw], .slice pl L.length cl, .int .i64 a9, .int .i64 b9] w0 fun e w' => ∃ (Lp : List (Nat × Nat)) (p9 : Option Addr) (c9 : Nat), PkL y L a9 b9 Lp y.place.length ∧ e = .returned (.tuple #[.slice p9 ((Lp).map (ckD y)).length c9, .bool true]) ∧ MemOk X w0 [(3, .dat (.slice pw (y.ws.map wrD).length cw) (.l 2 (y.ws.map wrD))), (4, .dat (.slice pl L.length cl) (.l 7 (L.map (ckD y)))), (9, .dat (.slice p9 ((Lp).map (ckD y)).length c9) (.l 7 ((Lp).map (ckD y))))] w' :=
 (epall_g X y n hS hn pp pn pw cp nn9 cn9 cw L pl cl a9 b9 w0 hL hLo m0).mono fun e w' h => h.elim id (fun h => absurd hall h.1)
theorem epall_no (X : Cx) (y : VolV) (n : Nat) (hS : VolS n y) (hn : n ≤ 1000) (pp pn pw : Option Addr) (cp nn9 cn9 cw : Nat) (L : List (Nat × Nat)) (pl : Option Addr) (cl : Nat) (a9 b9 : Int) (w0 : World) (hL : L.length ≤ 1000000) (hLo : ∀ x ∈ L, x.1 < y.place.length ∧ x.2 ≤ y.ws.length) (hall : ¬ AllOk y L a9 b9) (m0 : MemOk X w0 [(3, .dat (.slice pw (y.ws.map wrD).length cw) (.l 2 (y.ws.map wrD))), (4, .dat (.slice pl L.length cl) (.l 7 (L.map (ckD y))))] w0) :
   Calls Tryz.prog 38 #[.agg #[.int .i64 y.vo, .int .i64 y.bl, .int .i64 y.sz, .int .i64 y.pe, .slice pp y.place.length cp, .int .i64 y.to, .int .i64 y.ne, .bool y.hi, .int .i64 y.fl, .slice pn nn9 cn9, .slice pw (y.ws.map wrD).length cw], .slice pl L.length cl, .int .i64 a9, .int .i64 b9] w0 fun e w' => e = .returned (.tuple #[.slice none 0 0, .bool false]) ∧ MemOk X w0 [(3, .dat (.slice pw (y.ws.map wrD).length cw) (.l 2 (y.ws.map wrD))), (4, .dat (.slice pl L.length cl) (.l 7 (L.map (ckD y))))] w' :=
 (epall_g X y n hS hn pp pn pw cp nn9 cn9 cw L pl cl a9 b9 w0 hL hLo m0).mono fun e w' h => h.elim (fun ⟨_, _, _, h1, _⟩ => absurd h1.all hall) (fun h => h.2)
end
section
theorem fl42ec1 : flatS Tryz.prog 42 [.int .i64 0, .int .i64 0, .int .i64 0, .int .i64 0, .slice none 0 0] = true := by kernel_rfl
theorem fl111ec1 : flatS Tryz.prog 111 [.int .i64 0, .slice none 0 0] = true := by kernel_rfl
theorem fl42ec2 : flatS Tryz.prog 42 [.int .i64 0, .int .i64 0, .int .i64 0, .int .i64 0, .slice none 0 0] = true := by kernel_rfl
theorem fl111ec2 : flatS Tryz.prog 111 [.int .i64 0, .slice none 0 0] = true := by kernel_rfl
theorem selJ_all (fn c : Nat) : selJ (fun _ => true) fn c = ((List.range c).map fun j : Nat => (j : Int)) := by
 unfold selJ selN; rw [List.filter_eq_self.2 (fun _ _ => rfl)]
theorem eread_x (X : Cx) (y : VolV) (k fn cnt m : Nat) (hC : CkOk y k fn cnt) (hF : VolF y) (hmn : m ≤ y.ws.length) (i nn c : Nat) (p : Option Addr) (tv : Int) (w0 : World) (S : List (List Int)) {tn : Nat} (hS : stL y.bl y.sz y.ws tn = S) (htv : tv = (tn : Int)) (hi : i < cnt) (hft : min y.fl (m : Int) ≤ tv) (ht : tv ≤ m) (m0 : MemOk X w0 [(1, .dat (.slice p nn c) (.l 1 ((chN y fn cnt m).map hD)))] w0) :
   Calls Tryz.prog 70 #[.agg #[.int .i64 y.vo, .int .i64 (k : Int), .int .i64 (cnt : Int), .int .i64 y.sz, .int .i64 (m : Int), .int .i64 (min y.fl (m : Int)), .slice p nn c], .int .i64 (i : Int), .int .i64 tv] w0 fun e w' => ∃ (p9 : Option Addr) (c9 : Nat), e = .returned (.tuple #[.slice p9 (S.getD (fn + i) []).length c9, .int .i64 0]) ∧ MemOk X w0 [(1, .dat (.slice p nn c) (.l 1 ((chN y fn cnt m).map hD))), (9, .dat (.slice p9 (S.getD (fn + i) []).length c9) (.ns .u8 (S.getD (fn + i) [])))] w' := by
 have hcl := chN_len y fn cnt m
 obtain rfl : cnt = nn := by have h9 := nnOf (m0.rd (i := 1) rfl); rw [hcl] at h9; exact h9.symm
 have hf0 := hF.fl0
 exact gread_f X y k fn cnt m (min y.fl (m : Int)) hC hF hmn ⟨by omega, by omega⟩ i tn p c tv w0 S hS htv hi hft ht m0
set_option maxRecDepth 100000
set_option maxHeartbeats 4000000
theorem eevery_x (X : Cx) (y : VolV) (k fn cnt m : Nat) (hC : CkOk y k fn cnt) (hF : VolF y) (hmn : m ≤ y.ws.length) (p : Option Addr) (c : Nat) (w0 : World) (m0 : MemOk X w0 [(1, .dat (.slice p cnt c) (.l 1 ((chN y fn cnt m).map hD)))] w0) :
   Calls Tryz.prog 40 #[.agg #[.int .i64 y.vo, .int .i64 (k : Int), .int .i64 (cnt : Int), .int .i64 y.sz, .int .i64 (m : Int), .int .i64 (min y.fl (m : Int)), .slice p cnt c]] w0 fun e w' => ∃ (p9 : Option Addr) (c9 : Nat), e = .returned (.slice p9 ((List.range cnt).map fun j : Nat => (j : Int)).length c9) ∧ MemOk X w0 [(1, .dat (.slice p cnt c) (.l 1 ((chN y fn cnt m).map hD))), (9, .num (.slice p9 ((List.range cnt).map fun j : Nat => (j : Int)).length c9) 3 .i64 ((List.range cnt).map fun j : Nat => (j : Int)))] w' := by
 have hc2 := hC.c256
 refine ent1 Tryz.func40 rfl Tryz.ntmps40 fun Az Hz => ?_
 refine zsr fun K0 hK0 => ?_
 refine plz (e_box Hz m0 40 (cs := [_, _, _, _, _, _, _]) rfl rfl rfl fun g1 Az w2 Hz m2 _ _ => ?_)
 refine gz hK0 Hz (.assign rfl .nil) fun Az Hz => ?_
 refine regS Hz (.assign rfl .nil) fun Az Hz => ?_
 refine wsk fun K1 hK1 => ?_
 refine regS Hz (.fa 6 rfl U28 <| .lb m2 40 U26 rfl rfl rfl <| .len rfl U26 <| .move rfl .nil) fun Az Hz => ?_
 refine wp_block ?_
 refine wp_loop_ghost (fun g a w => ∃ (i : Nat) (p9 : Option Addr) (c9 : Nat), i ≤ cnt ∧ g = cnt - i ∧ Has 17 [(3, .slice p9 ((List.range i).map fun j : Nat => (j : Int)).length c9), (7, .int .i64 (cnt : Int)), (8, .int .i64 (i : Int))] a ∧ MemOk X w0 [(1, .dat (.slice p cnt c) (.l 1 ((chN y fn cnt m).map hD))), (9, .num (.slice p9 ((List.range i).map fun j : Nat => (j : Int)).length c9) 3 .i64 ((List.range i).map fun j : Nat => (j : Int)))] w) (cnt) ?_ ?_
 · have mz := m2.nilN 9 3 .i64
   exact ⟨0, _, _, Nat.zero_le _, rfl, Hz.only [3, 7, 8], mz.only [1, 9]⟩
 clear Hz m2
 rintro g Az w9 ⟨i, p9, c9, hil, hg, Hz, m9⟩
 refine regS Hz (.lss rfl rfl .nil) fun Az Hz => ?_
 refine wsk fun K2 hK2 => ?_
 refine bc Hz 9 ?_ ?_
 ·
  intro hb11 Hz; try simp only [QQ, Qax] at hb11
  have hi : i < cnt := by have := hb11; first | omega | (simp at this; omega) | (simp at this; exact this)
  refine wct Hz ?_
  refine zss (hK2 _ _ ?_)
  refine wsk fun K3 hK3 => ?_
  refine wp_block ?_
  refine regS Hz (.move rfl <| .assign rfl .nil) fun Az Hz => ?_
  refine wp_region_lit ?_
  refine goCh Hz (.move rfl <| .move rfl .nil) fun Az Hz => ?_
  refine plz (e_litN Hz m9 100 (k := .i64) rfl rfl U29 fct37 rfl rfl rfl rfl fun g16 Az w17 Hz m17 => ?_)
  refine plz (e_appN Hz m17 9 rfl rfl rfl (m17.numsO (i := 100) rfl) U29 fct37 (by decide) (by simp; omega) rfl fun p18 c18 Az w19 Hz m19 => ?_)
  refine gz hK3 Hz (.assign rfl .nil) fun Az Hz => ?_
  replace Hz := Hz.oz [3, 7, 8]
  refine wp_region_lit ?_
  refine goCh Hz (.inc (i + 1) <| .move rfl .nil) fun Az Hz => ?_
  refine wpList_nil ?_
  show ∃ n', n' < _ ∧ _
  have hE : ((List.range i).map fun j : Nat => (j : Int)) ++ [(i : Int)] = ((List.range (i + 1)).map fun j : Nat => (j : Int)) := by rw [List.range_succ, List.map_append]; rfl
  rw [hE] at m19 Hz
  exact ⟨cnt - (i + 1), by omega, i + 1, _, _, by omega, rfl, Hz.only [3, 7, 8], m19.only [1, 9]⟩
 intro hb11 Hz; try simp only [QQ, Qax] at hb11
 obtain rfl : i = cnt := by have := hb11; first | omega | (simp at this; omega) | (simp at this; exact this)
 refine wcf Hz ?_
 refine wp_exit ?_
 refine hK1 _ _ ?_
 refine regS Hz (.move rfl <| .assign rfl .nil) fun Az Hz => ?_
 refine rt1 Hz ?_
 exact ⟨_, _, rfl, m9.ren [(1, 1), (9, 9)] (by decide)⟩
theorem eevery_c (X : Cx) (y : VolV) (k fn cnt m : Nat) (hC : CkOk y k fn cnt) (hF : VolF y) (hmn : m ≤ y.ws.length) (nn c : Nat) (p : Option Addr) (w0 : World) (m0 : MemOk X w0 [(1, .dat (.slice p nn c) (.l 1 ((chN y fn cnt m).map hD)))] w0) :
   Calls Tryz.prog 40 #[.agg #[.int .i64 y.vo, .int .i64 (k : Int), .int .i64 (cnt : Int), .int .i64 y.sz, .int .i64 (m : Int), .int .i64 (min y.fl (m : Int)), .slice p nn c]] w0 fun e w' => ∃ (p9 : Option Addr) (c9 : Nat), e = .returned (.slice p9 (selJ (fun _ => true) fn cnt).length c9) ∧ MemOk X w0 [(1, .dat (.slice p nn c) (.l 1 ((chN y fn cnt m).map hD))), (9, .num (.slice p9 (selJ (fun _ => true) fn cnt).length c9) 3 .i64 (selJ (fun _ => true) fn cnt))] w' := by
 have hcl := chN_len y fn cnt m
 obtain rfl : cnt = nn := by have h9 := nnOf (m0.rd (i := 1) rfl); rw [hcl] at h9; exact h9.symm
 rw [selJ_all]
 exact eevery_x X y k fn cnt m hC hF hmn p c w0 m0
theorem eclos_x (X : Cx) (y : VolV) (k fn cnt m : Nat) (hC : CkOk y k fn cnt) (hF : VolF y) (hmn : m ≤ y.ws.length) (p : Option Addr) (c gA gB : Nat) (a9 b9 : Int) (w0 : World) (m0 : MemOk X w0 [(1, .dat (.slice p cnt c) (.l 1 ((chN y fn cnt m).map hD))), (2, .box gA 2 [.int .i64 a9]), (3, .box gB 2 [.int .i64 b9])] w0) :
   Calls Tryz.prog 43 #[.agg #[.int .i64 y.vo, .int .i64 (k : Int), .int .i64 (cnt : Int), .int .i64 y.sz, .int .i64 (m : Int), .int .i64 (min y.fl (m : Int)), .slice p cnt c], .pointer (some ⟨gA, 0, none⟩), .pointer (some ⟨gB, 0, none⟩)] w0 fun e w' => ∃ (p9 : Option Addr) (c9 : Nat), e = .returned (.slice p9 (chgL (chN y fn cnt m) a9 b9 cnt).length c9) ∧ MemOk X w0 [(1, .dat (.slice p cnt c) (.l 1 ((chN y fn cnt m).map hD))), (2, .box gA 2 [.int .i64 a9]), (3, .box gB 2 [.int .i64 b9]), (9, .num (.slice p9 (chgL (chN y fn cnt m) a9 b9 cnt).length c9) 3 .i64 (chgL (chN y fn cnt m) a9 b9 cnt))] w' := by
 refine ent3 Tryz.func43 rfl Tryz.ntmps43 fun Az Hz => ?_
 refine zsr fun K0 hK0 => ?_
 refine plz (e_box Hz m0 40 (cs := [_, _, _, _, _, _, _]) rfl rfl rfl fun g1 Az w2 Hz m2 _ _ => ?_)
 refine gz hK0 Hz (.assign rfl .nil) fun Az Hz => ?_
 refine zsr fun K1 hK1 => ?_
 refine goCh Hz (.loadBR m2 (i := 40) rfl rfl U28 rfl fct12 (by simp) (by dsimp only [List.drop, List.take] <;> rfl) <| .lb m2 2 U2 rfl rfl rfl <| .lb m2 3 U2 rfl rfl rfl .nil) fun Az Hz => ?_
 refine plz (ecl Hz Tryz.func44 rfl (gchanged_c _ y k fn cnt m hC hF hmn _ _ _ _ _ _ (m2.into [(1, 1)] (by decide) rfl)) ?_)
 rintro e w10 ⟨p10, c10, rfl, hm10⟩
 have mx10 := m2.back hm10 [(1, 1), (41, 9)] (by decide); clear hm10 m2
 have m10 := mx10.oz [1, 41, 2, 3, 40]
 refine ⟨_, rfl, ?_⟩; intro Az Hz
 refine gz hK1 Hz (.assign rfl .nil) fun Az Hz => ?_
 refine rt1 Hz ?_
 exact ⟨_, _, rfl, m10.ren [(1, 1), (2, 2), (3, 3), (9, 41)] (by decide)⟩
theorem eclos_c (X : Cx) (y : VolV) (k fn cnt m : Nat) (hC : CkOk y k fn cnt) (hF : VolF y) (hmn : m ≤ y.ws.length) (nn c gA gB : Nat) (p : Option Addr) (a9 b9 : Int) (w0 : World) (hf : min y.fl (m : Int) ≤ a9) (ht : b9 ≤ (m : Int)) (hfl : y.fl ≤ a9) (m0 : MemOk X w0 [(1, .dat (.slice p nn c) (.l 1 ((chN y fn cnt m).map hD))), (2, .box gA 2 [.int .i64 a9]), (3, .box gB 2 [.int .i64 b9])] w0) :
   Calls Tryz.prog 43 #[.agg #[.int .i64 y.vo, .int .i64 (k : Int), .int .i64 (cnt : Int), .int .i64 y.sz, .int .i64 (m : Int), .int .i64 (min y.fl (m : Int)), .slice p nn c], .pointer (some ⟨gA, 0, none⟩), .pointer (some ⟨gB, 0, none⟩)] w0 fun e w' => ∃ (p9 : Option Addr) (c9 : Nat), e = .returned (.slice p9 (selJ (chgB y a9 b9) fn cnt).length c9) ∧ MemOk X w0 [(1, .dat (.slice p nn c) (.l 1 ((chN y fn cnt m).map hD))), (2, .box gA 2 [.int .i64 a9]), (3, .box gB 2 [.int .i64 b9]), (9, .num (.slice p9 (selJ (chgB y a9 b9) fn cnt).length c9) 3 .i64 (selJ (chgB y a9 b9) fn cnt))] w' := by
 have hcl := chN_len y fn cnt m
 obtain rfl : cnt = nn := by have h9 := nnOf (m0.rd (i := 1) rfl); rw [hcl] at h9; exact h9.symm
 have h := eclos_x X y k fn cnt m hC hF hmn p c gA gB a9 b9 w0 m0
 rw [chgB_m hF hmn hf ht hfl] at h
 exact h
theorem ecoll_f (X : Cx) (y : VolV) (n : Nat) (hS : VolS n y) (hn : n ≤ 1000) (pp pn pw : Option Addr) (cp nn9 cn9 cw : Nat) (L Lp : List (Nat × Nat)) (pl : Option Addr) (nl cl : Nat) (fr t9 : Int) (tn : Nat) (S : List (List Int)) (w0 : World) (hLo : ∀ x ∈ L, x.1 < y.place.length ∧ x.2 ≤ y.ws.length) (hPL : PkL y L t9 t9 Lp y.place.length) (hS9 : stL y.bl y.sz y.ws tn = S) (htn : t9 = (tn : Int)) (hft : fr ≤ t9) (m0 : MemOk X w0 [(4, .dat (.slice pl nl cl) (.l 7 (Lp.map (ckD y))))] w0) :
   Calls Tryz.prog 39 #[.agg #[.int .i64 y.vo, .int .i64 y.bl, .int .i64 y.sz, .int .i64 y.pe, .slice pp y.place.length cp, .int .i64 y.to, .int .i64 y.ne, .bool y.hi, .int .i64 y.fl, .slice pn nn9 cn9, .slice pw (y.ws.map wrD).length cw], .slice pl nl cl, .int .i64 fr, .int .i64 t9, .func (.func 40) #[] #[]] w0 fun e w' => ∃ (p9 : Option Addr) (c9 : Nat), e = .returned (.tuple #[.agg #[.int .i64 y.bl, .int .i64 y.sz, .int .i64 fr, .int .i64 t9, .slice p9 ((selI S (fun _ => true) y.bl.toNat).map itD).length c9], .int .i64 0]) ∧ MemOk X w0 [(4, .dat (.slice pl nl cl) (.l 7 (Lp.map (ckD y)))), (9, .dat (.slice p9 ((selI S (fun _ => true) y.bl.toNat).map itD).length c9) (.l 2 ((selI S (fun _ => true) y.bl.toNat).map itD)))] w' := by
 refine ent5 Tryz.func39 rfl Tryz.ntmps39 fun Az Hz => ?_
 revert Hz
 obtain rfl : nl = Lp.length := nnOf (m0.rd (i := 4) rfl)
 intro Hz
 have hF := hS.f hn
 have hpt := place_top hS
 have hvp := vol_len hS
 have hPl := hPL.1
 refine zsr fun K0 hK0 => ?_
 refine plz (e_box Hz m0 60 (cs := [_, _, _, _, _, _, _, _, _, _, _]) rfl rfl rfl fun g1 Az w2 Hz m2 _ _ => ?_)
 refine plz (e_alloc Hz m2 61 fct33 rfl fun g3 Az w4 Hz m4 _ _ => ?_)
 refine gz hK0 Hz (.assign rfl .nil) fun Az Hz => ?_
 refine zsr fun K1 hK1 => ?_
 refine goCh Hz (.fa 1 rfl U33 <| .lb m4 60 U3 rfl rfl rfl <| .fa 2 rfl U33 <| .lb m4 60 U3 rfl rfl rfl <| .move rfl <| .move rfl <| .build rfl fct33 fl42ec1 rfl (by dsimp only [setL, List.set] <;> rfl) .nil) fun Az Hz => ?_
 refine plz (e_alloc Hz m4 62 fct33 rfl fun g20 Az w21 Hz m21 _ _ => ?_)
 refine plz (stw Hz m21 62 fct32 fun w22 m22 _ => ?_)
 refine znl (hK1 _ _ ?_)
 refine wsk fun K2 hK2 => ?_
 replace Hz := Hz.oz [1, 3, 4, 5, 10, 11, 12]
 refine regS Hz (.move rfl <| .len rfl U23 <| .move rfl .nil) fun Az Hz => ?_
 refine wp_block ?_
 refine wp_loop_ghost (fun g a w => ∃ (i : Nat) (B5 B10 B12 : Nat) (p9 : Option Addr) (c9 : Nat), i ≤ Lp.length ∧ g = Lp.length - i ∧ Has 68 [(3, .int .i64 t9), (4, .func (.func 40) #[] #[]), (5, .pointer (some ⟨B5, 0, none⟩)), (10, .pointer (some ⟨B10, 0, none⟩)), (12, .pointer (some ⟨B12, 0, none⟩)), (26, .slice pl Lp.length cl), (27, .int .i64 Lp.length), (28, .int .i64 i)] a ∧ MemOk X w0 [(4, .dat (.slice pl Lp.length cl) (.l 7 (Lp.map (ckD y)))), (20, .box B5 33 [.int .i64 y.vo, .int .i64 y.bl, .int .i64 y.sz, .int .i64 y.pe, .slice pp y.place.length cp, .int .i64 y.to, .int .i64 y.ne, .bool y.hi, .int .i64 y.fl, .slice pn nn9 cn9, .slice pw (y.ws.map wrD).length cw]), (21, .box B10 42 [.int .i64 0, .int .i64 0, .int .i64 0, .int .i64 0, .slice none 0 0]), (22, .box B12 42 [.int .i64 y.bl, .int .i64 y.sz, .int .i64 fr, .int .i64 t9, .slice p9 ((selI S (fun _ => true) (enY y i)).map itD).length c9]), (23, .row (.slice p9 ((selI S (fun _ => true) (enY y i)).map itD).length c9) 111 2 ((selI S (fun _ => true) (enY y i)).map itD))] w) (Lp.length) ?_ ?_
 · have hE0 : selI S (fun _ => true) (enY y 0) = [] := by rw [en_zero hS]; rfl
   have mz := m22.nilR 23 111 2
   exact ⟨0, _, _, _, _, _, Nat.zero_le _, rfl, Hz.only [3, 4, 5, 10, 12, 26, 27, 28], by rw [hE0]; exact mz.ren [(4, 4), (20, 60), (21, 61), (22, 62), (23, 23)] (by decide)⟩
 clear Hz m22
 rintro g Az w27 ⟨i, B5, B10, B12, p9, c9, hil, hg, Hz, m27⟩
 refine regS Hz (.lss rfl rfl .nil) fun Az Hz => ?_
 refine wsk fun K3 hK3 => ?_
 refine bc Hz 29 ?_ ?_
 ·
  intro hb29 Hz; try simp only [QQ, Qax] at hb29
  have hi9 : i < Lp.length := by have := hb29; first | omega | (simp at this; omega) | (simp at this; exact this)
  obtain ⟨⟨xk, xm⟩, hes⟩ : ∃ e, Lp[i]? = some e := ⟨_, List.getElem?_eq_getElem hi9⟩
  obtain ⟨⟨hx1, hxf, hxt⟩, hxL⟩ := hPL.2 _ _ hes
  dsimp only at hx1 hxf hxt
  revert Hz
  obtain rfl : i = xk := hx1.symm
  intro Hz
  have hi : i < y.place.length := by have := hPL.1; omega
  have hxm := (hLo _ hxL).2
  dsimp only at hxm
  have hfn := (ckY hS hi).fnb
  have hcn := (ckY hS hi).c256
  refine wct Hz ?_
  refine zss (hK3 _ _ ?_)
  refine wsk fun K4 hK4 => ?_
  refine wp_block ?_
  refine zsr fun K5 hK5 => ?_
  refine goCh Hz (.move rfl .nil) fun Az Hz => ?_
  obtain ⟨b33, o33, vs33, hp33, hR33, ho33, m33⟩ := m27.openR (i := 4) rfl (i) (r := [.v (.int .i64 y.vo), .v (.int .i64 (i : Int)), .v (.int .i64 (cnY y i : Int)), .v (.int .i64 y.sz), .v (.int .i64 (xm : Int)), .v (.int .i64 (min y.fl (xm : Int))), .l 1 ((chN y (fnY y i) (cnY y i) xm).map hD)]) (ckD_get hes) 100 rfl
  revert Hz
  cases hp33; clear m27 ho33
  rcases hR33 with _ | ⟨hd33_0, _ | ⟨hd33_1, _ | ⟨hd33_2, _ | ⟨hd33_3, _ | ⟨hd33_4, _ | ⟨hd33_5, _ | ⟨hd33_6, _ | _⟩⟩⟩⟩⟩⟩⟩
  obtain rfl := hd33_0.v_out
  clear hd33_0
  obtain rfl := hd33_1.v_out
  clear hd33_1
  obtain rfl := hd33_2.v_out
  clear hd33_2
  obtain rfl := hd33_3.v_out
  clear hd33_3
  obtain rfl := hd33_4.v_out
  clear hd33_4
  obtain rfl := hd33_5.v_out
  clear hd33_5
  obtain ⟨p34, c34, hv34, hc34⟩ := hd33_6.l_shape; subst hv34
  intro Hz
  have m34 := m33.dat 101 rfl (hd33_6.cast (fun _ h => (free_add rfl h))); clear m33 hd33_6
  refine goCh Hz (.c rfl (fun _ h_ => y_idx h_ rfl rfl U23 fct12 (i) rfl hi9) <| .loadCR m34 (i := 100) rfl rfl U28 rfl fct12 .nil) fun Az Hz => ?_
  refine plz (e_alloc Hz m34 102 fct17 rfl fun g37 Az w38 Hz m38 _ _ => ?_)
  refine goCh Hz (.assign rfl .nil) fun Az Hz => ?_
  refine plz (stw Hz m38 102 fct12 fun w40 m40 _ => ?_)
  refine znl (hK5 _ _ ?_)
  refine zsr fun K6 hK6 => ?_
  refine goCh Hz (.move rfl <| .loadBR m40 (i := 102) rfl rfl U28 rfl fct12 (by simp) (by dsimp only [List.drop, List.take] <;> rfl) .nil) fun Az Hz => ?_
  refine plz (e_callV Hz rfl Tryz.func40 rfl rfl rfl rfl (eevery_c _ y i _ _ xm (ckY hS hi) hF hxm _ _ _ _ (m40.into [(1, 101)] (by decide) rfl)) ?_)
  rintro e w45 ⟨p45, c45, rfl, hm45⟩
  have mx45 := m40.back hm45 [(101, 1), (103, 9)] (by decide); clear hm45 m40
  have m45 := mx45.oz [101, 103, 4, 20, 21, 22, 23, 100, 102]
  refine ⟨_, rfl, ?_⟩; intro Az Hz
  obtain ⟨Ln, hLn⟩ : ∃ L, selN (fun _ => true) (fnY y i) (cnY y i) = L := ⟨_, rfl⟩
  obtain ⟨Ls, hLs⟩ : ∃ L, selJ (fun _ => true) (fnY y i) (cnY y i) = L := ⟨_, rfl⟩
  have hLl : Ls.length = Ln.length := by rw [← hLs, ← hLn, selJ_len]
  have hLc : Ln.length ≤ cnY y i := by rw [← hLn]; exact selN_len _ _ _
  rw [hLs] at m45 Hz
  refine gz hK6 Hz (.len rfl U29 <| .move rfl <| .nil) fun Az Hz => ?_
  refine wp_block ?_
  have hE0 : ((selI S (fun _ => true) (enY y i)).map itD) = ((selI S (fun _ => true) (fnY y i) ++ ckI S (fnY y i) (Ln.take 0)).map itD) := by rw [en_fn hS hi, List.take_zero]; simp [ckI]
  rw [hE0] at m45
  refine wp_loop_ghost (fun g a w => ∃ (j B14 : Nat) (B5 B10 B12 : Nat) (p9 : Option Addr) (c9 : Nat) (pc pj : Option Addr) (nc cc cj : Nat), j ≤ Ln.length ∧ g = Ln.length - j ∧ Has 68 [(3, .int .i64 t9), (4, .func (.func 40) #[] #[]), (5, .pointer (some ⟨B5, 0, none⟩)), (10, .pointer (some ⟨B10, 0, none⟩)), (12, .pointer (some ⟨B12, 0, none⟩)), (26, .slice (some ⟨b33, o33, none⟩) Lp.length cl), (27, .int .i64 Lp.length), (28, .int .i64 i), (13, .int .i64 i), (14, .pointer (some ⟨B14, 0, none⟩)), (35, .slice pj Ls.length cj), (36, .int .i64 Ls.length), (37, .int .i64 (j : Int))] a ∧ MemOk X w0 [(4, .dat (.slice (some ⟨b33, o33, none⟩) Lp.length cl) (.l 7 (Lp.map (ckD y)))), (20, .box B5 33 [.int .i64 y.vo, .int .i64 y.bl, .int .i64 y.sz, .int .i64 y.pe, .slice pp y.place.length cp, .int .i64 y.to, .int .i64 y.ne, .bool y.hi, .int .i64 y.fl, .slice pn nn9 cn9, .slice pw (y.ws.map wrD).length cw]), (21, .box B10 42 [.int .i64 0, .int .i64 0, .int .i64 0, .int .i64 0, .slice none 0 0]), (22, .box B12 42 [.int .i64 y.bl, .int .i64 y.sz, .int .i64 fr, .int .i64 t9, .slice p9 ((selI S (fun _ => true) (fnY y i) ++ ckI S (fnY y i) (Ln.take j)).map itD).length c9]), (23, .row (.slice p9 ((selI S (fun _ => true) (fnY y i) ++ ckI S (fnY y i) (Ln.take j)).map itD).length c9) 111 2 ((selI S (fun _ => true) (fnY y i) ++ ckI S (fnY y i) (Ln.take j)).map itD)), (24, .box B14 28 [.int .i64 y.vo, .int .i64 (i : Int), .int .i64 (cnY y i : Int), .int .i64 y.sz, .int .i64 (xm : Int), .int .i64 (min y.fl (xm : Int)), .slice pc nc cc]), (25, .dat (.slice pc nc cc) (.l 1 ((chN y (fnY y i) (cnY y i) xm).map hD))), (26, .num (.slice pj Ls.length cj) 3 .i64 Ls)] w) (Ln.length) ?_ ?_
  · exact ⟨0, _, _, _, _, _, _, _, _, _, _, _, Nat.zero_le _, rfl, Hz.only [3, 4, 5, 10, 12, 26, 27, 28, 13, 14, 35, 36, 37], m45.ren [(4, 4), (20, 20), (21, 21), (22, 22), (23, 23), (24, 102), (25, 101), (26, 103)] (by decide)⟩
  clear Hz m45
  rintro g Az w49 ⟨j, B14, B5, B10, B12, p9, c9, pc, pj, nc, cc, cj, hjl, hg2, Hz, m49⟩
  refine regS Hz (.lss rfl rfl .nil) fun Az Hz => ?_
  refine wsk fun K7 hK7 => ?_
  refine bc Hz 38 ?_ ?_
  ·
   intro hb51 Hz; try simp only [QQ, Qax] at hb51
   have hj : j < Ln.length := by have := hb51; first | omega | (simp at this; omega) | (simp at this; exact this)
   have hjs : j < Ls.length := by omega
   obtain ⟨q, hqs, hqc, hqj⟩ : ∃ q, Ln[j]? = some q ∧ q < cnY y i ∧ Ls.getD j 0 = (q : Int) := by rw [← hLn, ← hLs]; exact selN_at (by rw [hLn]; exact hj)
   refine wct Hz ?_
   refine zss (hK7 _ _ ?_)
   refine wsk fun K8 hK8 => ?_
   refine wp_block ?_
   refine zsr fun K9 hK9 => ?_
   obtain ⟨g53, hpg53⟩ := m49.openO (i := 26) rfl (Nat.lt_of_le_of_lt (Nat.zero_le _) hjs)
   revert Hz
   cases hpg53
   intro Hz
   refine goCh Hz (.c rfl (fun _ h_ => y_idxO h_ rfl rfl U29 fct23 (j) rfl hjs) <| .c rfl (fun _ h_ => y_loadO h_ m49 (i := 26) rfl rfl rfl hjs U3 rfl) .nil) fun Az Hz => ?_
   rw [hqj] at Hz
   refine gz hK9 Hz (.assign rfl .nil) fun Az Hz => ?_
   refine zsr fun K10 hK10 => ?_
   refine goCh Hz (.loadBR m49 (i := 24) rfl rfl U28 rfl fct12 (by simp) (by dsimp only [List.drop, List.take] <;> rfl) <| .move rfl <| .move rfl .nil) fun Az Hz => ?_
   refine plz (ecl Hz Tryz.func70 rfl (eread_x _ y i _ _ xm (ckY hS hi) hF hxm q _ _ _ t9 _ S hS9 htn hqc (by omega) hxt (m49.into [(1, 25)] (by decide) rfl)) ?_)
   rintro e w63 ⟨p63, c63, rfl, hm63⟩
   have mx63 := m49.back hm63 [(25, 1), (200, 9)] (by decide); clear hm63 m49
   have m63 := mx63.oz [25, 200, 4, 20, 21, 22, 23, 24, 26]
   refine ⟨_, rfl, ?_⟩; intro Az Hz
   refine gz hK10 Hz (.move rfl <| .extract rfl rfl <| .extract rfl rfl <| .assign rfl <| .assign rfl <| .nil) fun Az Hz => ?_
   refine wsk fun K11 hK11 => ?_
   replace Hz := Hz.oz [3, 4, 5, 10, 12, 26, 27, 28, 13, 14, 35, 36, 37, 16, 42, 17, 18]
   refine regS Hz (.move rfl <| .neq rfl rfl .nil) fun Az Hz => ?_
   refine bc Hz 49 ?_ ?_
   · intro hb _; exact absurd hb (by simp)
   clear Hz; intro _ Hz
   refine wcf Hz ?_
   refine zss (hK11 _ _ ?_)
   refine wp_region_lit ?_
   refine goCh Hz (.fa 4 rfl U42 <| .lb m63 22 U40 rfl rfl rfl <| .move rfl <| .fa 3 rfl U33 <| .lb m63 20 U3 rfl rfl rfl <| .mul rfl rfl (r := ((fnY y i : Nat) : Int)) (by rw [← (ckY hS hi).fe]; exact IntWalk.i64_in _ (by omega)) <| .move rfl <| .add rfl rfl (r := ((fnY y i + q : Nat) : Int)) (by rw [IntWalk.i64_in _ (by omega)]; omega) <| .move rfl <| .build rfl fct25 fl111ec1 rfl (by dsimp only [setL, List.set] <;> rfl) .nil) fun Az Hz => ?_
   refine plz (e_litR Hz m63 201 (mm := 2) rfl (.cons rfl rfl (.cons (.v _) (.cons (m63.rd (i := 200) rfl) .nil)) .nil) U40 fct24 rfl rfl rfl rfl rfl fun g84 Az w85 Hz m85 => ?_)
   have m87 := m85.freezeR 201 rfl
   refine plz (e_appR Hz m87 23 rfl rfl rfl (m87.rd (i := 201) rfl) U40 fct24 rfl rfl (by decide) (by have h8 := selI_len S (fun _ => true) (fnY y i); have h9 := ckI_len S (fnY y i) (Ln.take j); rw [List.length_take] at h9; simp at h9 ⊢; omega) rfl fun p86 c86 Az w88 Hz m88 => ?_)
   refine goCh Hz (.fieldAddr (off := 4) rfl U42 rfl (s := 0) (by kernel_rfl) rfl .nil) fun Az Hz => ?_
   refine plz (st1 Hz m88 22 fct31 fun w90 m90 _ => ?_)
   refine znl (hK8 _ _ ?_)
   replace Hz := Hz.oz [3, 4, 5, 10, 12, 26, 27, 28, 13, 14, 35, 36, 37, 42]
   refine wp_region_lit ?_
   refine goCh Hz (.inc (j + 1) <| .move rfl .nil) fun Az Hz => ?_
   refine wpList_nil ?_
   show ∃ n', n' < _ ∧ _
   have hE2 : ((selI S (fun _ => true) (fnY y i) ++ ckI S (fnY y i) (Ln.take j)).map itD) ++ [[D.v (.int .i64 ((fnY y i + q : Nat) : Int)), .ns .u8 (S.getD (fnY y i + q) [])]] = ((selI S (fun _ => true) (fnY y i) ++ ckI S (fnY y i) (Ln.take (j + 1))).map itD) := by rw [ckI_snoc hqs, ← List.append_assoc, List.map_append (l₂ := [(((fnY y i + q : Nat) : Int), S.getD (fnY y i + q) [])])]; rfl
   rw [hE2] at m90
   exact ⟨Ln.length - (j + 1), by omega, j + 1, _, _, _, _, _, _, _, _, _, _, _, by omega, rfl, Hz.only [3, 4, 5, 10, 12, 26, 27, 28, 13, 14, 35, 36, 37], m90.ren [(4, 4), (20, 20), (21, 21), (22, 22), (23, 23), (24, 24), (25, 25), (26, 26)] (by decide)⟩
  intro hb51 Hz; try simp only [QQ, Qax] at hb51
  obtain rfl : j = Ln.length := by have := hb51; first | omega | (simp at this; omega) | (simp at this; exact this)
  rw [List.take_length] at *
  refine wcf Hz ?_
  refine wp_exit ?_
  refine hK4 _ _ ?_
  refine wp_region_lit ?_
  refine goCh Hz (.inc (i + 1) <| .move rfl .nil) fun Az Hz => ?_
  refine wpList_nil ?_
  show ∃ n', n' < _ ∧ _
  have hE1 : ((selI S (fun _ => true) (fnY y i) ++ ckI S (fnY y i) (Ln)).map itD) = ((selI S (fun _ => true) (enY y (i + 1))).map itD) := by rw [← hLn]; unfold selN; rw [← selI_ck, en_next hS hi]
  rw [hE1] at m49
  exact ⟨Lp.length - (i + 1), by omega, i + 1, _, _, _, _, _, by omega, rfl, Hz.only [3, 4, 5, 10, 12, 26, 27, 28], m49.ren [(4, 4), (20, 20), (21, 21), (22, 22), (23, 23)] (by decide)⟩
 intro hb29 Hz; try simp only [QQ, Qax] at hb29
 obtain rfl : i = Lp.length := by have := hb29; first | omega | (simp at this; omega) | (simp at this; exact this)
 refine wcf Hz ?_
 refine wp_exit ?_
 refine hK2 _ _ ?_
 refine zsr fun K12 hK12 => ?_
 refine goCh Hz (.loadBR m27 (i := 22) rfl rfl U42 rfl fct32 (by simp) (by dsimp only [List.drop, List.take] <;> rfl) .nil) fun Az Hz => ?_
 refine plz (stw Hz m27 21 fct32 fun w98 m98 _ => ?_)
 refine gz hK12 Hz (.assign rfl .nil) fun Az Hz => ?_
 refine rtd (retCT (fn := Tryz.f39) Hz m98 (i := 21) rfl rfl rfl rfl U42 rfl fct32 ?_)
 have m100 := m98.freezeR 23 rfl
 have hEn : enY y Lp.length = y.bl.toNat := by rw [hPL.1, en_all hS]
 rw [hEn] at m100
 rw [hEn]
 exact ⟨_, _, rfl, m100.ren [(4, 4), (9, 23)] (by decide)⟩
theorem ecoll_s (X : Cx) (y : VolV) (n : Nat) (hS : VolS n y) (hn : n ≤ 1000) (pp pn pw : Option Addr) (cp nn9 cn9 cw : Nat) (L Lp : List (Nat × Nat)) (pl : Option Addr) (nl cl : Nat) (fr t9 : Int) (tn : Nat) (S : List (List Int)) (w0 : World) (hLo : ∀ x ∈ L, x.1 < y.place.length ∧ x.2 ≤ y.ws.length) (hfl : y.fl ≤ fr) (gA gB : Nat) (hPL : PkL y L fr t9 Lp y.place.length) (hS9 : stL y.bl y.sz y.ws tn = S) (htn : t9 = (tn : Int)) (hft : fr ≤ t9) (m0 : MemOk X w0 [(4, .dat (.slice pl nl cl) (.l 7 (Lp.map (ckD y)))), (10, .box gA 2 [.int .i64 fr]), (11, .box gB 2 [.int .i64 t9])] w0) :
   Calls Tryz.prog 39 #[.agg #[.int .i64 y.vo, .int .i64 y.bl, .int .i64 y.sz, .int .i64 y.pe, .slice pp y.place.length cp, .int .i64 y.to, .int .i64 y.ne, .bool y.hi, .int .i64 y.fl, .slice pn nn9 cn9, .slice pw (y.ws.map wrD).length cw], .slice pl nl cl, .int .i64 fr, .int .i64 t9, .func (.func 43) #[] #[.pointer (some ⟨gA, 0, none⟩), .pointer (some ⟨gB, 0, none⟩)]] w0 fun e w' => ∃ (p9 : Option Addr) (c9 : Nat), e = .returned (.tuple #[.agg #[.int .i64 y.bl, .int .i64 y.sz, .int .i64 fr, .int .i64 t9, .slice p9 ((selI S (chgB y fr t9) y.bl.toNat).map itD).length c9], .int .i64 0]) ∧ MemOk X w0 [(4, .dat (.slice pl nl cl) (.l 7 (Lp.map (ckD y)))), (9, .dat (.slice p9 ((selI S (chgB y fr t9) y.bl.toNat).map itD).length c9) (.l 2 ((selI S (chgB y fr t9) y.bl.toNat).map itD))), (10, .box gA 2 [.int .i64 fr]), (11, .box gB 2 [.int .i64 t9])] w' := by
 refine ent5 Tryz.func39 rfl Tryz.ntmps39 fun Az Hz => ?_
 revert Hz
 obtain rfl : nl = Lp.length := nnOf (m0.rd (i := 4) rfl)
 intro Hz
 have hF := hS.f hn
 have hpt := place_top hS
 have hvp := vol_len hS
 have hPl := hPL.1
 refine zsr fun K0 hK0 => ?_
 refine plz (e_box Hz m0 60 (cs := [_, _, _, _, _, _, _, _, _, _, _]) rfl rfl rfl fun g1 Az w2 Hz m2 _ _ => ?_)
 refine plz (e_alloc Hz m2 61 fct33 rfl fun g3 Az w4 Hz m4 _ _ => ?_)
 refine gz hK0 Hz (.assign rfl .nil) fun Az Hz => ?_
 refine zsr fun K1 hK1 => ?_
 refine goCh Hz (.fa 1 rfl U33 <| .lb m4 60 U3 rfl rfl rfl <| .fa 2 rfl U33 <| .lb m4 60 U3 rfl rfl rfl <| .move rfl <| .move rfl <| .build rfl fct33 fl42ec2 rfl (by dsimp only [setL, List.set] <;> rfl) .nil) fun Az Hz => ?_
 refine plz (e_alloc Hz m4 62 fct33 rfl fun g20 Az w21 Hz m21 _ _ => ?_)
 refine plz (stw Hz m21 62 fct32 fun w22 m22 _ => ?_)
 refine znl (hK1 _ _ ?_)
 refine wsk fun K2 hK2 => ?_
 replace Hz := Hz.oz [1, 3, 4, 5, 10, 11, 12]
 refine regS Hz (.move rfl <| .len rfl U23 <| .move rfl .nil) fun Az Hz => ?_
 refine wp_block ?_
 refine wp_loop_ghost (fun g a w => ∃ (i : Nat) (B5 B10 B12 : Nat) (p9 : Option Addr) (c9 : Nat), i ≤ Lp.length ∧ g = Lp.length - i ∧ Has 68 [(3, .int .i64 t9), (4, .func (.func 43) #[] #[.pointer (some ⟨gA, 0, none⟩), .pointer (some ⟨gB, 0, none⟩)]), (5, .pointer (some ⟨B5, 0, none⟩)), (10, .pointer (some ⟨B10, 0, none⟩)), (12, .pointer (some ⟨B12, 0, none⟩)), (26, .slice pl Lp.length cl), (27, .int .i64 Lp.length), (28, .int .i64 i)] a ∧ MemOk X w0 [(4, .dat (.slice pl Lp.length cl) (.l 7 (Lp.map (ckD y)))), (20, .box B5 33 [.int .i64 y.vo, .int .i64 y.bl, .int .i64 y.sz, .int .i64 y.pe, .slice pp y.place.length cp, .int .i64 y.to, .int .i64 y.ne, .bool y.hi, .int .i64 y.fl, .slice pn nn9 cn9, .slice pw (y.ws.map wrD).length cw]), (21, .box B10 42 [.int .i64 0, .int .i64 0, .int .i64 0, .int .i64 0, .slice none 0 0]), (22, .box B12 42 [.int .i64 y.bl, .int .i64 y.sz, .int .i64 fr, .int .i64 t9, .slice p9 ((selI S (chgB y fr t9) (enY y i)).map itD).length c9]), (23, .row (.slice p9 ((selI S (chgB y fr t9) (enY y i)).map itD).length c9) 111 2 ((selI S (chgB y fr t9) (enY y i)).map itD)), (10, .box gA 2 [.int .i64 fr]), (11, .box gB 2 [.int .i64 t9])] w) (Lp.length) ?_ ?_
 · have hE0 : selI S (chgB y fr t9) (enY y 0) = [] := by rw [en_zero hS]; rfl
   have mz := m22.nilR 23 111 2
   exact ⟨0, _, _, _, _, _, Nat.zero_le _, rfl, Hz.only [3, 4, 5, 10, 12, 26, 27, 28], by rw [hE0]; exact mz.ren [(4, 4), (20, 60), (21, 61), (22, 62), (23, 23), (10, 10), (11, 11)] (by decide)⟩
 clear Hz m22
 rintro g Az w27 ⟨i, B5, B10, B12, p9, c9, hil, hg, Hz, m27⟩
 refine regS Hz (.lss rfl rfl .nil) fun Az Hz => ?_
 refine wsk fun K3 hK3 => ?_
 refine bc Hz 29 ?_ ?_
 ·
  intro hb29 Hz; try simp only [QQ, Qax] at hb29
  have hi9 : i < Lp.length := by have := hb29; first | omega | (simp at this; omega) | (simp at this; exact this)
  obtain ⟨⟨xk, xm⟩, hes⟩ : ∃ e, Lp[i]? = some e := ⟨_, List.getElem?_eq_getElem hi9⟩
  obtain ⟨⟨hx1, hxf, hxt⟩, hxL⟩ := hPL.2 _ _ hes
  dsimp only at hx1 hxf hxt
  revert Hz
  obtain rfl : i = xk := hx1.symm
  intro Hz
  have hi : i < y.place.length := by have := hPL.1; omega
  have hxm := (hLo _ hxL).2
  dsimp only at hxm
  have hfn := (ckY hS hi).fnb
  have hcn := (ckY hS hi).c256
  refine wct Hz ?_
  refine zss (hK3 _ _ ?_)
  refine wsk fun K4 hK4 => ?_
  refine wp_block ?_
  refine zsr fun K5 hK5 => ?_
  refine goCh Hz (.move rfl .nil) fun Az Hz => ?_
  obtain ⟨b33, o33, vs33, hp33, hR33, ho33, m33⟩ := m27.openR (i := 4) rfl (i) (r := [.v (.int .i64 y.vo), .v (.int .i64 (i : Int)), .v (.int .i64 (cnY y i : Int)), .v (.int .i64 y.sz), .v (.int .i64 (xm : Int)), .v (.int .i64 (min y.fl (xm : Int))), .l 1 ((chN y (fnY y i) (cnY y i) xm).map hD)]) (ckD_get hes) 100 rfl
  revert Hz
  cases hp33; clear m27 ho33
  rcases hR33 with _ | ⟨hd33_0, _ | ⟨hd33_1, _ | ⟨hd33_2, _ | ⟨hd33_3, _ | ⟨hd33_4, _ | ⟨hd33_5, _ | ⟨hd33_6, _ | _⟩⟩⟩⟩⟩⟩⟩
  obtain rfl := hd33_0.v_out
  clear hd33_0
  obtain rfl := hd33_1.v_out
  clear hd33_1
  obtain rfl := hd33_2.v_out
  clear hd33_2
  obtain rfl := hd33_3.v_out
  clear hd33_3
  obtain rfl := hd33_4.v_out
  clear hd33_4
  obtain rfl := hd33_5.v_out
  clear hd33_5
  obtain ⟨p34, c34, hv34, hc34⟩ := hd33_6.l_shape; subst hv34
  intro Hz
  have m34 := m33.dat 101 rfl (hd33_6.cast (fun _ h => (free_add rfl h))); clear m33 hd33_6
  refine goCh Hz (.c rfl (fun _ h_ => y_idx h_ rfl rfl U23 fct12 (i) rfl hi9) <| .loadCR m34 (i := 100) rfl rfl U28 rfl fct12 .nil) fun Az Hz => ?_
  refine plz (e_alloc Hz m34 102 fct17 rfl fun g37 Az w38 Hz m38 _ _ => ?_)
  refine goCh Hz (.assign rfl .nil) fun Az Hz => ?_
  refine plz (stw Hz m38 102 fct12 fun w40 m40 _ => ?_)
  refine znl (hK5 _ _ ?_)
  refine zsr fun K6 hK6 => ?_
  refine goCh Hz (.move rfl <| .loadBR m40 (i := 102) rfl rfl U28 rfl fct12 (by simp) (by dsimp only [List.drop, List.take] <;> rfl) .nil) fun Az Hz => ?_
  refine plz (e_callC Hz rfl Tryz.func43 rfl rfl rfl rfl (eclos_c _ y i _ _ xm (ckY hS hi) hF hxm _ _ _ _ _ fr t9 _ hxf hxt hfl (m40.into [(1, 101), (2, 10), (3, 11)] (by decide) rfl)) ?_)
  rintro e w45 ⟨p45, c45, rfl, hm45⟩
  have mx45 := m40.back hm45 [(101, 1), (10, 2), (11, 3), (103, 9)] (by decide); clear hm45 m40
  have m45 := mx45.oz [101, 10, 11, 103, 4, 20, 21, 22, 23, 100, 102]
  refine ⟨_, rfl, ?_⟩; intro Az Hz
  obtain ⟨Ln, hLn⟩ : ∃ L, selN (chgB y fr t9) (fnY y i) (cnY y i) = L := ⟨_, rfl⟩
  obtain ⟨Ls, hLs⟩ : ∃ L, selJ (chgB y fr t9) (fnY y i) (cnY y i) = L := ⟨_, rfl⟩
  have hLl : Ls.length = Ln.length := by rw [← hLs, ← hLn, selJ_len]
  have hLc : Ln.length ≤ cnY y i := by rw [← hLn]; exact selN_len _ _ _
  rw [hLs] at m45 Hz
  refine gz hK6 Hz (.len rfl U29 <| .move rfl <| .nil) fun Az Hz => ?_
  refine wp_block ?_
  have hE0 : ((selI S (chgB y fr t9) (enY y i)).map itD) = ((selI S (chgB y fr t9) (fnY y i) ++ ckI S (fnY y i) (Ln.take 0)).map itD) := by rw [en_fn hS hi, List.take_zero]; simp [ckI]
  rw [hE0] at m45
  refine wp_loop_ghost (fun g a w => ∃ (j B14 : Nat) (B5 B10 B12 : Nat) (p9 : Option Addr) (c9 : Nat) (pc pj : Option Addr) (nc cc cj : Nat), j ≤ Ln.length ∧ g = Ln.length - j ∧ Has 68 [(3, .int .i64 t9), (4, .func (.func 43) #[] #[.pointer (some ⟨gA, 0, none⟩), .pointer (some ⟨gB, 0, none⟩)]), (5, .pointer (some ⟨B5, 0, none⟩)), (10, .pointer (some ⟨B10, 0, none⟩)), (12, .pointer (some ⟨B12, 0, none⟩)), (26, .slice (some ⟨b33, o33, none⟩) Lp.length cl), (27, .int .i64 Lp.length), (28, .int .i64 i), (13, .int .i64 i), (14, .pointer (some ⟨B14, 0, none⟩)), (35, .slice pj Ls.length cj), (36, .int .i64 Ls.length), (37, .int .i64 (j : Int))] a ∧ MemOk X w0 [(4, .dat (.slice (some ⟨b33, o33, none⟩) Lp.length cl) (.l 7 (Lp.map (ckD y)))), (20, .box B5 33 [.int .i64 y.vo, .int .i64 y.bl, .int .i64 y.sz, .int .i64 y.pe, .slice pp y.place.length cp, .int .i64 y.to, .int .i64 y.ne, .bool y.hi, .int .i64 y.fl, .slice pn nn9 cn9, .slice pw (y.ws.map wrD).length cw]), (21, .box B10 42 [.int .i64 0, .int .i64 0, .int .i64 0, .int .i64 0, .slice none 0 0]), (22, .box B12 42 [.int .i64 y.bl, .int .i64 y.sz, .int .i64 fr, .int .i64 t9, .slice p9 ((selI S (chgB y fr t9) (fnY y i) ++ ckI S (fnY y i) (Ln.take j)).map itD).length c9]), (23, .row (.slice p9 ((selI S (chgB y fr t9) (fnY y i) ++ ckI S (fnY y i) (Ln.take j)).map itD).length c9) 111 2 ((selI S (chgB y fr t9) (fnY y i) ++ ckI S (fnY y i) (Ln.take j)).map itD)), (10, .box gA 2 [.int .i64 fr]), (11, .box gB 2 [.int .i64 t9]), (24, .box B14 28 [.int .i64 y.vo, .int .i64 (i : Int), .int .i64 (cnY y i : Int), .int .i64 y.sz, .int .i64 (xm : Int), .int .i64 (min y.fl (xm : Int)), .slice pc nc cc]), (25, .dat (.slice pc nc cc) (.l 1 ((chN y (fnY y i) (cnY y i) xm).map hD))), (26, .num (.slice pj Ls.length cj) 3 .i64 Ls)] w) (Ln.length) ?_ ?_
  · exact ⟨0, _, _, _, _, _, _, _, _, _, _, _, Nat.zero_le _, rfl, Hz.only [3, 4, 5, 10, 12, 26, 27, 28, 13, 14, 35, 36, 37], m45.ren [(4, 4), (20, 20), (21, 21), (22, 22), (23, 23), (10, 10), (11, 11), (24, 102), (25, 101), (26, 103)] (by decide)⟩
  clear Hz m45
  rintro g Az w49 ⟨j, B14, B5, B10, B12, p9, c9, pc, pj, nc, cc, cj, hjl, hg2, Hz, m49⟩
  refine regS Hz (.lss rfl rfl .nil) fun Az Hz => ?_
  refine wsk fun K7 hK7 => ?_
  refine bc Hz 38 ?_ ?_
  ·
   intro hb51 Hz; try simp only [QQ, Qax] at hb51
   have hj : j < Ln.length := by have := hb51; first | omega | (simp at this; omega) | (simp at this; exact this)
   have hjs : j < Ls.length := by omega
   obtain ⟨q, hqs, hqc, hqj⟩ : ∃ q, Ln[j]? = some q ∧ q < cnY y i ∧ Ls.getD j 0 = (q : Int) := by rw [← hLn, ← hLs]; exact selN_at (by rw [hLn]; exact hj)
   refine wct Hz ?_
   refine zss (hK7 _ _ ?_)
   refine wsk fun K8 hK8 => ?_
   refine wp_block ?_
   refine zsr fun K9 hK9 => ?_
   obtain ⟨g53, hpg53⟩ := m49.openO (i := 26) rfl (Nat.lt_of_le_of_lt (Nat.zero_le _) hjs)
   revert Hz
   cases hpg53
   intro Hz
   refine goCh Hz (.c rfl (fun _ h_ => y_idxO h_ rfl rfl U29 fct23 (j) rfl hjs) <| .c rfl (fun _ h_ => y_loadO h_ m49 (i := 26) rfl rfl rfl hjs U3 rfl) .nil) fun Az Hz => ?_
   rw [hqj] at Hz
   refine gz hK9 Hz (.assign rfl .nil) fun Az Hz => ?_
   refine zsr fun K10 hK10 => ?_
   refine goCh Hz (.loadBR m49 (i := 24) rfl rfl U28 rfl fct12 (by simp) (by dsimp only [List.drop, List.take] <;> rfl) <| .move rfl <| .move rfl .nil) fun Az Hz => ?_
   refine plz (ecl Hz Tryz.func70 rfl (eread_x _ y i _ _ xm (ckY hS hi) hF hxm q _ _ _ t9 _ S hS9 htn hqc (by omega) hxt (m49.into [(1, 25)] (by decide) rfl)) ?_)
   rintro e w63 ⟨p63, c63, rfl, hm63⟩
   have mx63 := m49.back hm63 [(25, 1), (200, 9)] (by decide); clear hm63 m49
   have m63 := mx63.oz [25, 200, 4, 10, 11, 20, 21, 22, 23, 24, 26]
   refine ⟨_, rfl, ?_⟩; intro Az Hz
   refine gz hK10 Hz (.move rfl <| .extract rfl rfl <| .extract rfl rfl <| .assign rfl <| .assign rfl <| .nil) fun Az Hz => ?_
   refine wsk fun K11 hK11 => ?_
   replace Hz := Hz.oz [3, 4, 5, 10, 12, 26, 27, 28, 13, 14, 35, 36, 37, 16, 42, 17, 18]
   refine regS Hz (.move rfl <| .neq rfl rfl .nil) fun Az Hz => ?_
   refine bc Hz 49 ?_ ?_
   · intro hb _; exact absurd hb (by simp)
   clear Hz; intro _ Hz
   refine wcf Hz ?_
   refine zss (hK11 _ _ ?_)
   refine wp_region_lit ?_
   refine goCh Hz (.fa 4 rfl U42 <| .lb m63 22 U40 rfl rfl rfl <| .move rfl <| .fa 3 rfl U33 <| .lb m63 20 U3 rfl rfl rfl <| .mul rfl rfl (r := ((fnY y i : Nat) : Int)) (by rw [← (ckY hS hi).fe]; exact IntWalk.i64_in _ (by omega)) <| .move rfl <| .add rfl rfl (r := ((fnY y i + q : Nat) : Int)) (by rw [IntWalk.i64_in _ (by omega)]; omega) <| .move rfl <| .build rfl fct25 fl111ec2 rfl (by dsimp only [setL, List.set] <;> rfl) .nil) fun Az Hz => ?_
   refine plz (e_litR Hz m63 201 (mm := 2) rfl (.cons rfl rfl (.cons (.v _) (.cons (m63.rd (i := 200) rfl) .nil)) .nil) U40 fct24 rfl rfl rfl rfl rfl fun g84 Az w85 Hz m85 => ?_)
   have m87 := m85.freezeR 201 rfl
   refine plz (e_appR Hz m87 23 rfl rfl rfl (m87.rd (i := 201) rfl) U40 fct24 rfl rfl (by decide) (by have h8 := selI_len S (chgB y fr t9) (fnY y i); have h9 := ckI_len S (fnY y i) (Ln.take j); rw [List.length_take] at h9; simp at h9 ⊢; omega) rfl fun p86 c86 Az w88 Hz m88 => ?_)
   refine goCh Hz (.fieldAddr (off := 4) rfl U42 rfl (s := 0) (by kernel_rfl) rfl .nil) fun Az Hz => ?_
   refine plz (st1 Hz m88 22 fct31 fun w90 m90 _ => ?_)
   refine znl (hK8 _ _ ?_)
   replace Hz := Hz.oz [3, 4, 5, 10, 12, 26, 27, 28, 13, 14, 35, 36, 37, 42]
   refine wp_region_lit ?_
   refine goCh Hz (.inc (j + 1) <| .move rfl .nil) fun Az Hz => ?_
   refine wpList_nil ?_
   show ∃ n', n' < _ ∧ _
   have hE2 : ((selI S (chgB y fr t9) (fnY y i) ++ ckI S (fnY y i) (Ln.take j)).map itD) ++ [[D.v (.int .i64 ((fnY y i + q : Nat) : Int)), .ns .u8 (S.getD (fnY y i + q) [])]] = ((selI S (chgB y fr t9) (fnY y i) ++ ckI S (fnY y i) (Ln.take (j + 1))).map itD) := by rw [ckI_snoc hqs, ← List.append_assoc, List.map_append (l₂ := [(((fnY y i + q : Nat) : Int), S.getD (fnY y i + q) [])])]; rfl
   rw [hE2] at m90
   exact ⟨Ln.length - (j + 1), by omega, j + 1, _, _, _, _, _, _, _, _, _, _, _, by omega, rfl, Hz.only [3, 4, 5, 10, 12, 26, 27, 28, 13, 14, 35, 36, 37], m90.ren [(4, 4), (20, 20), (21, 21), (22, 22), (23, 23), (10, 10), (11, 11), (24, 24), (25, 25), (26, 26)] (by decide)⟩
  intro hb51 Hz; try simp only [QQ, Qax] at hb51
  obtain rfl : j = Ln.length := by have := hb51; first | omega | (simp at this; omega) | (simp at this; exact this)
  rw [List.take_length] at *
  refine wcf Hz ?_
  refine wp_exit ?_
  refine hK4 _ _ ?_
  refine wp_region_lit ?_
  refine goCh Hz (.inc (i + 1) <| .move rfl .nil) fun Az Hz => ?_
  refine wpList_nil ?_
  show ∃ n', n' < _ ∧ _
  have hE1 : ((selI S (chgB y fr t9) (fnY y i) ++ ckI S (fnY y i) (Ln)).map itD) = ((selI S (chgB y fr t9) (enY y (i + 1))).map itD) := by rw [← hLn]; unfold selN; rw [← selI_ck, en_next hS hi]
  rw [hE1] at m49
  exact ⟨Lp.length - (i + 1), by omega, i + 1, _, _, _, _, _, by omega, rfl, Hz.only [3, 4, 5, 10, 12, 26, 27, 28], m49.ren [(4, 4), (20, 20), (21, 21), (22, 22), (23, 23), (10, 10), (11, 11)] (by decide)⟩
 intro hb29 Hz; try simp only [QQ, Qax] at hb29
 obtain rfl : i = Lp.length := by have := hb29; first | omega | (simp at this; omega) | (simp at this; exact this)
 refine wcf Hz ?_
 refine wp_exit ?_
 refine hK2 _ _ ?_
 refine zsr fun K12 hK12 => ?_
 refine goCh Hz (.loadBR m27 (i := 22) rfl rfl U42 rfl fct32 (by simp) (by dsimp only [List.drop, List.take] <;> rfl) .nil) fun Az Hz => ?_
 refine plz (stw Hz m27 21 fct32 fun w98 m98 _ => ?_)
 refine gz hK12 Hz (.assign rfl .nil) fun Az Hz => ?_
 refine rtd (retCT (fn := Tryz.f39) Hz m98 (i := 21) rfl rfl rfl rfl U42 rfl fct32 ?_)
 have m100 := m98.freezeR 23 rfl
 have hEn : enY y Lp.length = y.bl.toNat := by rw [hPL.1, en_all hS]
 rw [hEn] at m100
 rw [hEn]
 exact ⟨_, _, rfl, m100.ren [(4, 4), (9, 23), (10, 10), (11, 11)] (by decide)⟩
end
end Go.Proofs.YtamjnimaeecmoaaGreat.K
