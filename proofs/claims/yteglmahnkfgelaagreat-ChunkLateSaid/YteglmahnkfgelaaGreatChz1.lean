/- chunk: the reference's shape, PushRight of a right push, Add, Prune. -/
import Derived.Test.YteglmahnkfgelaaGreatChu4
import Derived.Test.YteglmahnkfgelaaGreatG3
import Derived.Test.YteglmahnkfgelaaGreatChzM
namespace Go.Proofs.YteglmahnkfgelaaGreat.K
open Go.ChangeShapes Go.WideShapes Go.ChangeAt Go.RowKit
set_option linter.unusedVariables false
set_option linter.unusedSimpArgs false
theorem fl110zad : flatS Tryz.prog 110 [.int .i64 0, .slice none 0 0] = true := by kernel_rfl
set_option maxRecDepth 100000
set_option maxHeartbeats 4000000
theorem zshape_x (vo ch cn sz : Int) (w0 : World) (hsh : ShOk vo ch cn sz) :
   Calls Tryz.prog 48 #[.int .i64 vo, .int .i64 ch, .int .i64 cn, .int .i64 sz] w0 fun e w' => e = .returned (.bool true) ∧ Below w0.heap.size w0 w' := by
 refine ent4 Tryz.func48 rfl Tryz.ntmps48 fun Az Hz => ?_
 have m0 := MemOk.start (fun _ => False) w0
 obtain ⟨⟨q1, q2⟩, ⟨q3, q4⟩, ⟨q5, q6⟩, ⟨q7, q8⟩⟩ := hsh
 refine regS Hz (.assign rfl .nil) fun Az Hz => ?_
 refine zsr fun K0 hK0 => ?_
 refine goCh Hz (.move rfl <| .geq rfl rfl <| .move rfl .nil) fun Az Hz => ?_
 refine bc Hz 11 ?_ ?_
 rotate_left
 · intro hb _; exact absurd hb (by first | (simp; done) | (simp; omega))
 clear Hz; intro _ Hz
 refine goCh Hz (.moveZ rfl <| .lssZ rfl rfl <| .pickT rfl rfl <| .move rfl .nil) fun Az Hz => ?_
 refine bc Hz 15 ?_ ?_
 rotate_left
 · intro hb _; exact absurd hb (by first | (simp; done) | (simp; omega))
 clear Hz; intro _ Hz
 refine goCh Hz (.moveZ rfl <| .geqZ rfl rfl <| .pickT rfl rfl <| .move rfl .nil) fun Az Hz => ?_
 refine bc Hz 19 ?_ ?_
 rotate_left
 · intro hb _; exact absurd hb (by first | (simp; done) | (simp; omega))
 clear Hz; intro _ Hz
 refine goCh Hz (.moveZ rfl <| .lssZ rfl rfl <| .pickT rfl rfl <| .move rfl .nil) fun Az Hz => ?_
 refine bc Hz 23 ?_ ?_
 rotate_left
 · intro hb _; exact absurd hb (by first | (simp; done) | (simp; omega))
 clear Hz; intro _ Hz
 refine goCh Hz (.moveZ rfl <| .geqZ rfl rfl <| .pickT rfl rfl <| .move rfl .nil) fun Az Hz => ?_
 refine bc Hz 27 ?_ ?_
 rotate_left
 · intro hb _; exact absurd hb (by first | (simp; done) | (simp; omega))
 clear Hz; intro _ Hz
 refine goCh Hz (.moveZ rfl <| .leqZ rfl rfl <| .pickT rfl rfl <| .move rfl .nil) fun Az Hz => ?_
 refine bc Hz 31 ?_ ?_
 rotate_left
 · intro hb _; exact absurd hb (by first | (simp; done) | (simp; omega))
 clear Hz; intro _ Hz
 refine goCh Hz (.moveZ rfl <| .geqZ rfl rfl <| .pickT rfl rfl <| .move rfl .nil) fun Az Hz => ?_
 refine bc Hz 35 ?_ ?_
 rotate_left
 · intro hb _; exact absurd hb (by first | (simp; done) | (simp; omega))
 clear Hz; intro _ Hz
 refine gz hK0 Hz (.moveZ rfl <| .leqZ rfl rfl <| .pickT rfl rfl <| .assign rfl <| .nil) fun Az Hz => ?_
 refine rt1 Hz ?_
 exact ⟨by (first | rfl | (simp; done) | (simp; omega)), m0.below⟩
theorem zpright_x (X : Cx) (vo ch cn sz fr to fl : Int) (W : List (Int × List (Int × List Int))) (pw : Option Addr) (nw cw : Nat) (w0 : World) (hP : PuOk vo ch cn sz fr to fl W) (m0 : MemOk X w0 [(1, .dat (.slice pw nw cw) (.l 2 (W.map wrD)))] w0) :
   Calls Tryz.prog 15 #[.agg #[.int .i64 vo, .int .i64 ch, .int .i64 cn, .int .i64 sz, .int .i64 fr, .int .i64 to, .int .i64 fl, .slice pw nw cw]] w0 fun e w' => e = .returned (.bool true) ∧ MemOk X w0 [(1, .dat (.slice pw nw cw) (.l 2 (W.map wrD)))] w' := by
 refine ent1 Tryz.func15 rfl Tryz.ntmps15 fun Az Hz => ?_
 have hW := wpre_len hP
 have hnw : nw = W.length := nnOf (m0.rd (i := 1) rfl)
 revert Hz
 subst hnw
 intro Hz
 have hP9 := hP
 obtain ⟨p1, ⟨p2, p3⟩, ⟨p4, p5⟩, ⟨p6, p7⟩, p8, -⟩ := hP9
 refine zsr fun K0 hK0 => ?_
 refine plz (e_box Hz m0 30 (cs := [_, _, _, _, _, _, _, _]) rfl rfl rfl fun g1 Az w2 Hz m2 _ _ => ?_)
 refine gz hK0 Hz (.assign rfl .nil) fun Az Hz => ?_
 refine wsk fun K1 hK1 => ?_
 refine zsr fun K2 hK2 => ?_
 refine goCh Hz (.fa 0 rfl U25 <| .lb m2 30 U3 rfl rfl rfl <| .fa 1 rfl U25 <| .lb m2 30 U3 rfl rfl rfl <| .fa 2 rfl U25 <| .lb m2 30 U3 rfl rfl rfl <| .fa 3 rfl U25 <| .lb m2 30 U3 rfl rfl rfl .nil) fun Az Hz => ?_
 refine plz (ecb Hz Tryz.func48 rfl m2 (zshape_x _ _ _ _ _ hP.1) fun Az w20 Hz m21 => ?_)
 refine goCh Hz (.not rfl <| .move rfl <| .faZ 4 rfl U25 <| .loadB1Z m21 (i := 30) rfl rfl rfl U2 rfl <| .lssZ rfl rfl <| .pickF rfl rfl <| .move rfl .nil) fun Az Hz => ?_
 refine bc Hz 21 ?_ ?_
 · intro hb _; exact absurd hb (by first | (simp; done) | (simp; omega))
 clear Hz; intro _ Hz
 refine goCh Hz (.faZ 4 rfl U25 <| .loadB1Z m21 (i := 30) rfl rfl rfl U2 rfl <| .faZ 5 rfl U25 <| .loadB1Z m21 (i := 30) rfl rfl rfl U2 rfl <| .gtrZ rfl rfl <| .pickF rfl rfl <| .move rfl .nil) fun Az Hz => ?_
 refine bc Hz 28 ?_ ?_
 · intro hb _; exact absurd hb (by first | (simp; done) | (simp; omega))
 clear Hz; intro _ Hz
 refine goCh Hz (.faZ 5 rfl U25 <| .loadB1Z m21 (i := 30) rfl rfl rfl U2 rfl <| .gtrZ rfl rfl <| .pickF rfl rfl <| .move rfl .nil) fun Az Hz => ?_
 refine bc Hz 33 ?_ ?_
 · intro hb _; exact absurd hb (by first | (simp; done) | (simp; omega))
 clear Hz; intro _ Hz
 refine goCh Hz (.faZ 6 rfl U25 <| .loadB1Z m21 (i := 30) rfl rfl rfl U2 rfl <| .lssZ rfl rfl <| .pickF rfl rfl <| .move rfl .nil) fun Az Hz => ?_
 refine bc Hz 38 ?_ ?_
 · intro hb _; exact absurd hb (by first | (simp; done) | (simp; omega))
 clear Hz; intro _ Hz
 refine goCh Hz (.faZ 6 rfl U25 <| .loadB1Z m21 (i := 30) rfl rfl rfl U2 rfl <| .faZ 5 rfl U25 <| .loadB1Z m21 (i := 30) rfl rfl rfl U2 rfl <| .gtrZ rfl rfl <| .pickF rfl rfl <| .move rfl .nil) fun Az Hz => ?_
 refine bc Hz 45 ?_ ?_
 · intro hb _; exact absurd hb (by first | (simp; done) | (simp; omega))
 clear Hz; intro _ Hz
 refine gz hK2 Hz (.faZ 7 rfl U25 <| .loadB1Z m21 (i := 30) rfl rfl rfl U23 rfl <| .lenZ rfl U23 <| .gtrZ rfl rfl <| .pickF rfl rfl <| .nil) fun Az Hz => ?_
 refine bc Hz 50 ?_ ?_
 · intro hb _; exact absurd hb (by first | (simp; done) | (simp; omega))
 clear Hz; intro _ Hz
 refine wcf Hz ?_
 refine zss (hK1 _ _ ?_)
 replace Hz := Hz.oz [1, 2]
 refine regS Hz (.fa 4 rfl U25 <| .lb m21 30 U2 rfl rfl rfl <| .assign rfl .nil) fun Az Hz => ?_
 refine wsk fun K3 hK3 => ?_
 refine regS Hz (.assign rfl .nil) fun Az Hz => ?_
 refine wp_block ?_
 refine wp_loop_ghost (fun g a w => ∃ (k gP : Nat), k ≤ W.length ∧ g = W.length - k ∧ Has 88 [(1, .pointer (some ⟨gP, 0, none⟩)), (3, .int .i64 (if k = 0 then fr else (W.getD (k - 1) w1).1)), (4, .int .i64 k)] a ∧ MemOk X w0 [(1, .dat (.slice pw W.length cw) (.l 2 (W.map wrD))), (2, .box gP 25 [.int .i64 vo, .int .i64 ch, .int .i64 cn, .int .i64 sz, .int .i64 fr, .int .i64 to, .int .i64 fl, .slice pw W.length cw])] w) (W.length) ?_ ?_
 · exact ⟨0, _, Nat.zero_le _, rfl, Hz.only [1, 3, 4], m21.ren [(1, 1), (2, 30)] (by decide)⟩
 clear Hz m21
 rintro g Az w70 ⟨k, gP, hkl, hg, Hz, m70⟩
 refine wsk fun K4 hK4 => ?_
 refine regS Hz (.move rfl <| .fa 7 rfl U25 <| .lb m70 2 U23 rfl rfl rfl <| .len rfl U23 <| .lss rfl rfl .nil) fun Az Hz => ?_
 refine bc Hz 57 ?_ ?_
 ·
  intro hb76 Hz; try simp only [QQ, Qax] at hb76
  have hk : k < W.length := by have := hb76; first | omega | (simp at this; omega)
  obtain ⟨⟨xs, xl⟩, hes⟩ : ∃ e, W[k]? = some e := ⟨_, List.getElem?_eq_getElem hk⟩
  have hxl : xl.length ≤ 1000000 := hW _ (List.mem_of_getElem? hes)
  have hx9 : W.getD k w1 = (xs, xl) := by rw [List.getD, hes]; rfl
  have hpk := hP.2.2.2.2.2 k hk
  rw [hx9] at hpk
  dsimp only at hpk
  refine wct Hz ?_
  refine zss (hK4 _ _ ?_)
  refine wsk fun K5 hK5 => ?_
  refine wp_block ?_
  refine zsr fun K6 hK6 => ?_
  refine goCh Hz (.fa 7 rfl U25 <| .lb m70 2 U23 rfl rfl rfl <| .move rfl .nil) fun Az Hz => ?_
  obtain ⟨b84, o84, vs84, hp84, hR84, ho84, m84⟩ := m70.openR (i := 1) rfl (k) (r := [.v (.int .i64 xs), .l 2 (xl.map itD)]) (wrD_get hes) 100 rfl
  revert Hz
  cases hp84; clear m70 ho84
  rcases hR84 with _ | ⟨hd84_0, _ | ⟨hd84_1, _ | _⟩⟩
  obtain rfl := hd84_0.v_out
  clear hd84_0
  obtain ⟨p85, c85, hv85, hc85⟩ := hd84_1.l_shape; subst hv85
  intro Hz
  have m85 := m84.dat 101 rfl (hd84_1.cast (fun _ h => (free_add rfl h))); clear m84 hd84_1
  refine goCh Hz (.c rfl (fun _ h_ => y_idx h_ rfl rfl U23 fct8 (k) rfl hk) <| .loadCR m85 (i := 100) rfl rfl U30 rfl fct8 .nil) fun Az Hz => ?_
  refine plz (e_alloc Hz m85 102 fct9 rfl fun g88 Az w89 Hz m89 _ _ => ?_)
  refine plz (stw Hz m89 102 fct8 fun w90 m90 _ => ?_)
  refine znl (hK6 _ _ ?_)
  refine wsk fun K7 hK7 => ?_
  replace Hz := Hz.oz [1, 3, 4, 5]
  refine zsr fun K8 hK8 => ?_
  refine goCh Hz (.fa 0 rfl U30 <| .lb m90 102 U2 rfl rfl rfl <| .move rfl <| .leq rfl rfl <| .move rfl .nil) fun Az Hz => ?_
  refine bc Hz 69 ?_ ?_
  · intro hb _; exact absurd hb (by have h7 := hpk.1; revert h7; generalize (if k = 0 then fr else (W.getD (k - 1) w1).1) = z; intro h7; simp; omega)
  clear Hz; intro _ Hz
  refine goCh Hz (.faZ 0 rfl U30 <| .loadB1Z m90 (i := 102) rfl rfl rfl U2 rfl <| .faZ 5 rfl U25 <| .loadB1Z m90 (i := 2) rfl rfl rfl U2 rfl <| .gtrZ rfl rfl <| .pickF rfl rfl <| .move rfl .nil) fun Az Hz => ?_
  refine bc Hz 76 ?_ ?_
  · intro hb _; exact absurd hb (by first | (simp; done) | (simp; omega))
  clear Hz; intro _ Hz
  refine goCh Hz (.faZ 2 rfl U25 <| .loadB1Z m90 (i := 2) rfl rfl rfl U3 rfl <| .faZ 3 rfl U25 <| .loadB1Z m90 (i := 2) rfl rfl rfl U3 rfl <| .faZ 1 rfl U30 <| .loadB1Z m90 (i := 102) rfl rfl rfl U28 rfl .nil) fun Az Hz => ?_
  refine stz Hz (ecl Hz Tryz.func49 rfl (ritems_any _ _ xl _ _ _ _ (m90.rd (i := 101) rfl).any (by omega)) ?_)
  rintro e w117 ⟨bi9, rfl, hbi, hb117⟩
  revert Hz
  obtain rfl : bi9 = true := hbi.2 hpk.2.2
  intro Hz
  have m118 := m90.later hb117
  refine ⟨_, rfl, ?_⟩; intro Az Hz
  refine gz hK8 Hz (.notZ rfl <| .pickF rfl rfl <| .nil) fun Az Hz => ?_
  refine wcf Hz ?_
  refine zss (hK7 _ _ ?_)
  replace Hz := Hz.oz [1, 3, 4, 5]
  refine wp_region_lit ?_
  refine gz hK5 Hz (.fa 0 rfl U30 <| .lb m118 102 U2 rfl rfl rfl <| .assign rfl <| .nil) fun Az Hz => ?_
  refine wp_region_lit ?_
  refine goCh Hz (.move rfl <| .inc (k + 1) <| .assign rfl .nil) fun Az Hz => ?_
  refine wpList_nil ?_
  show ∃ n', n' < _ ∧ _
  have hla : xs = (if k + 1 = 0 then fr else (W.getD (k + 1 - 1) w1).1) := by rw [if_neg (by omega), Nat.add_sub_cancel, List.getD, hes]; rfl
  rw [hla] at Hz
  exact ⟨W.length - (k + 1), by omega, k + 1, _, by omega, rfl, Hz.only [1, 3, 4], m118.only [1, 2]⟩
 intro hb76 Hz; try simp only [QQ, Qax] at hb76
 revert Hz
 obtain rfl : k = W.length := by have := hb76; first | omega | (simp at this; omega)
 intro Hz
 refine wcf Hz ?_
 refine wp_exit ?_
 refine hK3 _ _ ?_
 refine regS Hz (.assign rfl .nil) fun Az Hz => ?_
 refine rt1 Hz ?_
 exact ⟨rfl, m70.only [1]⟩
theorem zadd_x (X : Cx) (h : List Ver) (s9 : Int) (d : List Int) (p pd : Option Addr) (nn c cd : Nat) (w0 : World) (hl : h.length ≤ 1000000) (hd : d.length ≤ 1000000) (m0 : MemOk X w0 [(1, .dat (.slice p nn c) (.l 2 (h.map itD))), (2, .dat (.slice pd d.length cd) (.ns .u8 d))] w0) :
   Calls Tryz.prog 55 #[.slice p nn c, .int .i64 s9, .slice pd d.length cd] w0 fun e w' => ∃ (p9 : Option Addr) (c9 : Nat), e = .returned (.slice p9 (addF h s9 d).length c9) ∧ MemOk X w0 [(1, .dat (.slice p nn c) (.l 2 (h.map itD))), (2, .dat (.slice pd d.length cd) (.ns .u8 d)), (9, .dat (.slice p9 (addF h s9 d).length c9) (.l 2 ((addF h s9 d).map itD)))] w' := by
 refine ent3 Tryz.func55 rfl Tryz.ntmps55 fun Az Hz => ?_
 have hnn : nn = h.length := nnOf (m0.rd (i := 1) rfl)
 revert Hz
 subst hnn
 intro Hz
 refine regS Hz (.assign rfl .nil) fun Az Hz => ?_
 refine wsk fun K0 hK0 => ?_
 refine zsr fun K1 hK1 => ?_
 refine goCh Hz (.move rfl <| .lss rfl rfl <| .move rfl .nil) fun Az Hz => ?_
 refine bc Hz 9 ?_ ?_
 ·
  intro hb8 Hz; try simp only [QQ, Qax] at hb8
  have htn : ¬ (1 ≤ s9 ∧ s9 ≤ 1099511627776) := by have := hb8; first | omega | (simp at this; omega)
  refine goCh Hz (.sk <| .sk <| .pickT rfl rfl <| .move rfl <| .sk <| .sk <| .sk <| .sk .nil) fun Az Hz => ?_
  refine st_skipU Hz rfl rfl rfl rfl fun Az Hz => ?_
  refine st_skipU Hz rfl rfl rfl rfl fun Az Hz => ?_
  refine st_skipU Hz rfl rfl rfl rfl fun Az Hz => ?_
  refine st_skipU Hz rfl rfl rfl rfl fun Az Hz => ?_
  refine st_skipU Hz rfl rfl rfl rfl fun Az Hz => ?_
  refine st_skipU Hz rfl rfl rfl rfl fun Az Hz => ?_
  refine st_skipU Hz rfl rfl rfl rfl fun Az Hz => ?_
  refine st_skipU Hz rfl rfl rfl rfl fun Az Hz => ?_
  refine st_skipU Hz rfl rfl rfl rfl fun Az Hz => ?_
  refine gz hK1 Hz (.sk <| .pickT rfl rfl <| .nil) fun Az Hz => ?_
  refine wct Hz ?_
  replace Hz := Hz.oz [0, 1, 2, 6, 9, 12, 13, 17, 28]
  refine regS Hz (.move rfl <| .assign rfl .nil) fun Az Hz => ?_
  refine rt1 Hz ?_
  have hAd : addF h s9 d = h := by unfold addF; rw [if_neg (fun h9 => htn h9.1)]
  have m31 := m0.dat 9 rfl (m0.rd (i := 1) rfl)
  rw [hAd]
  exact ⟨_, _, rfl, m31.ren [(1, 1), (2, 2), (9, 9)] (by decide)⟩
 intro hb8 Hz; try simp only [QQ, Qax] at hb8
 have ht1 : 1 ≤ s9 := by have := hb8; first | omega | (simp at this; omega)
 refine goCh Hz (.moveZ rfl <| .gtrZ rfl rfl <| .pickF rfl rfl <| .move rfl .nil) fun Az Hz => ?_
 refine bc Hz 13 ?_ ?_
 ·
  intro hb36 Hz; try simp only [QQ, Qax] at hb36
  have htn : ¬ (1 ≤ s9 ∧ s9 ≤ 1099511627776) := by have := hb36; first | omega | (simp at this; omega)
  refine goCh Hz (.sk <| .sk <| .sk <| .sk .nil) fun Az Hz => ?_
  refine st_skipU Hz rfl rfl rfl rfl fun Az Hz => ?_
  refine st_skipU Hz rfl rfl rfl rfl fun Az Hz => ?_
  refine st_skipU Hz rfl rfl rfl rfl fun Az Hz => ?_
  refine st_skipU Hz rfl rfl rfl rfl fun Az Hz => ?_
  refine st_skipU Hz rfl rfl rfl rfl fun Az Hz => ?_
  refine st_skipU Hz rfl rfl rfl rfl fun Az Hz => ?_
  refine st_skipU Hz rfl rfl rfl rfl fun Az Hz => ?_
  refine st_skipU Hz rfl rfl rfl rfl fun Az Hz => ?_
  refine st_skipU Hz rfl rfl rfl rfl fun Az Hz => ?_
  refine gz hK1 Hz (.sk <| .pickT rfl rfl <| .nil) fun Az Hz => ?_
  refine wct Hz ?_
  replace Hz := Hz.oz [0, 1, 2, 6, 9, 12, 13, 17, 28]
  refine regS Hz (.move rfl <| .assign rfl .nil) fun Az Hz => ?_
  refine rt1 Hz ?_
  have hAd : addF h s9 d = h := by unfold addF; rw [if_neg (fun h9 => htn h9.1)]
  have m55 := m0.dat 9 rfl (m0.rd (i := 1) rfl)
  rw [hAd]
  exact ⟨_, _, rfl, m55.ren [(1, 1), (2, 2), (9, 9)] (by decide)⟩
 intro hb36 Hz; try simp only [QQ, Qax] at hb36
 have htm : 1 ≤ s9 ∧ s9 ≤ 1099511627776 := by have := hb36; first | omega | (simp at this; omega)
 refine goCh Hz (.moveZ rfl <| .lenZ rfl U94 <| .gtrZ rfl rfl <| .moveZ rfl .nil) fun Az Hz => ?_
 refine bc Hz 17 ?_ ?_
 ·
  intro hb60 Hz; try simp only [QQ, Qax] at hb60
  have hl0 : 0 < h.length := by have := hb60; first | omega | (simp at this; omega)
  obtain ⟨⟨xs, xd⟩, hes⟩ : ∃ e, h[h.length - 1]? = some e := ⟨_, List.getElem?_eq_getElem (by omega)⟩
  have hx9 : (h.getD (h.length - 1) v0).1 = xs := by rw [List.getD, hes]; rfl
  refine goCh Hz (.moveZ rfl <| .moveZ rfl <| .moveZ rfl <| .lenZ rfl U94 <| .subZ rfl rfl (r := ((h.length - 1 : Nat) : Int)) (by rw [IntWalk.i64_in _ (by omega)]; omega) .nil) fun Az Hz => ?_
  obtain ⟨b66, o66, vs66, hp66, hR66, ho66, m66⟩ := m0.openR (i := 1) rfl (h.length - 1) (r := [.v (.int .i64 xs), .ns .u8 xd]) (itD_get hes) 20 rfl
  revert Hz
  cases hp66; clear m0 ho66
  rcases hR66 with _ | ⟨hd66_0, _ | ⟨hd66_1, _ | _⟩⟩
  obtain rfl := hd66_0.v_out
  clear hd66_0
  obtain ⟨p67, c67, hv67, hc67⟩ := hd66_1.ns_shape; subst hv67
  intro Hz
  have m67 := m66.dat 21 rfl (hd66_1.cast (fun _ h => (free_add rfl h))); clear m66 hd66_1
  refine gz hK1 Hz (.g rfl rfl rfl rfl (fun _ h_ => y_idx h_ rfl rfl U94 fct10 (h.length - 1) rfl (by omega)) <| .fieldAddrQZ 0 rfl U110 rfl (s := 0) (by kernel_rfl) rfl <| .loadC0Z m67 (i := 20) rfl rfl U2 rfl <| .leqZ rfl rfl <| .pickTZ rfl rfl <| .pickF rfl rfl <| .nil) fun Az Hz => ?_
  refine bc Hz 28 ?_ ?_
  ·
   intro hb74 Hz; try simp only [QQ, Qax] at hb74
   have hbad : s9 ≤ xs := by have := hb74; first | omega | (simp at this; omega)
   refine wct Hz ?_
   replace Hz := Hz.oz [0, 1, 2, 6, 9, 12, 13, 17, 28]
   refine regS Hz (.move rfl <| .assign rfl .nil) fun Az Hz => ?_
   refine rt1 Hz ?_
   have hAd : addF h s9 d = h := by unfold addF; rw [if_neg (fun h9 => h9.2.elim (fun e => by rw [e] at hl0; simp at hl0) (fun h8 => by omega))]
   have m78 := m67.dat 9 rfl (m67.rd (i := 1) rfl)
   rw [hAd]
   exact ⟨_, _, rfl, m78.ren [(1, 1), (2, 2), (9, 9)] (by decide)⟩
  intro hb74 Hz; try simp only [QQ, Qax] at hb74
  have hgood : xs < s9 := by have := hb74; first | omega | (simp at this; omega)
  refine wcf Hz ?_
  refine zss (hK0 _ _ ?_)
  replace Hz := Hz.oz [0, 1, 2, 6, 9, 12, 13, 17, 28]
  refine zsr fun K2 hK2 => ?_
  refine goCh Hz (.move rfl .nil) fun Az Hz => ?_
  have m82 := m67.nilR 22 110 2
  refine plz (e_appR Hz m82 22 rfl rfl rfl (m82.rd (i := 1) rfl) U94 fct42 rfl rfl (by decide) (by simp only [List.length_append, List.length_nil, List.length_map, List.length_cons]; omega) rfl fun p83 c83 Az w84 Hz m84 => ?_)
  refine goCh Hz (.move rfl <| .move rfl .nil) fun Az Hz => ?_
  refine plz (e_app0M Hz m84 23 rfl rfl (m84.nums (i := 2) rfl) U22 fct13 (by decide) (by omega) rfl fun p87 c87 Az w88 Hz m88 => ?_)
  refine goCh Hz (.build rfl fct11 fl110zad rfl (by dsimp only [setL, List.set] <;> rfl) .nil) fun Az Hz => ?_
  have m91 := m88.freezeN 23 rfl
  refine plz (e_litR Hz m91 24 (mm := 2) rfl (.cons rfl rfl (.cons (.v _) (.cons (m91.rd (i := 23) rfl) .nil)) .nil) U94 fct42 rfl rfl rfl rfl rfl fun g90 Az w92 Hz m92 => ?_)
  have m94 := m92.freezeR 24 rfl
  refine plz (e_appR Hz m94 22 rfl rfl rfl (m94.rd (i := 24) rfl) U94 fct42 rfl rfl (by decide) (by simp only [List.length_append, List.length_nil, List.length_map, List.length_cons]; omega) rfl fun p93 c93 Az w95 Hz m95 => ?_)
  refine gz hK2 Hz (.assign rfl .nil) fun Az Hz => ?_
  refine rt1 Hz ?_
  have hAd : addF h s9 d = h ++ [(s9, d)] := by unfold addF; rw [if_pos ⟨htm, .inr (by omega)⟩]
  have m97 := m95.freezeR 22 rfl
  have hE : h.map itD ++ [[D.v (.int .i64 s9), .ns .u8 d]] = (h ++ [(s9, d)]).map itD := by rw [List.map_append]; rfl
  try rw [List.nil_append] at m97
  try simp only [List.nil_append] at m97
  rw [hE] at m97
  try simp only [List.nil_append]
  rw [hE]
  rw [List.length_map] at m97
  rw [List.length_map, hAd]
  exact ⟨_, _, rfl, m97.ren [(1, 1), (2, 2), (9, 22)] (by decide)⟩
 intro hb60 Hz; try simp only [QQ, Qax] at hb60
 have hnil : h = [] := List.length_eq_zero_iff.1 (by have := hb60; first | omega | (simp at this; omega) | (simp at this; simp [this]))
 refine gz hK1 Hz (.sk <| .sk <| .sk <| .sk <| .sk <| .sk <| .sk <| .sk <| .sk <| .pickFZ rfl rfl <| .pickF rfl rfl <| .nil) fun Az Hz => ?_
 refine wcf Hz ?_
 refine zss (hK0 _ _ ?_)
 replace Hz := Hz.oz [0, 1, 2, 6, 9, 12, 13, 17, 28]
 refine zsr fun K3 hK3 => ?_
 refine goCh Hz (.move rfl .nil) fun Az Hz => ?_
 have m112 := m0.nilR 20 110 2
 refine plz (e_appR Hz m112 20 rfl rfl rfl (m112.rd (i := 1) rfl) U94 fct42 rfl rfl (by decide) (by simp only [List.length_append, List.length_nil, List.length_map, List.length_cons]; omega) rfl fun p113 c113 Az w114 Hz m114 => ?_)
 refine goCh Hz (.move rfl <| .move rfl .nil) fun Az Hz => ?_
 refine plz (e_app0M Hz m114 21 rfl rfl (m114.nums (i := 2) rfl) U22 fct13 (by decide) (by omega) rfl fun p117 c117 Az w118 Hz m118 => ?_)
 refine goCh Hz (.build rfl fct11 fl110zad rfl (by dsimp only [setL, List.set] <;> rfl) .nil) fun Az Hz => ?_
 have m121 := m118.freezeN 21 rfl
 refine plz (e_litR Hz m121 22 (mm := 2) rfl (.cons rfl rfl (.cons (.v _) (.cons (m121.rd (i := 21) rfl) .nil)) .nil) U94 fct42 rfl rfl rfl rfl rfl fun g120 Az w122 Hz m122 => ?_)
 have m124 := m122.freezeR 22 rfl
 refine plz (e_appR Hz m124 20 rfl rfl rfl (m124.rd (i := 22) rfl) U94 fct42 rfl rfl (by decide) (by simp only [List.length_append, List.length_nil, List.length_map, List.length_cons]; omega) rfl fun p123 c123 Az w125 Hz m125 => ?_)
 refine gz hK3 Hz (.assign rfl .nil) fun Az Hz => ?_
 refine rt1 Hz ?_
 have hAd : addF h s9 d = h ++ [(s9, d)] := by unfold addF; rw [if_pos ⟨htm, .inl hnil⟩]
 have m127 := m125.freezeR 20 rfl
 have hE : h.map itD ++ [[D.v (.int .i64 s9), .ns .u8 d]] = (h ++ [(s9, d)]).map itD := by rw [List.map_append]; rfl
 try rw [List.nil_append] at m127
 try simp only [List.nil_append] at m127
 rw [hE] at m127
 try simp only [List.nil_append]
 rw [hE]
 rw [List.length_map] at m127
 rw [List.length_map, hAd]
 exact ⟨_, _, rfl, m127.ren [(1, 1), (2, 2), (9, 20)] (by decide)⟩
theorem zprune_x (X : Cx) (h : List Ver) (f : Int) (p : Option Addr) (nn c : Nat) (w0 : World) (hl : h.length ≤ 1000000) (hr : Rise h) (m0 : MemOk X w0 [(1, .dat (.slice p nn c) (.l 2 (h.map itD)))] w0) :
   Calls Tryz.prog 56 #[.slice p nn c, .int .i64 f] w0 fun e w' => ∃ (p9 : Option Addr) (c9 : Nat), e = .returned (.slice p9 (pruneF h f).length c9) ∧ MemOk X w0 [(1, .dat (.slice p nn c) (.l 2 (h.map itD))), (9, .dat (.slice p9 (pruneF h f).length c9) (.l 2 ((pruneF h f).map itD)))] w' := by
 refine ent2 Tryz.func56 rfl Tryz.ntmps56 fun Az Hz => ?_
 have hnn : nn = h.length := nnOf (m0.rd (i := 1) rfl)
 revert Hz
 subst hnn
 intro Hz
 refine regS Hz (.assign rfl .nil) fun Az Hz => ?_
 refine regS Hz (.assign rfl .nil) fun Az Hz => ?_
 refine wsk fun K0 hK0 => ?_
 refine regS Hz (.assign rfl .nil) fun Az Hz => ?_
 refine wp_block ?_
 refine wp_loop_ghost (fun g a w => ∃ (i : Nat) (p9 : Option Addr) (c9 : Nat), i ≤ h.length ∧ g = h.length - i ∧ Has 36 [(0, .slice p h.length c), (1, .int .i64 f), (5, .slice p9 ((rpr h f i).map itD).length c9), (6, .int .i64 i)] a ∧ MemOk X w0 [(1, .dat (.slice p h.length c) (.l 2 (h.map itD))), (9, .row (.slice p9 ((rpr h f i).map itD).length c9) 110 2 ((rpr h f i).map itD))] w) (h.length) ?_ ?_
 · have mz := m0.nilR 9 110 2
   have hz : ([] : List (List D)) = ((rpr h f 0).map itD) := by rw [rpr_zero]; rfl
   have hz2 : 0 = ((rpr h f 0).map itD).length := by rw [rpr_zero]; rfl
   rw [hz] at mz
   exact ⟨0, none, 0, Nat.zero_le _, rfl, by rw [← hz2]; exact Hz.only [0, 1, 5, 6], by rw [← hz2]; exact mz.only [1, 9]⟩
 clear Hz m0
 rintro g Az w4 ⟨i, p9, c9, hil, hg, Hz, m4⟩
 refine wsk fun K1 hK1 => ?_
 refine regS Hz (.move rfl <| .move rfl <| .len rfl U94 <| .lss rfl rfl .nil) fun Az Hz => ?_
 refine bc Hz 10 ?_ ?_
 ·
  intro hb9 Hz; try simp only [QQ, Qax] at hb9
  have hi : i < h.length := by have := hb9; first | omega | (simp at this; omega)
  obtain ⟨⟨xs, xd⟩, hes⟩ : ∃ e, h[i]? = some e := ⟨_, List.getElem?_eq_getElem hi⟩
  refine wct Hz ?_
  refine zss (hK1 _ _ ?_)
  refine wsk fun K2 hK2 => ?_
  refine wp_block ?_
  refine zsr fun K3 hK3 => ?_
  refine goCh Hz (.move rfl <| .inc (i + 1) <| .move rfl <| .len rfl U94 <| .geq rfl rfl <| .move rfl .nil) fun Az Hz => ?_
  refine bc Hz 18 ?_ ?_
  ·
   intro hb22 Hz; try simp only [QQ, Qax] at hb22
   have hlast : h.length ≤ i + 1 := by have := hb22; first | omega | (simp at this; omega)
   have hkeep : upN h f ≤ i + 1 := by have := upN_le h f; omega
   refine gz hK3 Hz (.sk <| .sk <| .sk <| .sk <| .sk <| .sk <| .sk <| .sk <| .pickT rfl rfl <| .nil) fun Az Hz => ?_
   refine wct Hz ?_
   replace Hz := Hz.oz [0, 1, 5, 6, 27]
   refine wp_region_lit ?_
   refine goCh Hz (.move rfl <| .move rfl <| .move rfl .nil) fun Az Hz => ?_
   obtain ⟨b36, o36, vs36, hp36, hR36, ho36, m36⟩ := m4.openR (i := 1) rfl (i) (r := [.v (.int .i64 xs), .ns .u8 xd]) (itD_get hes) 100 rfl
   revert Hz
   cases hp36; clear m4 ho36
   rcases hR36 with _ | ⟨hd36_0, _ | ⟨hd36_1, _ | _⟩⟩
   obtain rfl := hd36_0.v_out
   clear hd36_0
   obtain ⟨p37, c37, hv37, hc37⟩ := hd36_1.ns_shape; subst hv37
   intro Hz
   have m37 := m36.dat 101 rfl (hd36_1.cast (fun _ h => (free_add rfl h))); clear m36 hd36_1
   refine goCh Hz (.c rfl (fun _ h_ => y_idx h_ rfl rfl U94 fct10 (i) rfl hi) <| .loadCR m37 (i := 100) rfl rfl U110 rfl fct10 .nil) fun Az Hz => ?_
   refine plz (e_litR Hz m37 102 (mm := 2) rfl (.cons rfl rfl (.cons (.v _) (.cons (m37.rd (i := 101) rfl) .nil)) .nil) U94 fct42 rfl rfl rfl rfl rfl fun g40 Az w41 Hz m41 => ?_)
   have m43 := m41.freezeR 102 rfl
   refine plz (e_appR Hz m43 9 rfl rfl rfl (m43.rd (i := 102) rfl) U94 fct42 rfl rfl (by decide) (by rw [List.length_map]; simp; have : (rpr h f i).length ≤ h.length := (by unfold rpr; rw [List.length_drop, List.length_take]; omega); omega) rfl fun p42 c42 Az w44 Hz m44 => ?_)
   refine gz hK2 Hz (.assign rfl .nil) fun Az Hz => ?_
   replace Hz := Hz.oz [0, 1, 5, 6, 27]
   refine wp_region_lit ?_
   refine goCh Hz (.move rfl <| .inc (i + 1) <| .assign rfl .nil) fun Az Hz => ?_
   refine wpList_nil ?_
   show ∃ n', n' < _ ∧ _
   have hE : ((rpr h f i).map itD) ++ [[D.v (.int .i64 xs), .ns .u8 xd]] = ((rpr h f (i + 1)).map itD) := by rw [rpr_yes hes hkeep, List.map_append]; rfl
   rw [hE] at m44 Hz
   exact ⟨h.length - (i + 1), by omega, i + 1, _, _, by omega, rfl, Hz.only [0, 1, 5, 6], m44.ren [(1, 1), (9, 9)] (by decide)⟩
  intro hb22 Hz; try simp only [QQ, Qax] at hb22
  have hi2 : i + 1 < h.length := by have := hb22; first | omega | (simp at this; omega)
  obtain ⟨⟨ys, yd⟩, hes2⟩ : ∃ e, h[i + 1]? = some e := ⟨_, List.getElem?_eq_getElem hi2⟩
  have hy9 : (h.getD (i + 1) v0).1 = ys := by rw [List.getD, hes2]; rfl
  refine goCh Hz (.moveZ rfl <| .moveZ rfl <| .addZ rfl rfl (r := ((i + 1 : Nat) : Int)) (by rw [IntWalk.i64_in _ (by omega)]; omega) .nil) fun Az Hz => ?_
  obtain ⟨b53, o53, vs53, hp53, hR53, ho53, m53⟩ := m4.openR (i := 1) rfl (i + 1) (r := [.v (.int .i64 ys), .ns .u8 yd]) (itD_get hes2) 100 rfl
  revert Hz
  cases hp53; clear m4 ho53
  rcases hR53 with _ | ⟨hd53_0, _ | ⟨hd53_1, _ | _⟩⟩
  obtain rfl := hd53_0.v_out
  clear hd53_0
  obtain ⟨p54, c54, hv54, hc54⟩ := hd53_1.ns_shape; subst hv54
  intro Hz
  have m54 := m53.dat 101 rfl (hd53_1.cast (fun _ h => (free_add rfl h))); clear m53 hd53_1
  refine gz hK3 Hz (.g rfl rfl rfl rfl (fun _ h_ => y_idx h_ rfl rfl U94 fct10 (i + 1) rfl (by omega)) <| .fieldAddrQZ 0 rfl U110 rfl (s := 0) (by kernel_rfl) rfl <| .loadC0Z m54 (i := 100) rfl rfl U2 rfl <| .moveZ rfl <| .gtrZ rfl rfl <| .pickF rfl rfl <| .nil) fun Az Hz => ?_
  refine bc Hz 27 ?_ ?_
  ·
   intro hb61 Hz; try simp only [QQ, Qax] at hb61
   have hkeep : upN h f ≤ i + 1 := by first | assumption | exact (rpr_gt hr hi2).1 (by rw [hy9]; have := hb61; first | omega | (simp at this; omega))
   refine wct Hz ?_
   replace Hz := Hz.oz [0, 1, 5, 6, 27]
   refine wp_region_lit ?_
   refine goCh Hz (.move rfl <| .move rfl <| .move rfl .nil) fun Az Hz => ?_
   obtain ⟨b66, o66, vs66, hp66, hR66, ho66, m66⟩ := m54.openR (i := 1) rfl (i) (r := [.v (.int .i64 xs), .ns .u8 xd]) (itD_get hes) 102 rfl
   revert Hz
   cases hp66; clear m54 ho66
   rcases hR66 with _ | ⟨hd66_0, _ | ⟨hd66_1, _ | _⟩⟩
   obtain rfl := hd66_0.v_out
   clear hd66_0
   obtain ⟨p67, c67, hv67, hc67⟩ := hd66_1.ns_shape; subst hv67
   intro Hz
   have m67 := m66.dat 103 rfl (hd66_1.cast (fun _ h => (free_add rfl h))); clear m66 hd66_1
   refine goCh Hz (.c rfl (fun _ h_ => y_idx h_ rfl rfl U94 fct10 (i) rfl hi) <| .loadCR m67 (i := 102) rfl rfl U110 rfl fct10 .nil) fun Az Hz => ?_
   refine plz (e_litR Hz m67 104 (mm := 2) rfl (.cons rfl rfl (.cons (.v _) (.cons (m67.rd (i := 103) rfl) .nil)) .nil) U94 fct42 rfl rfl rfl rfl rfl fun g70 Az w71 Hz m71 => ?_)
   have m73 := m71.freezeR 104 rfl
   refine plz (e_appR Hz m73 9 rfl rfl rfl (m73.rd (i := 104) rfl) U94 fct42 rfl rfl (by decide) (by rw [List.length_map]; simp; have : (rpr h f i).length ≤ h.length := (by unfold rpr; rw [List.length_drop, List.length_take]; omega); omega) rfl fun p72 c72 Az w74 Hz m74 => ?_)
   refine gz hK2 Hz (.assign rfl .nil) fun Az Hz => ?_
   replace Hz := Hz.oz [0, 1, 5, 6, 27]
   refine wp_region_lit ?_
   refine goCh Hz (.move rfl <| .inc (i + 1) <| .assign rfl .nil) fun Az Hz => ?_
   refine wpList_nil ?_
   show ∃ n', n' < _ ∧ _
   have hE : ((rpr h f i).map itD) ++ [[D.v (.int .i64 xs), .ns .u8 xd]] = ((rpr h f (i + 1)).map itD) := by rw [rpr_yes hes hkeep, List.map_append]; rfl
   rw [hE] at m74 Hz
   exact ⟨h.length - (i + 1), by omega, i + 1, _, _, by omega, rfl, Hz.only [0, 1, 5, 6], m74.ren [(1, 1), (9, 9)] (by decide)⟩
  intro hb61 Hz; try simp only [QQ, Qax] at hb61
  have hdrop : i + 1 < upN h f := by have h9 := mt (rpr_gt (f := f) hr hi2).2; have h8 : ¬ f < (h.getD (i + 1) v0).1 := (by rw [hy9]; have := hb61; first | omega | (simp at this; omega)); have := h9 h8; omega
  refine wcf Hz ?_
  refine zss (hK2 _ _ ?_)
  replace Hz := Hz.oz [0, 1, 5, 6, 27]
  refine wp_region_lit ?_
  refine goCh Hz (.move rfl <| .inc (i + 1) <| .assign rfl .nil) fun Az Hz => ?_
  refine wpList_nil ?_
  show ∃ n', n' < _ ∧ _
  have hE : ((rpr h f i).map itD) = ((rpr h f (i + 1)).map itD) := by rw [rpr_no hdrop]
  rw [hE] at m54 Hz
  exact ⟨h.length - (i + 1), by omega, i + 1, _, _, by omega, rfl, Hz.only [0, 1, 5, 6], m54.ren [(1, 1), (9, 9)] (by decide)⟩
 intro hb9 Hz; try simp only [QQ, Qax] at hb9
 revert Hz
 obtain rfl : i = h.length := by have := hb9; first | omega | (simp at this; omega)
 intro Hz
 refine wcf Hz ?_
 refine wp_exit ?_
 refine hK0 _ _ ?_
 refine regS Hz (.move rfl <| .assign rfl .nil) fun Az Hz => ?_
 refine rt1 Hz ?_
 have m86 := m4.freezeR 9 rfl
 rw [rpr_all, List.length_map] at m86
 rw [rpr_all, List.length_map]
 exact ⟨_, _, rfl, m86.ren [(1, 1), (9, 9)] (by decide)⟩
end Go.Proofs.YteglmahnkfgelaaGreat.K
