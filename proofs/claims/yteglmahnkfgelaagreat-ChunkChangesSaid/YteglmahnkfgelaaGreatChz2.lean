/- chunk: the reference's New; Changed of a history, of a chunk. -/
import Derived.Test.YteglmahnkfgelaaGreatChu4
import Derived.Test.YteglmahnkfgelaaGreatChzM
namespace Go.Proofs.YteglmahnkfgelaaGreat.K
open Go.ChangeShapes Go.WideShapes Go.ChangeAt Go.RowKit
set_option linter.unusedVariables false
set_option linter.unusedSimpArgs false
theorem fl39znw : flatS Tryz.prog 39 [.int .i64 0, .int .i64 0, .int .i64 0, .int .i64 0, .int .i64 0, .int .i64 0, .slice none 0 0] = true := by kernel_rfl
set_option maxRecDepth 100000
set_option maxHeartbeats 4000000
theorem znew_x (X : Cx) (vo ch sz fr to fl : Int) (n9 : Nat) (pw : Option Addr) (nw cw : Nat) (w0 : World) (hn : n9 ≤ 256) (m0 : MemOk X w0 [] w0) :
   Calls Tryz.prog 22 #[.agg #[.int .i64 vo, .int .i64 ch, .int .i64 n9, .int .i64 sz, .int .i64 fr, .int .i64 to, .int .i64 fl, .slice pw nw cw]] w0 fun e w' => ∃ (p9 : Option Addr) (c9 : Nat), e = .returned (.agg #[.int .i64 vo, .int .i64 ch, .int .i64 n9, .int .i64 sz, .int .i64 0, .int .i64 0, .slice p9 n9 c9]) ∧ MemOk X w0 [(9, .row (.slice p9 n9 c9) 94 1 ((List.replicate n9 ([] : List Ver)).map hD))] w' := by
 refine ent1 Tryz.func22 rfl Tryz.ntmps22 fun Az Hz => ?_
 refine zsr fun K0 hK0 => ?_
 refine plz (e_box Hz m0 20 (cs := [_, _, _, _, _, _, _, _]) rfl rfl rfl fun g1 Az w2 Hz m2 _ _ => ?_)
 refine plz (e_alloc Hz m2 21 fct6 rfl fun g3 Az w4 Hz m4 _ _ => ?_)
 refine znl (hK0 _ _ ?_)
 refine wsk fun K1 hK1 => ?_
 have m5 := m4.oz [20, 21]
 refine region_p 14 (B := [(20, _), (21, _)]) (m5.to ⟨il, il, trivial⟩) m5 (by kernel_rfl) (fun w6 hP6 m6 => ?_); clear m5
 refine goR hP6 [0, 1, 2, 3, 4, 5, 6, 7, 8, 9, 10, 11] [1, 3, 5, 7, 9] 12 0 4095 Hz (m6.to ⟨il, il, trivial⟩) (.fa 0 rfl U25 <| .lb hh 20 U3 rfl rfl rfl <| .fa 1 rfl U25 <| .lb hh 20 U3 rfl rfl rfl <| .fa 2 rfl U25 <| .lb hh 20 U3 rfl rfl rfl <| .fa 3 rfl U25 <| .lb hh 20 U3 rfl rfl rfl <| .fa 2 rfl U25 <| .lb hh 20 U3 rfl rfl rfl <| .p (fun _ _ h_ => y_max h_ rfl rfl (r := (n9 : Int)) (by omega)) <| .p (fun _ _ h_ => y_min h_ rfl rfl (r := (n9 : Int)) (by omega)) .nil) fun Az Hz => ?_
 refine so 12 ?_
 refine e_makeR Hz m6 22 (n9) 2 rfl rfl rfl rfl U37 fct3 (by decide) (by omega) rfl fun p19 c19 Az w20 Hz m20 => ?_
 refine ⟨m20.to ⟨il, il, trivial⟩, ?_⟩
 refine goA hP6 [13] 1 8191 16383 Hz (m20.to ⟨il, il, trivial⟩) (.build rfl fct6 fl39znw rfl (by dsimp only [setL, List.set] <;> rfl) .nil) fun Az Hz => ?_
 refine se 14 ?_
 refine stw Hz m20 21 fct5 fun w22 m22 _ => ?_
 refine wpAnyE_done (by kernel_rfl) ?_ _
 refine hK1 _ _ ?_
 refine rtd (retC (fn := Tryz.f22) Hz m22 (i := 21) rfl rfl rfl U39 rfl fct5 ?_)
 have hE : List.replicate n9 [D.l 2 []] = (List.replicate n9 ([] : List Ver)).map hD := by rw [List.map_replicate]; rfl
 rw [hE] at m22
 exact ⟨_, _, rfl, m22.ren [(9, 22)] (by decide)⟩
theorem hchanged_x (X : Cx) (h : List Ver) (a b : Int) (p : Option Addr) (nn c : Nat) (w0 : World) (hl : h.length ≤ 1000000) (hr : Rise h) (m0 : MemOk X w0 [(1, .dat (.slice p nn c) (.l 2 (h.map itD)))] w0) :
   Calls Tryz.prog 78 #[.slice p nn c, .int .i64 a, .int .i64 b] w0 fun e w' => e = .returned (.bool (chgF h a b)) ∧ MemOk X w0 [(1, .dat (.slice p nn c) (.l 2 (h.map itD)))] w' := by
 refine ent3 Tryz.func78 rfl Tryz.ntmps78 fun Az Hz => ?_
 have hul := upN_le h a
 have hnn : nn = h.length := nnOf (m0.rd (i := 1) rfl)
 revert Hz
 subst hnn
 intro Hz
 refine regS Hz (.assign rfl .nil) fun Az Hz => ?_
 refine zsr fun K0 hK0 => ?_
 refine goCh Hz (.move rfl <| .move rfl .nil) fun Az Hz => ?_
 refine plz (ecl Hz Tryz.func95 rfl (upto_x _ h a _ _ _ hl hr (m0.into [(1, 1)] (by decide) rfl)) ?_)
 rintro e w6 ⟨rfl, hm6⟩
 have mx6 := m0.back hm6 [(1, 1)] (by decide); clear hm6 m0
 have m6 := mx6.oz [1]
 refine ⟨_, rfl, ?_⟩; intro Az Hz
 refine gz hK0 Hz (.assign rfl .nil) fun Az Hz => ?_
 refine zsr fun K1 hK1 => ?_
 refine goCh Hz (.move rfl <| .move rfl <| .len rfl U94 <| .lss rfl rfl <| .move rfl .nil) fun Az Hz => ?_
 refine bc Hz 15 ?_ ?_
 ·
  intro hb19 Hz; try simp only [QQ, Qax] at hb19
  have hlt : upN h a < h.length := by have := hb19; first | omega | (simp at this; omega)
  obtain ⟨⟨xs, xd⟩, hes⟩ : ∃ e, h[upN h a]? = some e := ⟨_, List.getElem?_eq_getElem hlt⟩
  have hx9 : (h.getD (upN h a) v0).1 = xs := by rw [List.getD, hes]; rfl
  refine goCh Hz (.moveZ rfl <| .moveZ rfl .nil) fun Az Hz => ?_
  obtain ⟨b22, o22, vs22, hp22, hR22, ho22, m22⟩ := m6.openR (i := 1) rfl (upN h a) (r := [.v (.int .i64 xs), .ns .u8 xd]) (itD_get hes) 20 rfl
  revert Hz
  cases hp22; clear m6 ho22
  rcases hR22 with _ | ⟨hd22_0, _ | ⟨hd22_1, _ | _⟩⟩
  obtain rfl := hd22_0.v_out
  clear hd22_0
  obtain ⟨p23, c23, hv23, hc23⟩ := hd22_1.ns_shape; subst hv23
  intro Hz
  have m23 := m22.dat 21 rfl (hd22_1.cast (fun _ h => (free_add rfl h))); clear m22 hd22_1
  refine gz hK1 Hz (.g rfl rfl rfl rfl (fun _ h_ => y_idx h_ rfl rfl U94 fct10 (upN h a) rfl hlt) <| .fieldAddrQZ 0 rfl U110 rfl (s := 0) (by kernel_rfl) rfl <| .loadC0Z m23 (i := 20) rfl rfl U2 rfl <| .moveZ rfl <| .leqZ rfl rfl <| .pickT rfl rfl <| .assign rfl <| .nil) fun Az Hz => ?_
  refine rt1 Hz ?_
  have hv : chgF h a b = decide (xs ≤ b) := by unfold chgF; rw [decide_eq_true hlt, hx9, Bool.true_and]
  exact ⟨by rw [hv], m23.only [1]⟩
 intro hb19 Hz; try simp only [QQ, Qax] at hb19
 have hge : ¬ upN h a < h.length := by have := hb19; first | omega | (simp at this; omega)
 refine gz hK1 Hz (.sk <| .sk <| .sk <| .sk <| .sk <| .sk <| .sk <| .pickF rfl rfl <| .assign rfl <| .nil) fun Az Hz => ?_
 refine rt1 Hz ?_
 have hv : chgF h a b = false := by unfold chgF; rw [decide_eq_false hge, Bool.false_and]
 exact ⟨by rw [hv], m6.only [1]⟩
theorem cchanged_x (X : Cx) (vo ch cn sz mk fl : Int) (H : List (List Ver)) (a9 b9 : Int) (p : Option Addr) (c : Nat) (w0 : World) (hl : H.length ≤ 1000000) (hok : ∀ h ∈ H, h.length ≤ 1000000 ∧ Rise h) (m0 : MemOk X w0 [(1, .dat (.slice p H.length c) (.l 1 (H.map hD)))] w0) :
   Calls Tryz.prog 32 #[.agg #[.int .i64 vo, .int .i64 ch, .int .i64 cn, .int .i64 sz, .int .i64 mk, .int .i64 fl, .slice p H.length c], .int .i64 a9, .int .i64 b9] w0 fun e w' => ∃ (p9 : Option Addr) (c9 : Nat), e = .returned (.slice p9 (chgL H a9 b9 H.length).length c9) ∧ MemOk X w0 [(1, .dat (.slice p H.length c) (.l 1 (H.map hD))), (9, .num (.slice p9 (chgL H a9 b9 H.length).length c9) 3 .i64 (chgL H a9 b9 H.length))] w' := by
 refine ent3 Tryz.func32 rfl Tryz.ntmps32 fun Az Hz => ?_
 refine zsr fun K0 hK0 => ?_
 refine plz (e_box Hz m0 20 (cs := [_, _, _, _, _, _, _]) rfl rfl rfl fun g1 Az w2 Hz m2 _ _ => ?_)
 refine gz hK0 Hz (.assign rfl .nil) fun Az Hz => ?_
 refine regS Hz (.assign rfl .nil) fun Az Hz => ?_
 refine wsk fun K1 hK1 => ?_
 refine regS Hz (.fa 6 rfl U39 <| .lb m2 20 U37 rfl rfl rfl <| .len rfl U37 <| .move rfl .nil) fun Az Hz => ?_
 refine wp_block ?_
 refine wp_loop_ghost (fun g a w => ∃ (k : Nat) (p9 : Option Addr) (c9 : Nat), k ≤ H.length ∧ g = H.length - k ∧ Has 28 [(1, .int .i64 a9), (2, .int .i64 b9), (7, .slice p9 (chgL H a9 b9 k).length c9), (11, .slice p H.length c), (12, .int .i64 H.length), (13, .int .i64 k)] a ∧ MemOk X w0 [(1, .dat (.slice p H.length c) (.l 1 (H.map hD))), (9, .num (.slice p9 (chgL H a9 b9 k).length c9) 3 .i64 (chgL H a9 b9 k))] w) (H.length) ?_ ?_
 · have mz := m2.nilN 9 3 .i64
   exact ⟨0, none, 0, Nat.zero_le _, rfl, Hz.only [1, 2, 7, 11, 12, 13], mz.only [1, 9]⟩
 clear Hz m2
 rintro g Az w9 ⟨k, p9, c9, hkl, hg, Hz, m9⟩
 refine regS Hz (.lss rfl rfl .nil) fun Az Hz => ?_
 refine wsk fun K2 hK2 => ?_
 refine bc Hz 14 ?_ ?_
 ·
  intro hb11 Hz; try simp only [QQ, Qax] at hb11
  have hk : k < H.length := by have := hb11; first | omega | (simp at this; omega)
  obtain ⟨h9, hes⟩ : ∃ e, H[k]? = some e := ⟨_, List.getElem?_eq_getElem hk⟩
  have hx9 : H.getD k [] = h9 := by rw [List.getD, hes]; rfl
  have hh9 := hok _ (List.mem_of_getElem? hes)
  refine wct Hz ?_
  refine zss (hK2 _ _ ?_)
  refine wsk fun K3 hK3 => ?_
  refine wp_block ?_
  refine zsr fun K4 hK4 => ?_
  refine goCh Hz (.move rfl .nil) fun Az Hz => ?_
  obtain ⟨b15, o15, vs15, hp15, hR15, ho15, m15⟩ := m9.openR (i := 1) rfl (k) (r := [.l 2 (h9.map itD)]) (hD_get hes) 100 rfl
  revert Hz
  cases hp15; clear m9 ho15
  rcases hR15 with _ | ⟨hd15_0, _ | _⟩
  obtain ⟨p16, c16, hv16, hc16⟩ := hd15_0.l_shape; subst hv16
  intro Hz
  have m16 := m15.dat 101 rfl (hd15_0.cast (fun _ h => (free_add rfl h))); clear m15 hd15_0
  refine gz hK4 Hz (.c rfl (fun _ h_ => y_idx h_ rfl rfl U37 fct12 (k) rfl hk) <| .loadC0 m16 (i := 100) rfl rfl U94 rfl <| .assign rfl <| .assign rfl <| .nil) fun Az Hz => ?_
  refine zsr fun K5 hK5 => ?_
  refine goCh Hz (.move rfl <| .move rfl <| .move rfl .nil) fun Az Hz => ?_
  refine plz (ecl Hz Tryz.func78 rfl (hchanged_x _ h9 a9 b9 _ _ _ _ hh9.1 hh9.2 (m16.into [(1, 101)] (by decide) rfl)) ?_)
  rintro e w27 ⟨rfl, hm27⟩
  have mx27 := m16.back hm27 [(101, 1)] (by decide); clear hm27 m16
  have m27 := mx27.oz [101, 1, 9, 100]
  refine ⟨_, rfl, ?_⟩; intro Az Hz
  refine znl (hK5 _ _ ?_)
  refine bc Hz 21 ?_ ?_
  ·
   intro hb29 Hz; try simp only [QQ, Qax] at hb29
   have hyes : chgF h9 a9 b9 = true := by have h8 := hb29; simpa using h8
   refine wct Hz ?_
   replace Hz := Hz.oz [1, 2, 7, 11, 12, 13, 8, 21]
   refine wp_region_lit ?_
   refine goCh Hz (.move rfl <| .move rfl .nil) fun Az Hz => ?_
   refine plz (e_litN Hz m27 102 (k := .i64) rfl rfl U31 fct0 rfl rfl rfl rfl fun g33 Az w34 Hz m34 => ?_)
   refine plz (e_appN Hz m34 9 rfl rfl rfl (m34.numsO (i := 102) rfl) U31 fct0 (by decide) (by have := chgL_len H a9 b9 k; simp; omega) rfl fun p35 c35 Az w36 Hz m36 => ?_)
   refine gz hK3 Hz (.assign rfl .nil) fun Az Hz => ?_
   refine wp_region_lit ?_
   refine goCh Hz (.inc (k + 1) <| .move rfl .nil) fun Az Hz => ?_
   refine wpList_nil ?_
   show ∃ n', n' < _ ∧ _
   have hE : (chgL H a9 b9 k) ++ [(k : Int)] = (chgL H a9 b9 (k + 1)) := by rw [chgL_yes (by rw [hx9]; exact hyes)]
   rw [hE] at m36 Hz
   exact ⟨H.length - (k + 1), by omega, k + 1, _, _, by omega, rfl, Hz.only [1, 2, 7, 11, 12, 13], m36.ren [(1, 1), (9, 9)] (by decide)⟩
  intro hb29 Hz; try simp only [QQ, Qax] at hb29
  have hno : chgF h9 a9 b9 = false := by have h8 := hb29; simpa using h8
  refine wcf Hz ?_
  refine zss (hK3 _ _ ?_)
  replace Hz := Hz.oz [1, 2, 7, 11, 12, 13, 21]
  refine wp_region_lit ?_
  refine goCh Hz (.inc (k + 1) <| .move rfl .nil) fun Az Hz => ?_
  refine wpList_nil ?_
  show ∃ n', n' < _ ∧ _
  have hE : (chgL H a9 b9 k) = (chgL H a9 b9 (k + 1)) := by rw [chgL_no (by rw [hx9]; exact hno)]
  rw [hE] at m27 Hz
  exact ⟨H.length - (k + 1), by omega, k + 1, _, _, by omega, rfl, Hz.only [1, 2, 7, 11, 12, 13], m27.ren [(1, 1), (9, 9)] (by decide)⟩
 intro hb11 Hz; try simp only [QQ, Qax] at hb11
 revert Hz
 obtain rfl : k = H.length := by have := hb11; first | omega | (simp at this; omega)
 intro Hz
 refine wcf Hz ?_
 refine wp_exit ?_
 refine hK1 _ _ ?_
 refine regS Hz (.move rfl <| .assign rfl .nil) fun Az Hz => ?_
 refine rt1 Hz ?_
 exact ⟨_, _, rfl, m9.ren [(1, 1), (9, 9)] (by decide)⟩
end Go.Proofs.YteglmahnkfgelaaGreat.K
