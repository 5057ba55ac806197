/- chunk: Same of two chunks of the same data. -/
import Derived.Test.YteglmahnkfgelaaGreatChu7
namespace Go.Proofs.YteglmahnkfgelaaGreat.K
open Go.ChangeShapes Go.WideShapes Go.ChangeAt Go.RowKit
set_option linter.unusedVariables false
set_option linter.unusedSimpArgs false
set_option maxRecDepth 100000
set_option maxHeartbeats 4000000
theorem csame1_x (X : Cx) (xs : Int) (xd : List Int) (p1 : Option Addr) (c1 : Nat) (p2 : Option Addr) (c2 : Nat) (w0 : World) (hxb : BytesL xd) (m0 : MemOk X w0 [(1, .dat (.slice p1 xd.length c1) (.ns .u8 xd)), (2, .dat (.slice p2 xd.length c2) (.ns .u8 xd))] w0) :
   Calls Tryz.prog 81 #[.agg #[.int .i64 xs, .slice p1 xd.length c1], .agg #[.int .i64 xs, .slice p2 xd.length c2]] w0 fun e w' => e = .returned (.bool true) ∧ MemOk X w0 [(1, .dat (.slice p1 xd.length c1) (.ns .u8 xd)), (2, .dat (.slice p2 xd.length c2) (.ns .u8 xd))] w' := by
 refine ent2 Tryz.func81 rfl Tryz.ntmps81 fun Az Hz => ?_
 refine zsr fun K0 hK0 => ?_
 refine plz (e_box Hz m0 20 (cs := [_, _]) rfl rfl rfl fun g1 Az w2 Hz m2 _ _ => ?_)
 refine plz (e_box Hz m2 21 (cs := [_, _]) rfl rfl rfl fun g3 Az w4 Hz m4 _ _ => ?_)
 refine gz hK0 Hz (.assign rfl .nil) fun Az Hz => ?_
 refine zsr fun K1 hK1 => ?_
 refine goCh Hz (.fa 0 rfl U110 <| .lb m4 20 U2 rfl rfl rfl <| .fa 0 rfl U110 <| .lb m4 21 U2 rfl rfl rfl <| .eql rfl rfl <| .move rfl .nil) fun Az Hz => ?_
 refine bc Hz 10 ?_ ?_
 rotate_left
 · intro hb _; exact absurd hb (by simp)
 clear Hz; intro _ Hz
 refine goCh Hz (.faZ 1 rfl U110 <| .loadB1Z m4 (i := 20) rfl rfl rfl U22 rfl <| .faZ 1 rfl U110 <| .loadB1Z m4 (i := 21) rfl rfl rfl U22 rfl .nil) fun Az Hz => ?_
 refine stz Hz (ecb Hz Tryz.func62 rfl m4 (beq_x _ _ xd xd _ (m4.rd (i := 1) rfl).any (m4.rd (i := 2) rfl).any hxb hxb) fun Az w23 Hz m24 => ?_)
 refine gz hK1 Hz (.pickT rfl rfl <| .assign rfl <| .nil) fun Az Hz => ?_
 refine rt1 Hz ?_
 exact ⟨by simp, m24.only [1, 2]⟩
theorem ceq1_x (X : Cx) (h : List Ver) (p1 : Option Addr) (c1 : Nat) (p2 : Option Addr) (c2 : Nat) (w0 : World) (hl : h.length ≤ 1000000) (hbs : ∀ v ∈ h, BytesL v.2) (m0 : MemOk X w0 [(1, .dat (.slice p1 h.length c1) (.l 2 (h.map itD))), (2, .dat (.slice p2 h.length c2) (.l 2 (h.map itD)))] w0) :
   Calls Tryz.prog 83 #[.slice p1 h.length c1, .slice p2 h.length c2, .func (.func 81) #[] #[]] w0 fun e w' => e = .returned (.bool true) ∧ MemOk X w0 [(1, .dat (.slice p1 h.length c1) (.l 2 (h.map itD))), (2, .dat (.slice p2 h.length c2) (.l 2 (h.map itD)))] w' := by
 refine ent3 Tryz.func83 rfl Tryz.ntmps83 fun Az Hz => ?_
 refine regS Hz (.assign rfl .nil) fun Az Hz => ?_
 refine wsk fun K0 hK0 => ?_
 refine regS Hz (.move rfl <| .len rfl U94 <| .move rfl <| .len rfl U94 <| .neq rfl rfl .nil) fun Az Hz => ?_
 refine bc Hz 14 ?_ ?_
 · intro hb _; exact absurd hb (by simp)
 clear Hz; intro _ Hz
 refine wcf Hz ?_
 refine zss (hK0 _ _ ?_)
 refine wsk fun K1 hK1 => ?_
 refine regS Hz (.move rfl <| .len rfl U94 <| .move rfl .nil) fun Az Hz => ?_
 refine wp_block ?_
 refine wp_loop_ghost (fun g a w => ∃ k : Nat, k ≤ h.length ∧ g = h.length - k ∧ Has 32 [(0, .slice p1 h.length c1), (1, .slice p2 h.length c2), (2, .func (.func 81) #[] #[]), (15, .slice p1 h.length c1), (16, .int .i64 h.length), (17, .int .i64 k)] a ∧ MemOk X w0 [(1, .dat (.slice p1 h.length c1) (.l 2 (h.map itD))), (2, .dat (.slice p2 h.length c2) (.l 2 (h.map itD)))] w) (h.length) ?_ ?_
 · exact ⟨0, Nat.zero_le _, rfl, Hz.only [0, 1, 2, 15, 16, 17], m0.only [1, 2]⟩
 clear Hz m0
 rintro g Az w11 ⟨k, hkl, hg, Hz, m11⟩
 refine regS Hz (.lss rfl rfl .nil) fun Az Hz => ?_
 refine wsk fun K2 hK2 => ?_
 refine bc Hz 18 ?_ ?_
 ·
  intro hb13 Hz; try simp only [QQ, Qax] at hb13
  have hk : k < h.length := by have := hb13; first | omega | (simp at this; omega)
  obtain ⟨⟨xs, xd⟩, hes⟩ : ∃ e, h[k]? = some e := ⟨_, List.getElem?_eq_getElem hk⟩
  have hxb : BytesL xd := hbs _ (List.mem_of_getElem? hes)
  refine wct Hz ?_
  refine zss (hK2 _ _ ?_)
  refine wsk fun K3 hK3 => ?_
  refine wp_block ?_
  refine zsr fun K4 hK4 => ?_
  refine goCh Hz (.move rfl .nil) fun Az Hz => ?_
  obtain ⟨b17, o17, vs17, hp17, hR17, ho17, m17⟩ := m11.openR (i := 1) rfl (k) (r := [.v (.int .i64 xs), .ns .u8 xd]) (itD_get hes) 100 rfl
  revert Hz
  cases hp17; clear m11 ho17
  rcases hR17 with _ | ⟨hd17_0, _ | ⟨hd17_1, _ | _⟩⟩
  obtain rfl := hd17_0.v_out
  clear hd17_0
  obtain ⟨p18, c18, hv18, hc18⟩ := hd17_1.ns_shape; subst hv18
  intro Hz
  have m18 := m17.dat 101 rfl (hd17_1.cast (fun _ h => (free_add rfl h))); clear m17 hd17_1
  refine goCh Hz (.c rfl (fun _ h_ => y_idx h_ rfl rfl U94 fct10 (k) rfl hk) <| .loadCR m18 (i := 100) rfl rfl U110 rfl fct10 .nil) fun Az Hz => ?_
  refine plz (e_alloc Hz m18 102 fct11 rfl fun g21 Az w22 Hz m22 _ _ => ?_)
  refine goCh Hz (.assign rfl .nil) fun Az Hz => ?_
  refine plz (stw Hz m22 102 fct10 fun w24 m24 _ => ?_)
  refine znl (hK4 _ _ ?_)
  refine zsr fun K5 hK5 => ?_
  refine goCh Hz (.move rfl <| .move rfl .nil) fun Az Hz => ?_
  obtain ⟨b30, o30, vs30, hp30, hR30, ho30, m30⟩ := m24.openR (i := 2) rfl (k) (r := [.v (.int .i64 xs), .ns .u8 xd]) (itD_get hes) 103 rfl
  revert Hz
  cases hp30; clear m24 ho30
  rcases hR30 with _ | ⟨hd30_0, _ | ⟨hd30_1, _ | _⟩⟩
  obtain rfl := hd30_0.v_out
  clear hd30_0
  obtain ⟨p31, c31, hv31, hc31⟩ := hd30_1.ns_shape; subst hv31
  intro Hz
  have m31 := m30.dat 104 rfl (hd30_1.cast (fun _ h => (free_add rfl h))); clear m30 hd30_1
  refine goCh Hz (.c rfl (fun _ h_ => y_idx h_ rfl rfl U94 fct10 (k) rfl hk) <| .loadCR m31 (i := 103) rfl rfl U110 rfl fct10 .nil) fun Az Hz => ?_
  refine plz (e_alloc Hz m31 105 fct11 rfl fun g34 Az w35 Hz m35 _ _ => ?_)
  refine plz (stw Hz m35 105 fct10 fun w36 m36 _ => ?_)
  refine znl (hK5 _ _ ?_)
  replace Hz := Hz.oz [0, 1, 2, 15, 16, 17, 8, 9]
  refine zsr fun K6 hK6 => ?_
  refine goCh Hz (.move rfl <| .loadBR m36 (i := 102) rfl rfl U110 rfl fct10 (by simp) (by dsimp only [List.drop, List.take] <;> rfl) <| .loadBR m36 (i := 105) rfl rfl U110 rfl fct10 (by simp) (by dsimp only [List.drop, List.take] <;> rfl) .nil) fun Az Hz => ?_
  refine plz (e_callV Hz rfl Tryz.func81 rfl rfl rfl rfl (csame1_x _ xs xd _ _ _ _ _ hxb (m36.into [(1, 101), (2, 104)] (by decide) rfl)) ?_)
  rintro e w44 ⟨rfl, hm44⟩
  have mx44 := m36.back hm44 [(101, 1), (104, 2)] (by decide); clear hm44 m36
  have m44 := mx44.oz [101, 104, 1, 2, 100, 102, 103, 105]
  refine ⟨_, rfl, ?_⟩; intro Az Hz
  refine gz hK6 Hz (.not rfl .nil) fun Az Hz => ?_
  refine wcf Hz ?_
  refine zss (hK3 _ _ ?_)
  replace Hz := Hz.oz [0, 1, 2, 15, 16, 17]
  refine wp_region_lit ?_
  refine goCh Hz (.inc (k + 1) <| .move rfl .nil) fun Az Hz => ?_
  refine wpList_nil ?_
  show ∃ n', n' < _ ∧ _
  exact ⟨h.length - (k + 1), by omega, k + 1, by omega, rfl, Hz.only [0, 1, 2, 15, 16, 17], m44.only [1, 2]⟩
 intro hb13 Hz; try simp only [QQ, Qax] at hb13
 revert Hz
 obtain rfl : k = h.length := by have := hb13; first | omega | (simp at this; omega)
 intro Hz
 refine wcf Hz ?_
 refine wp_exit ?_
 refine hK1 _ _ ?_
 refine regS Hz (.assign rfl .nil) fun Az Hz => ?_
 refine rt1 Hz ?_
 exact ⟨rfl, m11.only [1, 2]⟩
theorem csame2_x (X : Cx) (h : List Ver) (p1 : Option Addr) (c1 : Nat) (p2 : Option Addr) (c2 : Nat) (w0 : World) (gF n1 n2 : Nat) (hl : h.length ≤ 1000000) (hbs : ∀ v ∈ h, BytesL v.2) (m0 : MemOk X w0 [(1, .dat (.slice p1 n1 c1) (.l 2 (h.map itD))), (2, .dat (.slice p2 n2 c2) (.l 2 (h.map itD))), (3, .box gF 136 [.func (.func 81) #[] #[]])] w0) :
   Calls Tryz.prog 82 #[.slice p1 n1 c1, .slice p2 n2 c2, .pointer (some ⟨gF, 0, none⟩)] w0 fun e w' => e = .returned (.bool true) ∧ MemOk X w0 [(1, .dat (.slice p1 n1 c1) (.l 2 (h.map itD))), (2, .dat (.slice p2 n2 c2) (.l 2 (h.map itD))), (3, .box gF 136 [.func (.func 81) #[] #[]])] w' := by
 obtain rfl : n1 = h.length := nnOf (m0.rd (i := 1) rfl)
 obtain rfl : n2 = h.length := nnOf (m0.rd (i := 2) rfl)
 refine ent3 Tryz.func82 rfl Tryz.ntmps82 fun Az Hz => ?_
 refine regS Hz (.assign rfl .nil) fun Az Hz => ?_
 refine zsr fun K0 hK0 => ?_
 refine goCh Hz (.move rfl <| .move rfl <| .lb m0 3 U136 rfl rfl rfl .nil) fun Az Hz => ?_
 refine plz (ecl Hz Tryz.func83 rfl (ceq1_x _ h _ _ _ _ _ hl hbs (m0.into [(1, 1), (2, 2)] (by decide) rfl)) ?_)
 rintro e w8 ⟨rfl, hm8⟩
 have mx8 := m0.back hm8 [(1, 1), (2, 2)] (by decide); clear hm8 m0
 have m8 := mx8.oz [1, 2, 3]
 refine ⟨_, rfl, ?_⟩; intro Az Hz
 refine gz hK0 Hz (.assign rfl .nil) fun Az Hz => ?_
 refine rt1 Hz ?_
 exact ⟨rfl, m8.only [1, 2, 3]⟩
theorem ceq2_x (X : Cx) (H : List (List Ver)) (p1 : Option Addr) (c1 : Nat) (p2 : Option Addr) (c2 : Nat) (w0 : World) (gF : Nat) (hl : H.length ≤ 1000000) (hok : ∀ h ∈ H, h.length ≤ 1000000 ∧ ∀ v ∈ h, BytesL v.2) (m0 : MemOk X w0 [(1, .dat (.slice p1 H.length c1) (.l 1 (H.map hD))), (2, .dat (.slice p2 H.length c2) (.l 1 (H.map hD))), (3, .box gF 136 [.func (.func 81) #[] #[]])] w0) :
   Calls Tryz.prog 84 #[.slice p1 H.length c1, .slice p2 H.length c2, .func (.func 82) #[] #[.pointer (some ⟨gF, 0, none⟩)]] w0 fun e w' => e = .returned (.bool true) ∧ MemOk X w0 [(1, .dat (.slice p1 H.length c1) (.l 1 (H.map hD))), (2, .dat (.slice p2 H.length c2) (.l 1 (H.map hD))), (3, .box gF 136 [.func (.func 81) #[] #[]])] w' := by
 refine ent3 Tryz.func84 rfl Tryz.ntmps84 fun Az Hz => ?_
 refine regS Hz (.assign rfl .nil) fun Az Hz => ?_
 refine wsk fun K0 hK0 => ?_
 refine regS Hz (.move rfl <| .len rfl U37 <| .move rfl <| .len rfl U37 <| .neq rfl rfl .nil) fun Az Hz => ?_
 refine bc Hz 14 ?_ ?_
 · intro hb _; exact absurd hb (by simp)
 clear Hz; intro _ Hz
 refine wcf Hz ?_
 refine zss (hK0 _ _ ?_)
 refine wsk fun K1 hK1 => ?_
 refine regS Hz (.move rfl <| .len rfl U37 <| .move rfl .nil) fun Az Hz => ?_
 refine wp_block ?_
 refine wp_loop_ghost (fun g a w => ∃ k : Nat, k ≤ H.length ∧ g = H.length - k ∧ Has 32 [(0, .slice p1 H.length c1), (1, .slice p2 H.length c2), (2, .func (.func 82) #[] #[.pointer (some ⟨gF, 0, none⟩)]), (15, .slice p1 H.length c1), (16, .int .i64 H.length), (17, .int .i64 k)] a ∧ MemOk X w0 [(1, .dat (.slice p1 H.length c1) (.l 1 (H.map hD))), (2, .dat (.slice p2 H.length c2) (.l 1 (H.map hD))), (3, .box gF 136 [.func (.func 81) #[] #[]])] w) (H.length) ?_ ?_
 · exact ⟨0, Nat.zero_le _, rfl, Hz.only [0, 1, 2, 15, 16, 17], m0.only [1, 2, 3]⟩
 clear Hz m0
 rintro g Az w11 ⟨k, hkl, hg, Hz, m11⟩
 refine regS Hz (.lss rfl rfl .nil) fun Az Hz => ?_
 refine wsk fun K2 hK2 => ?_
 refine bc Hz 18 ?_ ?_
 ·
  intro hb13 Hz; try simp only [QQ, Qax] at hb13
  have hk : k < H.length := by have := hb13; first | omega | (simp at this; omega)
  obtain ⟨h9, hes⟩ : ∃ e, H[k]? = some e := ⟨_, List.getElem?_eq_getElem hk⟩
  have hh9 := hok _ (List.mem_of_getElem? hes)
  refine wct Hz ?_
  refine zss (hK2 _ _ ?_)
  refine wsk fun K3 hK3 => ?_
  refine wp_block ?_
  refine zsr fun K4 hK4 => ?_
  refine goCh Hz (.move rfl .nil) fun Az Hz => ?_
  obtain ⟨b17, o17, vs17, hp17, hR17, ho17, m17⟩ := m11.openR (i := 1) rfl (k) (r := [.l 2 (h9.map itD)]) (hD_get hes) 100 rfl
  revert Hz
  cases hp17; clear m11 ho17
  rcases hR17 with _ | ⟨hd17_0, _ | _⟩
  obtain ⟨p18, c18, hv18, hc18⟩ := hd17_0.l_shape; subst hv18
  intro Hz
  have m18 := m17.dat 101 rfl (hd17_0.cast (fun _ h => (free_add rfl h))); clear m17 hd17_0
  refine gz hK4 Hz (.c rfl (fun _ h_ => y_idx h_ rfl rfl U37 fct12 (k) rfl hk) <| .loadC0 m18 (i := 100) rfl rfl U94 rfl <| .assign rfl <| .assign rfl <| .nil) fun Az Hz => ?_
  refine zsr fun K5 hK5 => ?_
  refine goCh Hz (.move rfl <| .move rfl .nil) fun Az Hz => ?_
  obtain ⟨b28, o28, vs28, hp28, hR28, ho28, m28⟩ := m18.openR (i := 2) rfl (k) (r := [.l 2 (h9.map itD)]) (hD_get hes) 102 rfl
  revert Hz
  cases hp28; clear m18 ho28
  rcases hR28 with _ | ⟨hd28_0, _ | _⟩
  obtain ⟨p29, c29, hv29, hc29⟩ := hd28_0.l_shape; subst hv29
  intro Hz
  have m29 := m28.dat 103 rfl (hd28_0.cast (fun _ h => (free_add rfl h))); clear m28 hd28_0
  refine gz hK5 Hz (.c rfl (fun _ h_ => y_idx h_ rfl rfl U37 fct12 (k) rfl hk) <| .loadC0 m29 (i := 102) rfl rfl U94 rfl <| .assign rfl <| .nil) fun Az Hz => ?_
  replace Hz := Hz.oz [0, 1, 2, 15, 16, 17, 8, 9]
  refine zsr fun K6 hK6 => ?_
  refine goCh Hz (.move rfl <| .move rfl <| .move rfl .nil) fun Az Hz => ?_
  refine plz (e_callC Hz rfl Tryz.func82 rfl rfl rfl rfl (csame2_x _ h9 _ _ _ _ _ _ _ _ hh9.1 hh9.2 (m29.into [(1, 101), (2, 103), (3, 3)] (by decide) rfl)) ?_)
  rintro e w40 ⟨rfl, hm40⟩
  have mx40 := m29.back hm40 [(101, 1), (103, 2), (3, 3)] (by decide); clear hm40 m29
  have m40 := mx40.oz [101, 103, 3, 1, 2, 100, 102]
  refine ⟨_, rfl, ?_⟩; intro Az Hz
  refine gz hK6 Hz (.not rfl .nil) fun Az Hz => ?_
  refine wcf Hz ?_
  refine zss (hK3 _ _ ?_)
  replace Hz := Hz.oz [0, 1, 2, 15, 16, 17]
  refine wp_region_lit ?_
  refine goCh Hz (.inc (k + 1) <| .move rfl .nil) fun Az Hz => ?_
  refine wpList_nil ?_
  show ∃ n', n' < _ ∧ _
  exact ⟨H.length - (k + 1), by omega, k + 1, by omega, rfl, Hz.only [0, 1, 2, 15, 16, 17], m40.only [1, 2, 3]⟩
 intro hb13 Hz; try simp only [QQ, Qax] at hb13
 revert Hz
 obtain rfl : k = H.length := by have := hb13; first | omega | (simp at this; omega)
 intro Hz
 refine wcf Hz ?_
 refine wp_exit ?_
 refine hK1 _ _ ?_
 refine regS Hz (.assign rfl .nil) fun Az Hz => ?_
 refine rt1 Hz ?_
 exact ⟨rfl, m11.only [1, 2, 3]⟩
theorem csame_x (X : Cx) (vo ch cn sz mk fl : Int) (H : List (List Ver)) (p1 : Option Addr) (c1 : Nat) (p2 : Option Addr) (c2 : Nat) (w0 : World) (hl : H.length ≤ 1000000) (hok : ∀ h ∈ H, h.length ≤ 1000000 ∧ ∀ v ∈ h, BytesL v.2) (m0 : MemOk X w0 [(1, .dat (.slice p1 H.length c1) (.l 1 (H.map hD))), (2, .dat (.slice p2 H.length c2) (.l 1 (H.map hD)))] w0) :
   Calls Tryz.prog 35 #[.agg #[.int .i64 vo, .int .i64 ch, .int .i64 cn, .int .i64 sz, .int .i64 mk, .int .i64 fl, .slice p1 H.length c1], .agg #[.int .i64 vo, .int .i64 ch, .int .i64 cn, .int .i64 sz, .int .i64 mk, .int .i64 fl, .slice p2 H.length c2]] w0 fun e w' => e = .returned (.bool true) ∧ MemOk X w0 [(1, .dat (.slice p1 H.length c1) (.l 1 (H.map hD))), (2, .dat (.slice p2 H.length c2) (.l 1 (H.map hD)))] w' := by
 refine ent2 Tryz.func35 rfl Tryz.ntmps35 fun Az Hz => ?_
 refine zsr fun K0 hK0 => ?_
 refine plz (e_box Hz m0 30 (cs := [_, _, _, _, _, _, _]) rfl rfl rfl fun g1 Az w2 Hz m2 _ _ => ?_)
 refine plz (e_box Hz m2 31 (cs := [_, _, _, _, _, _, _]) rfl rfl rfl fun g3 Az w4 Hz m4 _ _ => ?_)
 refine gz hK0 Hz (.assign rfl .nil) fun Az Hz => ?_
 refine zsr fun K1 hK1 => ?_
 refine plz (e_alloc Hz m4 32 fct19 rfl fun g6 Az w7 Hz m7 _ _ => ?_)
 refine plz (st1 Hz m7 32 fct18 fun w8 m8 _ => ?_)
 refine znl (hK1 _ _ ?_)
 refine regS Hz (.makeFunc rfl <| .assign rfl .nil) fun Az Hz => ?_
 refine wsk fun K2 hK2 => ?_
 have m11 := m8.oz [1, 2, 30, 31, 32]
 refine region_p 28 (B := [(1, _), (2, _), (30, _), (31, _), (32, _)]) (m11.to ⟨il, il, il, il, il, trivial⟩) m11 (by kernel_rfl) (fun w12 hP12 m12 => ?_); clear m11
 refine goR hP12 [0, 2] [0, 2] 2 0 5 Hz (m12.to ⟨il, il, il, il, il, trivial⟩) (.loadBR hh (i := 30) rfl rfl U39 rfl fct5 (by simp) (by dsimp only [List.drop, List.take] <;> rfl) <| .loadBR hh (i := 31) rfl rfl U39 rfl fct5 (by simp) (by dsimp only [List.drop, List.take] <;> rfl) .nil) fun Az Hz => ?_
 refine so 1 ?_
 refine ecb Hz Tryz.func52 rfl m12 (shapeof_x _ _ _ _ _ _ _ _) fun Az w15 Hz m16 => ?_
 refine ⟨m16.to ⟨il, il, il, il, il, trivial⟩, ?_⟩
 refine so 3 ?_
 refine ecb Hz Tryz.func52 rfl m16 (shapeof_x _ _ _ _ _ _ _ _) fun Az w18 Hz m19 => ?_
 refine ⟨m19.to ⟨il, il, il, il, il, trivial⟩, ?_⟩
 refine goA hP12 [4, 5] 2 15 63 Hz (m19.to ⟨il, il, il, il, il, trivial⟩) (.p (fun _ _ h_ => y_eqlH h_ rfl rfl) <| .move rfl .nil) fun Az Hz => ?_
 refine bc Hz 13 ?_ ?_
 rotate_left
 · intro hb _; exact absurd hb (by simp)
 clear Hz; intro _ Hz
 refine goR hP12 [6, 7, 8, 9, 10, 11, 12] [7, 9] 7 63 8191 Hz (m19.to ⟨il, il, il, il, il, trivial⟩) (.fa 4 rfl U39 <| .lb hh 30 U2 rfl rfl rfl <| .fa 4 rfl U39 <| .lb hh 31 U2 rfl rfl rfl <| .eql rfl rfl <| .pickT rfl rfl <| .move rfl .nil) fun Az Hz => ?_
 refine bc Hz 20 ?_ ?_
 rotate_left
 · intro hb _; exact absurd hb (by simp)
 clear Hz; intro _ Hz
 refine goR hP12 [13, 14, 15, 16, 17, 18, 19] [14, 16] 7 8191 1048575 Hz (m19.to ⟨il, il, il, il, il, trivial⟩) (.fa 5 rfl U39 <| .lb hh 30 U2 rfl rfl rfl <| .fa 5 rfl U39 <| .lb hh 31 U2 rfl rfl rfl <| .eql rfl rfl <| .pickT rfl rfl <| .move rfl .nil) fun Az Hz => ?_
 refine bc Hz 27 ?_ ?_
 rotate_left
 · intro hb _; exact absurd hb (by simp)
 clear Hz; intro _ Hz
 refine goR hP12 [20, 21, 22, 23, 24] [21, 23] 5 1048575 33554431 Hz (m19.to ⟨il, il, il, il, il, trivial⟩) (.fa 6 rfl U39 <| .lb hh 30 U37 rfl rfl rfl <| .fa 6 rfl U39 <| .lb hh 31 U37 rfl rfl rfl <| .move rfl .nil) fun Az Hz => ?_
 refine stepE_only 25 rfl (by kernel_rfl) (wantedG Hz rfl rfl rfl rfl) (fun K hK => ?_)
 refine e_call Hz Tryz.func84 rfl rfl rfl rfl (ceq2_x _ H _ _ _ _ _ _ hl hok (m19.into [(1, 1), (2, 2), (3, 32)] (by decide) rfl)) ?_
 rintro e w45 ⟨rfl, hm45⟩
 have mx45 := m19.back hm45 [(1, 1), (2, 2), (32, 3)] (by decide); clear hm45 m19
 have m45 := mx45.oz [1, 2, 32, 30, 31]
 refine ⟨_, rfl, ?_⟩; intro Az Hz
 refine hK _ _ (m45.to ⟨il, il, il, il, il, trivial⟩) ?_; clear hK K
 refine goA hP12 [26, 27] 2 67108863 268435455 Hz (m45.to ⟨il, il, il, il, il, trivial⟩) (.pickT rfl rfl <| .assign rfl .nil) fun Az Hz => ?_
 refine wpAnyE_done (by kernel_rfl) ?_ _
 refine hK2 _ _ ?_
 refine rt1 Hz ?_
 exact ⟨by simp, m45.only [1, 2]⟩
end Go.Proofs.YteglmahnkfgelaaGreat.K
