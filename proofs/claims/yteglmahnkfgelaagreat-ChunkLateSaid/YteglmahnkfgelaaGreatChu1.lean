/- hist: upTo, copied. -/
import Derived.Test.YteglmahnkfgelaaGreatChuM
import Derived.Test.YteglmahnkfgelaaGreatG2
namespace Go.Proofs.YteglmahnkfgelaaGreat.K
open Go.ChangeShapes Go.WideShapes Go.ChangeAt Go.RowKit
set_option linter.unusedVariables false
set_option linter.unusedSimpArgs false
theorem fl110hcp : flatS Tryz.prog 110 [.int .i64 0, .slice none 0 0] = true := by kernel_rfl
theorem Rise.low {h : List Ver} (hr : Rise h) {t : Int} {j q : Nat} (hj : j < h.length) (hle : (h.getD j v0).1 ≤ t) (hq : q ≤ j) : (h.getD q v0).1 ≤ t := by
 rcases Nat.lt_or_ge q j with h1 | h1
 · have := hr.lt h1 hj; omega
 obtain rfl : q = j := by omega
 exact hle
theorem Rise.high {h : List Ver} (hr : Rise h) {t : Int} {j q : Nat} (hq : q < h.length) (hgt : t < (h.getD j v0).1) (hj : j ≤ q) : t < (h.getD q v0).1 := by
 rcases Nat.lt_or_ge j q with h1 | h1
 · have := hr.lt h1 hq; omega
 obtain rfl : j = q := by omega
 exact hgt
set_option maxRecDepth 100000
set_option maxHeartbeats 4000000
theorem htime_x (s : Int) (w0 : World) :
   Calls Tryz.prog 94 #[.int .i64 s] w0 fun e w' => e = .returned (.bool (decide (1 ≤ s ∧ s ≤ 1099511627776))) ∧ Below w0.heap.size w0 w' := by
 refine ent1 Tryz.func94 rfl Tryz.ntmps94 fun Az Hz => ?_
 have m0 := MemOk.start (fun _ => False) w0
 refine regS Hz (.assign rfl .nil) fun Az Hz => ?_
 refine zsr fun K0 hK0 => ?_
 refine goCh Hz (.move rfl <| .geq rfl rfl <| .move rfl .nil) fun Az Hz => ?_
 refine bc Hz 5 ?_ ?_
 ·
  intro hb8 Hz; try simp only [QQ, Qax] at hb8
  refine gz hK0 Hz (.moveZ rfl <| .leqZ rfl rfl <| .pickT rfl rfl <| .assign rfl <| .nil) fun Az Hz => ?_
  refine rt1 Hz ?_
  exact ⟨by first | rfl | (simp_all; done) | (simp_all; omega), m0.below⟩
 intro hb8 Hz; try simp only [QQ, Qax] at hb8
 refine gz hK0 Hz (.sk <| .sk <| .pickF rfl rfl <| .assign rfl <| .nil) fun Az Hz => ?_
 refine rt1 Hz ?_
 exact ⟨by first | rfl | (simp_all; done) | (simp_all; omega), m0.below⟩
theorem upc_x (X : Cx) (B1 B2 : Nat) (h : List Ver) (t : Int) (i : Nat) (p : Option Addr) (c : Nat) (w0 : World) (hi : i < h.length) (m0 : MemOk X w0 [(1, .box B1 94 [.slice p h.length c]), (2, .box B2 2 [.int .i64 t]), (3, .dat (.slice p h.length c) (.l 2 (h.map itD)))] w0) :
   Calls Tryz.prog 117 #[.int .i64 i, .pointer (some ⟨B1, 0, none⟩), .pointer (some ⟨B2, 0, none⟩)] w0 fun e w' => e = .returned (.bool (decide ((h.getD i v0).1 > t))) ∧ MemOk X w0 [(1, .box B1 94 [.slice p h.length c]), (2, .box B2 2 [.int .i64 t]), (3, .dat (.slice p h.length c) (.l 2 (h.map itD)))] w' := by
 refine ent3 Tryz.func117 rfl Tryz.ntmps117 fun Az Hz => ?_
 obtain ⟨⟨xs, xd⟩, hes⟩ : ∃ e, h[i]? = some e := ⟨_, List.getElem?_eq_getElem hi⟩
 refine regS Hz (.assign rfl .nil) fun Az Hz => ?_
 refine wsk fun K0 hK0 => ?_
 obtain ⟨b2, o2, vs2, hp2, hR2, ho2, m2⟩ := m0.openR (i := 3) rfl (i) (r := [.v (.int .i64 xs), .ns .u8 xd]) (itD_get hes) 20 rfl
 revert Hz
 cases hp2; clear m0 ho2
 rcases hR2 with _ | ⟨hd2_0, _ | ⟨hd2_1, _ | _⟩⟩
 obtain rfl := hd2_0.v_out
 clear hd2_0
 obtain ⟨p3, c3, hv3, hc3⟩ := hd2_1.ns_shape; subst hv3
 intro Hz
 have m3 := m2.dat 21 rfl (hd2_1.cast (fun _ h => (free_add rfl h))); clear m2 hd2_1
 have m4 := m3.oz [1, 2, 3, 20, 21]
 refine region_p 8 (B := [(1, _), (2, _), (3, _), (20, _), (21, _)]) (m4.to ⟨il, il, il, il, il, trivial⟩) m4 (by kernel_rfl) (fun w5 hP5 m5 => ?_); clear m4
 refine goR hP5 [0, 1, 2, 3, 4, 5, 6, 7] [0, 4, 5] 8 0 255 Hz (m5.to ⟨il, il, il, il, il, trivial⟩) (.lb hh 1 U94 rfl rfl rfl <| .move rfl <| .p (fun _ _ h_ => y_idx h_ rfl rfl U94 fct10 (i) rfl hi) <| .fieldAddrQ 0 rfl U110 rfl (s := 0) (by kernel_rfl) rfl <| .loadC0 hh (i := 20) rfl rfl U2 rfl <| .lb hh 2 U2 rfl rfl rfl <| .gtr rfl rfl <| .assign rfl .nil) fun Az Hz => ?_
 refine wpAnyE_done (by kernel_rfl) ?_ _
 refine hK0 _ _ ?_
 refine rt1 Hz ?_
 exact ⟨by rw [show (h.getD i v0).1 = xs by rw [List.getD, hes]; rfl], m5.only [1, 2, 3]⟩
theorem search_x (X : Cx) (B1 B2 : Nat) (h : List Ver) (t : Int) (p : Option Addr) (c : Nat) (w0 : World) (hl : h.length ≤ 1000000) (hr : Rise h) (m0 : MemOk X w0 [(1, .box B1 94 [.slice p h.length c]), (2, .box B2 2 [.int .i64 t]), (3, .dat (.slice p h.length c) (.l 2 (h.map itD)))] w0) :
   Calls Tryz.prog 116 #[.int .i64 h.length, .func (.func 117) #[] #[.pointer (some ⟨B1, 0, none⟩), .pointer (some ⟨B2, 0, none⟩)]] w0 fun e w' => e = .returned (.int .i64 (upN h t)) ∧ MemOk X w0 [(1, .box B1 94 [.slice p h.length c]), (2, .box B2 2 [.int .i64 t]), (3, .dat (.slice p h.length c) (.l 2 (h.map itD)))] w' := by
 refine ent2 Tryz.func116 rfl Tryz.ntmps116 fun Az Hz => ?_
 refine regS Hz (.assign rfl .nil) fun Az Hz => ?_
 refine regS Hz (.move rfl <| .assign rfl <| .assign rfl .nil) fun Az Hz => ?_
 refine wsk fun K0 hK0 => ?_
 refine wp_block ?_
 refine wp_loop_ghost (fun g a w => ∃ (i j : Nat), i ≤ j ∧ j ≤ h.length ∧ g = j - i ∧ (∀ q, q < i → (h.getD q v0).1 ≤ t) ∧ (∀ q, j ≤ q → q < h.length → t < (h.getD q v0).1) ∧ Has 26 [(1, .func (.func 117) #[] #[.pointer (some ⟨B1, 0, none⟩), .pointer (some ⟨B2, 0, none⟩)]), (5, .int .i64 i), (6, .int .i64 j)] a ∧ MemOk X w0 [(1, .box B1 94 [.slice p h.length c]), (2, .box B2 2 [.int .i64 t]), (3, .dat (.slice p h.length c) (.l 2 (h.map itD)))] w) (h.length) ?_ ?_
 · exact ⟨0, h.length, Nat.zero_le _, Nat.le_refl _, rfl, fun q hq => by omega, fun q h1 h2 => by omega, Hz.only [1, 5, 6], m0.only [1, 2, 3]⟩
 clear Hz m0
 rintro g Az w5 ⟨i, j, hij, hj, hg, hA, hB, Hz, m5⟩
 refine wsk fun K1 hK1 => ?_
 refine regS Hz (.move rfl <| .move rfl <| .lss rfl rfl .nil) fun Az Hz => ?_
 refine bc Hz 11 ?_ ?_
 ·
  intro hb9 Hz; try simp only [QQ, Qax] at hb9
  have hlt : i < j := by have := hb9; first | omega | (simp at this; omega)
  refine wct Hz ?_
  refine zss (hK1 _ _ ?_)
  refine wp_block ?_
  refine regS Hz (.move rfl <| .move rfl <| .add rfl rfl (IntWalk.i64_in _ (by omega)) <| .conv rfl U3 U164 (IntWalk.u64_in _ (by omega)) <| .shr rfl rfl (by omega) (r := (((i + j) / 2 : Nat) : Int)) (by rw [show ((2 : Int) ^ min (1 : Int).toNat IntKind.u64.bits) = 2 from rfl, Int.fdiv_eq_ediv_of_nonneg _ (by omega)]; omega) <| .conv rfl U164 U3 (IntWalk.i64_in _ (by omega)) <| .assign rfl .nil) fun Az Hz => ?_
  replace Hz := Hz.oz [1, 5, 6, 7]
  refine zsr fun K2 hK2 => ?_
  refine goCh Hz (.move rfl <| .move rfl .nil) fun Az Hz => ?_
  refine plz (e_callC Hz rfl Tryz.func117 rfl rfl rfl rfl (upc_x _ B1 B2 h t ((i + j) / 2) _ _ _ (by omega) (m5.into [(1, 1), (2, 2), (3, 3)] (by decide) rfl)) ?_)
  rintro e w22 ⟨rfl, hm22⟩
  have mx22 := m5.back hm22 [(1, 1), (2, 2), (3, 3)] (by decide); clear hm22 m5
  have m22 := mx22.oz [1, 2, 3]
  refine ⟨_, rfl, ?_⟩; intro Az Hz
  refine gz hK2 Hz (.not rfl .nil) fun Az Hz => ?_
  refine bc Hz 21 ?_ ?_
  ·
   intro hb25 Hz; try simp only [QQ, Qax] at hb25
   have hle : (h.getD ((i + j) / 2) v0).1 ≤ t := by have := hb25; first | omega | (simp at this; omega)
   refine wct Hz ?_
   refine wp_region_lit ?_
   refine goCh Hz (.move rfl <| .add rfl rfl (r := (((i + j) / 2 + 1 : Nat) : Int)) (by rw [IntWalk.i64_in _ (by omega)]; omega) <| .assign rfl .nil) fun Az Hz => ?_
   refine wpList_nil ?_
   show ∃ n', n' < _ ∧ _
   exact ⟨j - ((i + j) / 2 + 1), by omega, (i + j) / 2 + 1, j, by omega, hj, rfl, fun q hq => Rise.low hr (by omega) hle (by omega), hB, Hz.only [1, 5, 6], m22.only [1, 2, 3]⟩
  intro hb25 Hz; try simp only [QQ, Qax] at hb25
  have hgt : t < (h.getD ((i + j) / 2) v0).1 := by have := hb25; first | omega | (simp at this; omega)
  refine wcf Hz ?_
  refine wp_region_lit ?_
  refine goCh Hz (.move rfl <| .assign rfl .nil) fun Az Hz => ?_
  refine wpList_nil ?_
  show ∃ n', n' < _ ∧ _
  exact ⟨(i + j) / 2 - i, by omega, i, (i + j) / 2, by omega, by omega, rfl, hA, fun q hq h9 => Rise.high hr h9 hgt hq, Hz.only [1, 5, 6], m22.only [1, 2, 3]⟩
 intro hb9 Hz; try simp only [QQ, Qax] at hb9
 have hge : i = j := by have := hb9; first | omega | (simp at this; omega)
 refine wcf Hz ?_
 refine wp_exit ?_
 refine hK0 _ _ ?_
 refine regS Hz (.move rfl <| .assign rfl .nil) fun Az Hz => ?_
 refine rt1 Hz ?_
 revert Hz
 subst hge
 intro Hz
 rw [upN_eq hA (fun h9 => hB i (Nat.le_refl _) h9) hj]
 exact ⟨rfl, m5.only [1, 2, 3]⟩
theorem upto_x (X : Cx) (h : List Ver) (t : Int) (p : Option Addr) (c : Nat) (w0 : World) (hl : h.length ≤ 1000000) (hr : Rise h) (m0 : MemOk X w0 [(1, .dat (.slice p h.length c) (.l 2 (h.map itD)))] w0) :
   Calls Tryz.prog 95 #[.slice p h.length c, .int .i64 t] w0 fun e w' => e = .returned (.int .i64 (upN h t)) ∧ MemOk X w0 [(1, .dat (.slice p h.length c) (.l 2 (h.map itD)))] w' := by
 refine ent2 Tryz.func95 rfl Tryz.ntmps95 fun Az Hz => ?_
 refine zsr fun K0 hK0 => ?_
 refine plz (e_box Hz m0 20 rfl rfl rfl fun g1 Az w2 Hz m2 _ _ => ?_)
 refine plz (e_box Hz m2 21 rfl rfl rfl fun g3 Az w4 Hz m4 _ _ => ?_)
 refine gz hK0 Hz (.assign rfl .nil) fun Az Hz => ?_
 refine zsr fun K1 hK1 => ?_
 refine goCh Hz (.lb m4 20 U94 rfl rfl rfl <| .len rfl U94 <| .makeFunc rfl .nil) fun Az Hz => ?_
 refine plz (ecl Hz Tryz.func116 rfl (search_x _ _ _ h t _ _ _ hl hr (m4.into [(1, 20), (2, 21), (3, 1)] (by decide) rfl)) ?_)
 rintro e w12 ⟨rfl, hm12⟩
 have mx12 := m4.back hm12 [(20, 1), (21, 2), (1, 3)] (by decide); clear hm12 m4
 have m12 := mx12.oz [20, 21, 1]
 refine ⟨_, rfl, ?_⟩; intro Az Hz
 refine gz hK1 Hz (.assign rfl .nil) fun Az Hz => ?_
 refine rt1 Hz ?_
 exact ⟨rfl, m12.only [1]⟩
theorem hcopied_x (X : Cx) (h : List Ver) (p : Option Addr) (c : Nat) (w0 : World) (hl : h.length ≤ 1000000) (hok : ∀ v ∈ h, v.2.length ≤ 1000000) (m0 : MemOk X w0 [(1, .dat (.slice p h.length c) (.l 2 (h.map itD)))] w0) :
   Calls Tryz.prog 93 #[.slice p h.length c] w0 fun e w' => ∃ (p9 : Option Addr) (c9 : Nat), e = .returned (.slice p9 (h.map itD).length c9) ∧ MemOk X w0 [(1, .dat (.slice p h.length c) (.l 2 (h.map itD))), (9, .row (.slice p9 (h.map itD).length c9) 110 2 (h.map itD))] w' := by
 refine ent1 Tryz.func93 rfl Tryz.ntmps93 fun Az Hz => ?_
 refine regS Hz (.assign rfl .nil) fun Az Hz => ?_
 refine regS Hz (.assign rfl .nil) fun Az Hz => ?_
 refine wsk fun K0 hK0 => ?_
 refine regS Hz (.move rfl <| .len rfl U94 <| .move rfl .nil) fun Az Hz => ?_
 refine wp_block ?_
 refine wp_loop_ghost (fun g a w => ∃ (k : Nat) (p1 : Option Addr) (c1 : Nat), k ≤ h.length ∧ g = h.length - k ∧ Has 23 [(3, .slice p1 ((h.take k).map itD).length c1), (6, .slice p h.length c), (7, .int .i64 h.length), (8, .int .i64 k)] a ∧ MemOk X w0 [(1, .dat (.slice p h.length c) (.l 2 (h.map itD))), (9, .row (.slice p1 ((h.take k).map itD).length c1) 110 2 ((h.take k).map itD))] w) (h.length) ?_ ?_
 · have mz := m0.nilR 9 110 2
   exact ⟨0, _, _, Nat.zero_le _, rfl, Hz.only [3, 6, 7, 8], mz.only [1, 9]⟩
 clear Hz m0
 rintro g Az w6 ⟨k, p1, c1, hkl, hg, Hz, m6⟩
 refine regS Hz (.lss rfl rfl .nil) fun Az Hz => ?_
 refine wsk fun K1 hK1 => ?_
 refine bc Hz 9 ?_ ?_
 ·
  intro hb8 Hz; try simp only [QQ, Qax] at hb8
  have hk : k < h.length := by have := hb8; first | omega | (simp at this; omega)
  obtain ⟨⟨xs, xd⟩, hes⟩ : ∃ e, h[k]? = some e := ⟨_, List.getElem?_eq_getElem hk⟩
  have hed := hok _ (List.mem_of_getElem? hes)
  dsimp only at hed
  refine wct Hz ?_
  refine zss (hK1 _ _ ?_)
  refine wsk fun K2 hK2 => ?_
  refine wp_block ?_
  refine zsr fun K3 hK3 => ?_
  obtain ⟨b10, o10, vs10, hp10, hR10, ho10, m10⟩ := m6.openR (i := 1) rfl (k) (r := [.v (.int .i64 xs), .ns .u8 xd]) (itD_get hes) 100 rfl
  revert Hz
  cases hp10; clear m6 ho10
  rcases hR10 with _ | ⟨hd10_0, _ | ⟨hd10_1, _ | _⟩⟩
  obtain rfl := hd10_0.v_out
  clear hd10_0
  obtain ⟨p11, c11, hv11, hc11⟩ := hd10_1.ns_shape; subst hv11
  intro Hz
  have m11 := m10.dat 101 rfl (hd10_1.cast (fun _ h => (free_add rfl h))); clear m10 hd10_1
  refine goCh Hz (.c rfl (fun _ h_ => y_idx h_ rfl rfl U94 fct10 (k) rfl hk) <| .loadCR m11 (i := 100) rfl rfl U110 rfl fct10 .nil) fun Az Hz => ?_
  refine plz (e_alloc Hz m11 102 fct11 rfl fun g14 Az w15 Hz m15 _ _ => ?_)
  refine plz (stw Hz m15 102 fct10 fun w16 m16 _ => ?_)
  refine znl (hK3 _ _ ?_)
  have m17 := m16.oz [1, 9, 100, 101, 102]
  refine region_p 10 (B := [(1, _), (100, _), (101, _), (102, _)]) (m17.to ⟨il, il, il, il, trivial⟩) m17 (by kernel_rfl) (fun w18 hP18 m18 => ?_); clear m17
  refine goR hP18 [0, 1, 2, 3, 4] [2, 4] 5 0 31 Hz (m18.to ⟨il, il, il, il, trivial⟩) (.move rfl <| .fa 0 rfl U110 <| .lb hh 102 U2 rfl rfl rfl <| .fa 1 rfl U110 <| .lb hh 102 U22 rfl rfl rfl .nil) fun Az Hz => ?_
  refine so 5 ?_
  refine e_app0M Hz m18 103 rfl rfl (m18.nums (i := 101) rfl) U22 fct13 (by decide) (by omega) rfl fun p24 c24 Az w25 Hz m25 => ?_
  refine ⟨m25.to ⟨il, il, il, il, trivial⟩, ?_⟩
  refine goA hP18 [6] 1 63 127 Hz (m25.to ⟨il, il, il, il, trivial⟩) (.build rfl fct11 fl110hcp rfl (by dsimp only [setL, List.set] <;> rfl) .nil) fun Az Hz => ?_
  have m28 := m25.freezeN 103 rfl
  refine so 7 ?_
  refine e_litR Hz m28 104 (mm := 2) rfl (.cons rfl rfl (.cons (.v _) (.cons (m28.rd (i := 103) rfl) .nil)) .nil) U94 fct42 rfl rfl rfl rfl rfl fun g27 Az w29 Hz m29 => ?_
  refine ⟨m29.to ⟨il, il, il, il, trivial⟩, ?_⟩
  have m31 := m29.freezeR 104 rfl
  refine so 8 ?_
  refine e_appR Hz m31 9 rfl rfl rfl (m31.rd (i := 104) rfl) U94 fct42 rfl rfl (by decide) (by simp; omega) rfl fun p30 c30 Az w32 Hz m32 => ?_
  refine ⟨m32.to ⟨il, il, il, il, trivial⟩, ?_⟩
  refine goA hP18 [9] 1 511 1023 Hz (m32.to ⟨il, il, il, il, trivial⟩) (.assign rfl .nil) fun Az Hz => ?_
  refine wpAnyE_done (by kernel_rfl) ?_ _
  refine hK2 _ _ ?_
  replace Hz := Hz.oz [3, 6, 7, 8]
  refine wp_region_lit ?_
  refine goCh Hz (.inc (k + 1) <| .move rfl .nil) fun Az Hz => ?_
  refine wpList_nil ?_
  show ∃ n', n' < _ ∧ _
  have hE : (h.take k).map itD ++ [[D.v (.int .i64 xs), .ns .u8 xd]] = (h.take (k + 1)).map itD := by rw [take_snoc hes, List.map_append]; rfl
  rw [hE] at m32 Hz
  exact ⟨h.length - (k + 1), by omega, k + 1, _, _, by omega, rfl, Hz.only [3, 6, 7, 8], m32.only [1, 9]⟩
 intro hb8 Hz; try simp only [QQ, Qax] at hb8
 revert Hz
 obtain rfl : k = h.length := by have := hb8; first | omega | (simp at this; omega)
 intro Hz
 refine wcf Hz ?_
 refine wp_exit ?_
 refine hK0 _ _ ?_
 refine regS Hz (.move rfl <| .assign rfl .nil) fun Az Hz => ?_
 refine rt1 Hz ?_
 rw [List.take_length] at m6
 rw [List.take_length]
 exact ⟨_, _, rfl, m6.ren [(1, 1), (9, 9)] (by decide)⟩
end Go.Proofs.YteglmahnkfgelaaGreat.K
