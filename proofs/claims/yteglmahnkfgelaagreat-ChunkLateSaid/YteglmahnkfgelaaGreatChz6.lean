/- chunk: the reference's At, Read; Same of alike. -/
import Derived.Test.YteglmahnkfgelaaGreatChu4
import Derived.Test.YteglmahnkfgelaaGreatChzM
namespace Go.Proofs.YteglmahnkfgelaaGreat.K
open Go.ChangeShapes Go.WideShapes Go.ChangeAt Go.RowKit
set_option linter.unusedVariables false
set_option linter.unusedSimpArgs false
set_option maxRecDepth 100000
set_option maxHeartbeats 4000000
theorem zat_x (X : Cx) (h : List Ver) (t : Int) (p : Option Addr) (nn c : Nat) (w0 : World) (hl : h.length ≤ 1000000) (hr : Rise h) (m0 : MemOk X w0 [(1, .dat (.slice p nn c) (.l 2 (h.map itD)))] w0) :
   Calls Tryz.prog 80 #[.slice p nn c, .int .i64 t] w0 fun e w' => (atF h t = none ∧ e = .returned (.tuple #[.slice none 0 0, .bool false]) ∧ MemOk X w0 [(1, .dat (.slice p nn c) (.l 2 (h.map itD)))] w') ∨ ∃ (d : List Int) (p9 : Option Addr) (c9 : Nat), atF h t = some d ∧ e = .returned (.tuple #[.slice p9 d.length c9, .bool true]) ∧ MemOk X w0 [(1, .dat (.slice p nn c) (.l 2 (h.map itD))), (9, .dat (.slice p9 d.length c9) (.ns .u8 d))] w' := by
 refine ent2 Tryz.func80 rfl Tryz.ntmps80 fun Az Hz => ?_
 have hnn : nn = h.length := nnOf (m0.rd (i := 1) rfl)
 revert Hz
 subst hnn
 intro Hz
 refine regS Hz (.assign rfl <| .assign rfl .nil) fun Az Hz => ?_
 refine wsk fun K0 hK0 => ?_
 refine regS Hz (.move rfl <| .len rfl U94 <| .sub rfl rfl (r := (h.length : Int) - 1) (IntWalk.i64_in _ (by omega)) <| .assign rfl .nil) fun Az Hz => ?_
 refine wp_block ?_
 refine wp_loop_ghost (fun g a w => ∃ (i : Nat), i ≤ h.length ∧ g = i ∧ (∀ q, i ≤ q → q < h.length → t < (h.getD q v0).1) ∧ Has 26 [(0, .slice p h.length c), (1, .int .i64 t), (6, .int .i64 ((i : Int) - 1))] a ∧ MemOk X w0 [(1, .dat (.slice p h.length c) (.l 2 (h.map itD)))] w) (h.length) ?_ ?_
 · exact ⟨h.length, Nat.le_refl _, rfl, fun q h8 h9 => absurd h9 (by omega), Hz.only [0, 1, 6], m0.only [1]⟩
 clear Hz m0
 rintro g Az w7 ⟨i, hil, hg, hab, Hz, m7⟩
 refine wsk fun K1 hK1 => ?_
 refine regS Hz (.move rfl <| .geq rfl rfl .nil) fun Az Hz => ?_
 refine bc Hz 11 ?_ ?_
 ·
  intro hb10 Hz; try simp only [QQ, Qax] at hb10
  have hi : 1 ≤ i := by have := hb10; first | omega | (simp at this; omega)
  obtain ⟨⟨xs, xd⟩, hes⟩ : ∃ e, h[i - 1]? = some e := ⟨_, List.getElem?_eq_getElem (by omega)⟩
  have hx9 : (h.getD (i - 1) v0).1 = xs := by rw [List.getD, hes]; rfl
  have hx8 : (h.getD (i - 1) v0).2 = xd := by rw [List.getD, hes]; rfl
  refine wct Hz ?_
  refine zss (hK1 _ _ ?_)
  refine wsk fun K2 hK2 => ?_
  refine wp_block ?_
  refine zsr fun K3 hK3 => ?_
  refine goCh Hz (.move rfl <| .move rfl .nil) fun Az Hz => ?_
  obtain ⟨b16, o16, vs16, hp16, hR16, ho16, m16⟩ := m7.openR (i := 1) rfl (i - 1) (r := [.v (.int .i64 xs), .ns .u8 xd]) (itD_get hes) 100 rfl
  revert Hz
  cases hp16; clear m7 ho16
  rcases hR16 with _ | ⟨hd16_0, _ | ⟨hd16_1, _ | _⟩⟩
  obtain rfl := hd16_0.v_out
  clear hd16_0
  obtain ⟨p17, c17, hv17, hc17⟩ := hd16_1.ns_shape; subst hv17
  intro Hz
  have m17 := m16.dat 101 rfl (hd16_1.cast (fun _ h => (free_add rfl h))); clear m16 hd16_1
  refine gz hK3 Hz (.c rfl (fun _ h_ => y_idx h_ rfl rfl U94 fct10 (i - 1) (show (i : Int) - 1 = ((i - 1 : Nat) : Int) by omega) (by omega)) <| .fieldAddrQ 0 rfl U110 rfl (s := 0) (by kernel_rfl) rfl <| .loadC0 m17 (i := 100) rfl rfl U2 rfl <| .move rfl <| .leq rfl rfl <| .nil) fun Az Hz => ?_
  refine bc Hz 20 ?_ ?_
  ·
   intro hb23 Hz; try simp only [QQ, Qax] at hb23
   have hle : xs ≤ t := by have := hb23; first | omega | (simp at this; omega)
   refine wct Hz ?_
   replace Hz := Hz.oz [0, 1, 6, 11, 20]
   refine zsr fun K4 hK4 => ?_
   refine goCh Hz (.move rfl <| .move rfl .nil) fun Az Hz => ?_
   obtain ⟨b30, o30, vs30, hp30, hR30, ho30, m30⟩ := m17.openR (i := 1) rfl (i - 1) (r := [.v (.int .i64 xs), .ns .u8 xd]) (itD_get hes) 102 rfl
   revert Hz
   cases hp30; clear m17 ho30
   rcases hR30 with _ | ⟨hd30_0, _ | ⟨hd30_1, _ | _⟩⟩
   obtain rfl := hd30_0.v_out
   clear hd30_0
   obtain ⟨p31, c31, hv31, hc31⟩ := hd30_1.ns_shape; subst hv31
   intro Hz
   have m31 := m30.dat 103 rfl (hd30_1.cast (fun _ h => (free_add rfl h))); clear m30 hd30_1
   refine gz hK4 Hz (.c rfl (fun _ h_ => y_idx h_ rfl rfl U94 fct10 (i - 1) (show (i : Int) - 1 = ((i - 1 : Nat) : Int) by omega) (by omega)) <| .fieldAddrQ 1 rfl U110 rfl (s := 0) (by kernel_rfl) rfl <| .loadC1 m31 (i := 102) (q := 1) rfl rfl rfl U22 rfl <| .assign rfl <| .assign rfl <| .nil) fun Az Hz => ?_
   refine rt2 Hz ?_
   have hu : upN h t = i := upN_eq (fun q hq => hr.low (j := i - 1) (by omega) (by rw [hx9]; exact hle) (by omega)) (fun h8 => hab i (Nat.le_refl _) h8) hil
   exact .inr ⟨xd, _, _, by unfold atF; rw [hu, if_neg (by omega), hx8], rfl, m31.ren [(1, 1), (9, 103)] (by decide)⟩
  intro hb23 Hz; try simp only [QQ, Qax] at hb23
  have hgt : t < xs := by have := hb23; first | omega | (simp at this; omega)
  refine wcf Hz ?_
  refine zss (hK2 _ _ ?_)
  replace Hz := Hz.oz [0, 1, 6, 11, 20]
  refine wp_region_lit ?_
  refine goCh Hz (.move rfl <| .sub rfl rfl (r := ((i - 1 : Nat) : Int) - 1) (by rw [IntWalk.i64_in _ (by omega)]; omega) <| .assign rfl .nil) fun Az Hz => ?_
  refine wpList_nil ?_
  show ∃ n', n' < _ ∧ _
  exact ⟨i - 1, by omega, i - 1, by omega, rfl, fun q h8 h9 => (Nat.lt_or_ge q i).elim (fun h7 => by rw [show q = i - 1 by omega, hx9]; exact hgt) (fun h7 => hab q h7 h9), Hz.only [0, 1, 6], m17.only [1]⟩
 intro hb10 Hz; try simp only [QQ, Qax] at hb10
 revert Hz
 obtain rfl : i = 0 := by have := hb10; first | omega | (simp at this; omega)
 intro Hz
 refine wcf Hz ?_
 refine wp_exit ?_
 refine hK0 _ _ ?_
 refine regS Hz (.assign rfl <| .assign rfl .nil) fun Az Hz => ?_
 refine rt2 Hz ?_
 have hu : upN h t = 0 := upN_eq (fun q hq => absurd hq (Nat.not_lt_zero _)) (fun h8 => hab 0 (Nat.le_refl _) h8) (Nat.zero_le _)
 exact .inl ⟨by unfold atF; rw [if_pos hu], rfl, m7.only [1]⟩
theorem zat_none (X : Cx) (h : List Ver) (t : Int) (p : Option Addr) (nn c : Nat) (w0 : World) (hl : h.length ≤ 1000000) (hr : Rise h) (hA : atF h t = none) (m0 : MemOk X w0 [(1, .dat (.slice p nn c) (.l 2 (h.map itD)))] w0) :
   Calls Tryz.prog 80 #[.slice p nn c, .int .i64 t] w0 fun e w' => e = .returned (.tuple #[.slice none 0 0, .bool false]) ∧ MemOk X w0 [(1, .dat (.slice p nn c) (.l 2 (h.map itD)))] w' := by
 refine (zat_x X h t p nn c w0 hl hr m0).mono fun e w' h9 => ?_
 rcases h9 with h9 | ⟨d, p9, c9, h1, h2⟩
 · exact h9.2
 rw [hA] at h1; cases h1
theorem zat_some (X : Cx) (h : List Ver) (t : Int) (p : Option Addr) (nn c : Nat) (w0 : World) (hl : h.length ≤ 1000000) (hr : Rise h) {d : List Int} (hA : atF h t = some d) (m0 : MemOk X w0 [(1, .dat (.slice p nn c) (.l 2 (h.map itD)))] w0) :
   Calls Tryz.prog 80 #[.slice p nn c, .int .i64 t] w0 fun e w' => ∃ (p9 : Option Addr) (c9 : Nat), e = .returned (.tuple #[.slice p9 d.length c9, .bool true]) ∧ MemOk X w0 [(1, .dat (.slice p nn c) (.l 2 (h.map itD))), (9, .dat (.slice p9 d.length c9) (.ns .u8 d))] w' := by
 refine (zat_x X h t p nn c w0 hl hr m0).mono fun e w' h9 => ?_
 rcases h9 with h9 | ⟨d2, p9, c9, h1, h2⟩
 · rw [hA] at h9; cases h9.1
 rw [hA] at h1; injection h1 with h1; subst h1; exact ⟨p9, c9, h2⟩
theorem zread_some (X : Cx) (vo ch cn sz mk fl : Int) (H : List (List Ver)) (i : Nat) (t : Int) (p : Option Addr) (c : Nat) (w0 : World) (hl : H.length ≤ 1000000) (hok : ∀ h ∈ H, h.length ≤ 1000000 ∧ Rise h) (hi : i < H.length) (hsz : 0 ≤ sz ∧ sz ≤ 32) (hf : fl ≤ t) (hm : t ≤ mk) {d : List Int} (hA : atF (H.getD i []) t = some d) (m0 : MemOk X w0 [(1, .dat (.slice p H.length c) (.l 1 (H.map hD)))] w0) :
   Calls Tryz.prog 34 #[.agg #[.int .i64 vo, .int .i64 ch, .int .i64 cn, .int .i64 sz, .int .i64 mk, .int .i64 fl, .slice p H.length c], .int .i64 (i : Int), .int .i64 t] w0 fun e w' => ∃ (p9 : Option Addr) (c9 : Nat), e = .returned (.tuple #[.slice p9 ((atF (H.getD i []) t).getD (List.replicate sz.toNat 0)).length c9, .int .i64 0]) ∧ MemOk X w0 [(1, .dat (.slice p H.length c) (.l 1 (H.map hD))), (9, .dat (.slice p9 ((atF (H.getD i []) t).getD (List.replicate sz.toNat 0)).length c9) (.ns .u8 ((atF (H.getD i []) t).getD (List.replicate sz.toNat 0))))] w' := by
 refine ent3 Tryz.func34 rfl Tryz.ntmps34 fun Az Hz => ?_
 obtain ⟨h9, hes⟩ : ∃ e, H[i]? = some e := ⟨_, List.getElem?_eq_getElem hi⟩
 have hx9 : H.getD i [] = h9 := by rw [List.getD, hes]; rfl
 have hh9 := hok _ (List.mem_of_getElem? hes)
 have hA9 := hA
 rw [hx9] at hA9
 refine zsr fun K0 hK0 => ?_
 refine plz (e_box Hz m0 20 (cs := [_, _, _, _, _, _, _]) rfl rfl rfl fun g1 Az w2 Hz m2 _ _ => ?_)
 refine gz hK0 Hz (.assign rfl <| .assign rfl <| .nil) fun Az Hz => ?_
 refine wsk fun K1 hK1 => ?_
 refine wp_block ?_
 refine zsr fun K2 hK2 => ?_
 refine goCh Hz (.move rfl <| .lss rfl rfl <| .move rfl .nil) fun Az Hz => ?_
 refine bc Hz 13 ?_ ?_
 · intro hb _; exact absurd hb (by first | (simp; done) | (simp; omega))
 clear Hz; intro _ Hz
 refine gz hK2 Hz (.moveZ rfl <| .faZ 6 rfl U39 <| .loadB1Z m2 (i := 20) rfl rfl rfl U37 rfl <| .lenZ rfl U37 <| .geqZ rfl rfl <| .pickF rfl rfl <| .assign rfl <| .nil) fun Az Hz => ?_
 refine bc Hz 10 ?_ ?_
 · intro hb _; exact absurd hb (by first | (simp; done) | (simp; omega))
 clear Hz; intro _ Hz
 refine wcf Hz ?_
 replace Hz := Hz.oz [1, 2, 3, 6, 7]
 refine regS Hz (.move rfl <| .fa 5 rfl U39 <| .lb m2 20 U2 rfl rfl rfl <| .lss rfl rfl <| .assign rfl .nil) fun Az Hz => ?_
 refine bc Hz 20 ?_ ?_
 · intro hb _; exact absurd hb (by first | (simp; done) | (simp; omega))
 clear Hz; intro _ Hz
 refine wcf Hz ?_
 refine regS Hz (.move rfl <| .fa 4 rfl U39 <| .lb m2 20 U2 rfl rfl rfl <| .gtr rfl rfl <| .assign rfl .nil) fun Az Hz => ?_
 refine bc Hz 25 ?_ ?_
 · intro hb _; exact absurd hb (by first | (simp; done) | (simp; omega))
 clear Hz; intro _ Hz
 refine wcf Hz ?_
 refine zss (hK1 _ _ ?_)
 replace Hz := Hz.oz [1, 2, 3, 6, 7]
 refine zsr fun K3 hK3 => ?_
 refine goCh Hz (.fa 6 rfl U39 <| .lb m2 20 U37 rfl rfl rfl <| .move rfl .nil) fun Az Hz => ?_
 obtain ⟨b41, o41, vs41, hp41, hR41, ho41, m41⟩ := m2.openR (i := 1) rfl (i) (r := [.l 2 (h9.map itD)]) (hD_get hes) 21 rfl
 revert Hz
 cases hp41; clear m2 ho41
 rcases hR41 with _ | ⟨hd41_0, _ | _⟩
 obtain ⟨p42, c42, hv42, hc42⟩ := hd41_0.l_shape; subst hv42
 intro Hz
 have m42 := m41.dat 22 rfl (hd41_0.cast (fun _ h => (free_add rfl h))); clear m41 hd41_0
 refine goCh Hz (.c rfl (fun _ h_ => y_idx h_ rfl rfl U37 fct12 (i) rfl hi) <| .loadC0 m42 (i := 21) rfl rfl U94 rfl <| .move rfl .nil) fun Az Hz => ?_
 refine plz (ecl Hz Tryz.func80 rfl (zat_some _ h9 t _ _ _ _ hh9.1 hh9.2 hA9 (m42.into [(1, 22)] (by decide) rfl)) ?_)
 rintro e w46 ⟨p46, c46, rfl, hm46⟩
 have mx46 := m42.back hm46 [(22, 1), (23, 9)] (by decide); clear hm46 m42
 have m46 := mx46.oz [22, 23, 1, 20, 21]
 refine ⟨_, rfl, ?_⟩; intro Az Hz
 refine gz hK3 Hz (.move rfl <| .extract rfl rfl <| .extract rfl rfl <| .assign rfl <| .assign rfl <| .nil) fun Az Hz => ?_
 refine wsk fun K4 hK4 => ?_
 replace Hz := Hz.oz [3, 6, 7, 8, 9]
 refine regS Hz (.move rfl <| .not rfl .nil) fun Az Hz => ?_
 refine wcf Hz ?_
 refine zss (hK4 _ _ ?_)
 refine regS Hz (.move rfl <| .assign rfl <| .assign rfl .nil) fun Az Hz => ?_
 refine rt2 Hz ?_
 rw [hA]
 exact ⟨_, _, rfl, m46.ren [(1, 1), (9, 23)] (by decide)⟩
theorem zread_none (X : Cx) (vo ch cn sz mk fl : Int) (H : List (List Ver)) (i : Nat) (t : Int) (p : Option Addr) (c : Nat) (w0 : World) (hl : H.length ≤ 1000000) (hok : ∀ h ∈ H, h.length ≤ 1000000 ∧ Rise h) (hi : i < H.length) (hsz : 0 ≤ sz ∧ sz ≤ 32) (hf : fl ≤ t) (hm : t ≤ mk) (hA : atF (H.getD i []) t = none) (m0 : MemOk X w0 [(1, .dat (.slice p H.length c) (.l 1 (H.map hD)))] w0) :
   Calls Tryz.prog 34 #[.agg #[.int .i64 vo, .int .i64 ch, .int .i64 cn, .int .i64 sz, .int .i64 mk, .int .i64 fl, .slice p H.length c], .int .i64 (i : Int), .int .i64 t] w0 fun e w' => ∃ (p9 : Option Addr) (c9 : Nat), e = .returned (.tuple #[.slice p9 ((atF (H.getD i []) t).getD (List.replicate sz.toNat 0)).length c9, .int .i64 0]) ∧ MemOk X w0 [(1, .dat (.slice p H.length c) (.l 1 (H.map hD))), (9, .dat (.slice p9 ((atF (H.getD i []) t).getD (List.replicate sz.toNat 0)).length c9) (.ns .u8 ((atF (H.getD i []) t).getD (List.replicate sz.toNat 0))))] w' := by
 refine ent3 Tryz.func34 rfl Tryz.ntmps34 fun Az Hz => ?_
 obtain ⟨h9, hes⟩ : ∃ e, H[i]? = some e := ⟨_, List.getElem?_eq_getElem hi⟩
 have hx9 : H.getD i [] = h9 := by rw [List.getD, hes]; rfl
 have hh9 := hok _ (List.mem_of_getElem? hes)
 have hA9 := hA
 rw [hx9] at hA9
 refine zsr fun K0 hK0 => ?_
 refine plz (e_box Hz m0 20 (cs := [_, _, _, _, _, _, _]) rfl rfl rfl fun g1 Az w2 Hz m2 _ _ => ?_)
 refine gz hK0 Hz (.assign rfl <| .assign rfl <| .nil) fun Az Hz => ?_
 refine wsk fun K1 hK1 => ?_
 refine wp_block ?_
 refine zsr fun K2 hK2 => ?_
 refine goCh Hz (.move rfl <| .lss rfl rfl <| .move rfl .nil) fun Az Hz => ?_
 refine bc Hz 13 ?_ ?_
 · intro hb _; exact absurd hb (by first | (simp; done) | (simp; omega))
 clear Hz; intro _ Hz
 refine gz hK2 Hz (.moveZ rfl <| .faZ 6 rfl U39 <| .loadB1Z m2 (i := 20) rfl rfl rfl U37 rfl <| .lenZ rfl U37 <| .geqZ rfl rfl <| .pickF rfl rfl <| .assign rfl <| .nil) fun Az Hz => ?_
 refine bc Hz 10 ?_ ?_
 · intro hb _; exact absurd hb (by first | (simp; done) | (simp; omega))
 clear Hz; intro _ Hz
 refine wcf Hz ?_
 replace Hz := Hz.oz [1, 2, 3, 6, 7]
 refine regS Hz (.move rfl <| .fa 5 rfl U39 <| .lb m2 20 U2 rfl rfl rfl <| .lss rfl rfl <| .assign rfl .nil) fun Az Hz => ?_
 refine bc Hz 20 ?_ ?_
 · intro hb _; exact absurd hb (by first | (simp; done) | (simp; omega))
 clear Hz; intro _ Hz
 refine wcf Hz ?_
 refine regS Hz (.move rfl <| .fa 4 rfl U39 <| .lb m2 20 U2 rfl rfl rfl <| .gtr rfl rfl <| .assign rfl .nil) fun Az Hz => ?_
 refine bc Hz 25 ?_ ?_
 · intro hb _; exact absurd hb (by first | (simp; done) | (simp; omega))
 clear Hz; intro _ Hz
 refine wcf Hz ?_
 refine zss (hK1 _ _ ?_)
 replace Hz := Hz.oz [1, 2, 3, 6, 7]
 refine zsr fun K3 hK3 => ?_
 refine goCh Hz (.fa 6 rfl U39 <| .lb m2 20 U37 rfl rfl rfl <| .move rfl .nil) fun Az Hz => ?_
 obtain ⟨b41, o41, vs41, hp41, hR41, ho41, m41⟩ := m2.openR (i := 1) rfl (i) (r := [.l 2 (h9.map itD)]) (hD_get hes) 21 rfl
 revert Hz
 cases hp41; clear m2 ho41
 rcases hR41 with _ | ⟨hd41_0, _ | _⟩
 obtain ⟨p42, c42, hv42, hc42⟩ := hd41_0.l_shape; subst hv42
 intro Hz
 have m42 := m41.dat 22 rfl (hd41_0.cast (fun _ h => (free_add rfl h))); clear m41 hd41_0
 refine goCh Hz (.c rfl (fun _ h_ => y_idx h_ rfl rfl U37 fct12 (i) rfl hi) <| .loadC0 m42 (i := 21) rfl rfl U94 rfl <| .move rfl .nil) fun Az Hz => ?_
 refine plz (ecl Hz Tryz.func80 rfl (zat_none _ h9 t _ _ _ _ hh9.1 hh9.2 hA9 (m42.into [(1, 22)] (by decide) rfl)) ?_)
 rintro e w46 ⟨rfl, hm46⟩
 have mx46 := m42.back hm46 [(22, 1)] (by decide); clear hm46 m42
 have m46 := mx46.oz [22, 1, 20, 21]
 refine ⟨_, rfl, ?_⟩; intro Az Hz
 refine gz hK3 Hz (.move rfl <| .extract rfl rfl <| .extract rfl rfl <| .assign rfl <| .assign rfl <| .nil) fun Az Hz => ?_
 refine wsk fun K4 hK4 => ?_
 replace Hz := Hz.oz [3, 6, 7, 8, 9]
 refine regS Hz (.move rfl <| .not rfl .nil) fun Az Hz => ?_
 refine wct Hz ?_
 refine zsr fun K5 hK5 => ?_
 refine goCh Hz (.fa 3 rfl U39 <| .lb m46 20 U3 rfl rfl rfl .nil) fun Az Hz => ?_
 refine plz (e_makeN Hz m46 24 (sz.toNat) rfl rfl (by omega) (by omega) U22 fct13 (by decide) (by omega) rfl fun p60 c60 Az w61 Hz m61 => ?_)
 refine gz hK5 Hz (.assign rfl <| .assign rfl <| .nil) fun Az Hz => ?_
 refine rt2 Hz ?_
 have m64 := m61.freezeN 24 rfl
 have hln : (List.replicate sz.toNat (0 : Int)).length = sz.toNat := List.length_replicate
 rw [hA]
 refine ⟨_, _, by rw [Option.getD_none, hln], ?_⟩
 rw [Option.getD_none, hln]
 exact m64.ren [(1, 1), (9, 24)] (by decide)
theorem zsamehist_x (X : Cx) (h : List Ver) (p1 p2 : Option Addr) (n1 c1 n2 c2 : Nat) (w0 : World) (hl : h.length ≤ 1000000) (m0 : MemOk X w0 [(1, .dat (.slice p1 n1 c1) (.l 2 (h.map itD))), (2, .dat (.slice p2 n2 c2) (.l 2 (h.map itD)))] w0) :
   Calls Tryz.prog 50 #[.slice p1 n1 c1, .slice p2 n2 c2] w0 fun e w' => e = .returned (.bool true) ∧ MemOk X w0 [(1, .dat (.slice p1 n1 c1) (.l 2 (h.map itD))), (2, .dat (.slice p2 n2 c2) (.l 2 (h.map itD)))] w' := by
 refine ent2 Tryz.func50 rfl Tryz.ntmps50 fun Az Hz => ?_
 have hn1 : n1 = h.length := nnOf (m0.rd (i := 1) rfl)
 have hn2 : n2 = h.length := nnOf (m0.rd (i := 2) rfl)
 revert Hz
 subst hn1 hn2
 intro Hz
 refine regS Hz (.assign rfl .nil) fun Az Hz => ?_
 refine wsk fun K0 hK0 => ?_
 refine regS Hz (.move rfl <| .len rfl U94 <| .move rfl <| .len rfl U94 <| .neq rfl rfl .nil) fun Az Hz => ?_
 refine bc Hz 10 ?_ ?_
 · intro hb _; exact absurd hb (by simp)
 clear Hz; intro _ Hz
 refine wcf Hz ?_
 refine zss (hK0 _ _ ?_)
 refine wsk fun K1 hK1 => ?_
 refine regS Hz (.assign rfl .nil) fun Az Hz => ?_
 refine wp_block ?_
 refine wp_loop_ghost (fun g a w => ∃ (k : Nat), k ≤ h.length ∧ g = h.length - k ∧ Has 43 [(0, .slice p1 h.length c1), (1, .slice p2 h.length c2), (5, .int .i64 k)] a ∧ MemOk X w0 [(1, .dat (.slice p1 h.length c1) (.l 2 (h.map itD))), (2, .dat (.slice p2 h.length c2) (.l 2 (h.map itD)))] w) (h.length) ?_ ?_
 · exact ⟨0, Nat.zero_le _, rfl, Hz.only [0, 1, 5], m0.only [1, 2]⟩
 clear Hz m0
 rintro g Az w9 ⟨k, hkl, hg, Hz, m9⟩
 refine wsk fun K2 hK2 => ?_
 refine regS Hz (.move rfl <| .move rfl <| .len rfl U94 <| .lss rfl rfl .nil) fun Az Hz => ?_
 refine bc Hz 14 ?_ ?_
 ·
  intro hb14 Hz; try simp only [QQ, Qax] at hb14
  have hk : k < h.length := by have := hb14; first | omega | (simp at this; omega)
  obtain ⟨⟨xs, xd⟩, hes⟩ : ∃ e, h[k]? = some e := ⟨_, List.getElem?_eq_getElem hk⟩
  refine wct Hz ?_
  refine zss (hK2 _ _ ?_)
  refine wsk fun K3 hK3 => ?_
  refine wp_block ?_
  refine wsk fun K4 hK4 => ?_
  obtain ⟨b15, o15, vs15, hp15, hR15, ho15, m15⟩ := m9.openR (i := 1) rfl (k) (r := [.v (.int .i64 xs), .ns .u8 xd]) (itD_get hes) 100 rfl
  revert Hz
  cases hp15; clear m9 ho15
  rcases hR15 with _ | ⟨hd15_0, _ | ⟨hd15_1, _ | _⟩⟩
  obtain rfl := hd15_0.v_out
  clear hd15_0
  obtain ⟨p16, c16, hv16, hc16⟩ := hd15_1.ns_shape; subst hv16
  intro Hz
  have m16 := m15.dat 101 rfl (hd15_1.cast (fun _ h => (free_add rfl h))); clear m15 hd15_1
  obtain ⟨b17, o17, vs17, hp17, hR17, ho17, m17⟩ := m16.openR (i := 2) rfl (k) (r := [.v (.int .i64 xs), .ns .u8 xd]) (itD_get hes) 102 rfl
  revert Hz
  cases hp17; clear m16 ho17
  rcases hR17 with _ | ⟨hd17_0, _ | ⟨hd17_1, _ | _⟩⟩
  obtain rfl := hd17_0.v_out
  clear hd17_0
  obtain ⟨p18, c18, hv18, hc18⟩ := hd17_1.ns_shape; subst hv18
  intro Hz
  have m18 := m17.dat 103 rfl (hd17_1.cast (fun _ h => (free_add rfl h))); clear m17 hd17_1
  obtain ⟨b19, o19, vs19, hp19, hR19, ho19, m19⟩ := m18.openR (i := 1) rfl (k) (r := [.v (.int .i64 xs), .ns .u8 xd]) (itD_get hes) 104 rfl
  revert Hz
  cases hp19; clear m18 ho19
  rcases hR19 with _ | ⟨hd19_0, _ | ⟨hd19_1, _ | _⟩⟩
  obtain rfl := hd19_0.v_out
  clear hd19_0
  obtain ⟨p20, c20, hv20, hc20⟩ := hd19_1.ns_shape; subst hv20
  intro Hz
  have m20 := m19.dat 105 rfl (hd19_1.cast (fun _ h => (free_add rfl h))); clear m19 hd19_1
  obtain ⟨b21, o21, vs21, hp21, hR21, ho21, m21⟩ := m20.openR (i := 2) rfl (k) (r := [.v (.int .i64 xs), .ns .u8 xd]) (itD_get hes) 106 rfl
  revert Hz
  cases hp21; clear m20 ho21
  rcases hR21 with _ | ⟨hd21_0, _ | ⟨hd21_1, _ | _⟩⟩
  obtain rfl := hd21_0.v_out
  clear hd21_0
  obtain ⟨p22, c22, hv22, hc22⟩ := hd21_1.ns_shape; subst hv22
  intro Hz
  have m22 := m21.dat 107 rfl (hd21_1.cast (fun _ h => (free_add rfl h))); clear m21 hd21_1
  have m23 := m22.oz [1, 2, 100, 101, 102, 103, 104, 105, 106, 107]
  refine region_p 26 (B := [(1, _), (2, _), (100, _), (101, _), (102, _), (103, _), (104, _), (105, _), (106, _), (107, _)]) (m23.to ⟨il, il, il, il, il, il, il, il, il, il, trivial⟩) m23 (by kernel_rfl) (fun w24 hP24 m24 => ?_); clear m23
  refine goR hP24 [0, 1, 2, 3, 4, 5, 6, 7, 8, 9, 10, 11] [4, 9] 12 0 4095 Hz (m24.to ⟨il, il, il, il, il, il, il, il, il, il, trivial⟩) (.move rfl <| .move rfl <| .p (fun _ _ h_ => y_idx h_ rfl rfl U94 fct10 (k) rfl hk) <| .fieldAddrQ 0 rfl U110 rfl (s := 0) (by kernel_rfl) rfl <| .loadC0 hh (i := 100) rfl rfl U2 rfl <| .move rfl <| .move rfl <| .p (fun _ _ h_ => y_idx h_ rfl rfl U94 fct10 (k) rfl hk) <| .fieldAddrQ 0 rfl U110 rfl (s := 0) (by kernel_rfl) rfl <| .loadC0 hh (i := 102) rfl rfl U2 rfl <| .neq rfl rfl <| .move rfl .nil) fun Az Hz => ?_
  refine bc Hz 28 ?_ ?_
  · intro hb _; exact absurd hb (by simp)
  clear Hz; intro _ Hz
  refine goR hP24 [12, 13, 14, 15, 16, 17, 18, 19, 20, 21, 22, 23, 24, 25] [16, 17, 22, 23] 14 4095 67108863 Hz (m24.to ⟨il, il, il, il, il, il, il, il, il, il, trivial⟩) (.move rfl <| .move rfl <| .p (fun _ _ h_ => y_idx h_ rfl rfl U94 fct10 (k) rfl hk) <| .fieldAddrQ 1 rfl U110 rfl (s := 0) (by kernel_rfl) rfl <| .loadC1 hh (i := 104) (q := 1) rfl rfl rfl U22 rfl <| .str rfl (fun _ h_ => (h_.nums (i := 105) rfl)) U22 U5 U9 <| .move rfl <| .move rfl <| .p (fun _ _ h_ => y_idx h_ rfl rfl U94 fct10 (k) rfl hk) <| .fieldAddrQ 1 rfl U110 rfl (s := 0) (by kernel_rfl) rfl <| .loadC1 hh (i := 106) (q := 1) rfl rfl rfl U22 rfl <| .str rfl (fun _ h_ => (h_.nums (i := 107) rfl)) U22 U5 U9 <| .neqS rfl rfl <| .pickF rfl rfl .nil) fun Az Hz => ?_
  refine wpAnyE_done (by kernel_rfl) ?_ _
  refine hK4 _ _ ?_
  refine bc Hz 42 ?_ ?_
  · intro hb _; exact absurd hb (by simp)
  clear Hz; intro _ Hz
  refine wcf Hz ?_
  refine zss (hK3 _ _ ?_)
  replace Hz := Hz.oz [0, 1, 5]
  refine wp_region_lit ?_
  refine goCh Hz (.move rfl <| .inc (k + 1) <| .assign rfl .nil) fun Az Hz => ?_
  refine wpList_nil ?_
  show ∃ n', n' < _ ∧ _
  exact ⟨h.length - (k + 1), by omega, k + 1, by omega, rfl, Hz.only [0, 1, 5], m24.only [1, 2]⟩
 intro hb14 Hz; try simp only [QQ, Qax] at hb14
 revert Hz
 obtain rfl : k = h.length := by have := hb14; first | omega | (simp at this; omega)
 intro Hz
 refine wcf Hz ?_
 refine wp_exit ?_
 refine hK1 _ _ ?_
 refine regS Hz (.assign rfl .nil) fun Az Hz => ?_
 refine rt1 Hz ?_
 exact ⟨rfl, m9.only [1, 2]⟩
theorem zsame_x (X : Cx) (vo ch cn sz mk fl : Int) (H : List (List Ver)) (p1 p2 : Option Addr) (c1 c2 : Nat) (w0 : World) (hl : H.length ≤ 1000000) (hok : ∀ h ∈ H, h.length ≤ 1000000) (m0 : MemOk X w0 [(1, .dat (.slice p1 H.length c1) (.l 1 (H.map hD))), (2, .dat (.slice p2 H.length c2) (.l 1 (H.map hD)))] w0) :
   Calls Tryz.prog 16 #[.agg #[.int .i64 vo, .int .i64 ch, .int .i64 cn, .int .i64 sz, .int .i64 mk, .int .i64 fl, .slice p1 H.length c1], .agg #[.int .i64 vo, .int .i64 ch, .int .i64 cn, .int .i64 sz, .int .i64 mk, .int .i64 fl, .slice p2 H.length c2]] w0 fun e w' => e = .returned (.bool true) ∧ MemOk X w0 [(1, .dat (.slice p1 H.length c1) (.l 1 (H.map hD))), (2, .dat (.slice p2 H.length c2) (.l 1 (H.map hD)))] w' := by
 refine ent2 Tryz.func16 rfl Tryz.ntmps16 fun Az Hz => ?_
 refine zsr fun K0 hK0 => ?_
 refine plz (e_box Hz m0 20 (cs := [_, _, _, _, _, _, _]) rfl rfl rfl fun g1 Az w2 Hz m2 _ _ => ?_)
 refine plz (e_box Hz m2 21 (cs := [_, _, _, _, _, _, _]) rfl rfl rfl fun g3 Az w4 Hz m4 _ _ => ?_)
 refine gz hK0 Hz (.assign rfl .nil) fun Az Hz => ?_
 refine wsk fun K1 hK1 => ?_
 refine zsr fun K2 hK2 => ?_
 refine goCh Hz (.fa 0 rfl U39 <| .lb m4 20 U3 rfl rfl rfl <| .fa 0 rfl U39 <| .lb m4 21 U3 rfl rfl rfl <| .neq rfl rfl <| .move rfl .nil) fun Az Hz => ?_
 refine bc Hz 11 ?_ ?_
 · intro hb _; exact absurd hb (by simp)
 clear Hz; intro _ Hz
 refine goCh Hz (.faZ 1 rfl U39 <| .loadB1Z m4 (i := 20) rfl rfl rfl U3 rfl <| .faZ 1 rfl U39 <| .loadB1Z m4 (i := 21) rfl rfl rfl U3 rfl <| .neqZ rfl rfl <| .pickF rfl rfl <| .move rfl .nil) fun Az Hz => ?_
 refine bc Hz 18 ?_ ?_
 · intro hb _; exact absurd hb (by simp)
 clear Hz; intro _ Hz
 refine goCh Hz (.faZ 2 rfl U39 <| .loadB1Z m4 (i := 20) rfl rfl rfl U3 rfl <| .faZ 2 rfl U39 <| .loadB1Z m4 (i := 21) rfl rfl rfl U3 rfl <| .neqZ rfl rfl <| .pickF rfl rfl <| .move rfl .nil) fun Az Hz => ?_
 refine bc Hz 25 ?_ ?_
 · intro hb _; exact absurd hb (by simp)
 clear Hz; intro _ Hz
 refine goCh Hz (.faZ 3 rfl U39 <| .loadB1Z m4 (i := 20) rfl rfl rfl U3 rfl <| .faZ 3 rfl U39 <| .loadB1Z m4 (i := 21) rfl rfl rfl U3 rfl <| .neqZ rfl rfl <| .pickF rfl rfl <| .move rfl .nil) fun Az Hz => ?_
 refine bc Hz 32 ?_ ?_
 · intro hb _; exact absurd hb (by simp)
 clear Hz; intro _ Hz
 refine goCh Hz (.faZ 4 rfl U39 <| .loadB1Z m4 (i := 20) rfl rfl rfl U2 rfl <| .faZ 4 rfl U39 <| .loadB1Z m4 (i := 21) rfl rfl rfl U2 rfl <| .neqZ rfl rfl <| .pickF rfl rfl <| .move rfl .nil) fun Az Hz => ?_
 refine bc Hz 39 ?_ ?_
 · intro hb _; exact absurd hb (by simp)
 clear Hz; intro _ Hz
 refine goCh Hz (.faZ 5 rfl U39 <| .loadB1Z m4 (i := 20) rfl rfl rfl U2 rfl <| .faZ 5 rfl U39 <| .loadB1Z m4 (i := 21) rfl rfl rfl U2 rfl <| .neqZ rfl rfl <| .pickF rfl rfl <| .move rfl .nil) fun Az Hz => ?_
 refine bc Hz 46 ?_ ?_
 · intro hb _; exact absurd hb (by simp)
 clear Hz; intro _ Hz
 refine gz hK2 Hz (.faZ 6 rfl U39 <| .loadB1Z m4 (i := 20) rfl rfl rfl U37 rfl <| .lenZ rfl U37 <| .faZ 6 rfl U39 <| .loadB1Z m4 (i := 21) rfl rfl rfl U37 rfl <| .lenZ rfl U37 <| .neqZ rfl rfl <| .pickF rfl rfl <| .nil) fun Az Hz => ?_
 refine bc Hz 54 ?_ ?_
 · intro hb _; exact absurd hb (by simp)
 clear Hz; intro _ Hz
 refine wcf Hz ?_
 refine zss (hK1 _ _ ?_)
 refine wsk fun K3 hK3 => ?_
 replace Hz := Hz.oz [2, 3, 4]
 refine regS Hz (.assign rfl .nil) fun Az Hz => ?_
 refine wp_block ?_
 refine wp_loop_ghost (fun g a w => ∃ (k g1 g2 : Nat), k ≤ H.length ∧ g = H.length - k ∧ Has 74 [(2, .pointer (some ⟨g1, 0, none⟩)), (3, .pointer (some ⟨g2, 0, none⟩)), (5, .int .i64 k)] a ∧ MemOk X w0 [(1, .dat (.slice p1 H.length c1) (.l 1 (H.map hD))), (2, .dat (.slice p2 H.length c2) (.l 1 (H.map hD))), (10, .box g1 39 [.int .i64 vo, .int .i64 ch, .int .i64 cn, .int .i64 sz, .int .i64 mk, .int .i64 fl, .slice p1 H.length c1]), (11, .box g2 39 [.int .i64 vo, .int .i64 ch, .int .i64 cn, .int .i64 sz, .int .i64 mk, .int .i64 fl, .slice p2 H.length c2])] w) (H.length) ?_ ?_
 · exact ⟨0, _, _, Nat.zero_le _, rfl, Hz.only [2, 3, 5], m4.ren [(1, 1), (2, 2), (10, 20), (11, 21)] (by decide)⟩
 clear Hz m4
 rintro g Az w70 ⟨k, g1, g2, hkl, hg, Hz, m70⟩
 refine wsk fun K4 hK4 => ?_
 refine regS Hz (.move rfl <| .fa 6 rfl U39 <| .lb m70 10 U37 rfl rfl rfl <| .len rfl U37 <| .lss rfl rfl .nil) fun Az Hz => ?_
 refine bc Hz 59 ?_ ?_
 ·
  intro hb76 Hz; try simp only [QQ, Qax] at hb76
  have hk : k < H.length := by have := hb76; first | omega | (simp at this; omega)
  obtain ⟨h9, hes⟩ : ∃ e, H[k]? = some e := ⟨_, List.getElem?_eq_getElem hk⟩
  have hh9 := hok _ (List.mem_of_getElem? hes)
  refine wct Hz ?_
  refine zss (hK4 _ _ ?_)
  refine wsk fun K5 hK5 => ?_
  refine wp_block ?_
  refine wsk fun K6 hK6 => ?_
  obtain ⟨b77, o77, vs77, hp77, hR77, ho77, m77⟩ := m70.openR (i := 1) rfl (k) (r := [.l 2 (h9.map itD)]) (hD_get hes) 100 rfl
  revert Hz
  cases hp77; clear m70 ho77
  rcases hR77 with _ | ⟨hd77_0, _ | _⟩
  obtain ⟨p78, c78, hv78, hc78⟩ := hd77_0.l_shape; subst hv78
  intro Hz
  have m78 := m77.dat 101 rfl (hd77_0.cast (fun _ h => (free_add rfl h))); clear m77 hd77_0
  obtain ⟨b79, o79, vs79, hp79, hR79, ho79, m79⟩ := m78.openR (i := 2) rfl (k) (r := [.l 2 (h9.map itD)]) (hD_get hes) 102 rfl
  revert Hz
  cases hp79; clear m78 ho79
  rcases hR79 with _ | ⟨hd79_0, _ | _⟩
  obtain ⟨p80, c80, hv80, hc80⟩ := hd79_0.l_shape; subst hv80
  intro Hz
  have m80 := m79.dat 103 rfl (hd79_0.cast (fun _ h => (free_add rfl h))); clear m79 hd79_0
  have m81 := m80.oz [1, 2, 10, 11, 100, 101, 102, 103]
  refine region_p 12 (B := [(1, _), (2, _), (10, _), (11, _), (100, _), (101, _), (102, _), (103, _)]) (m81.to ⟨il, il, il, il, il, il, il, il, trivial⟩) m81 (by kernel_rfl) (fun w82 hP82 m82 => ?_); clear m81
  refine goR hP82 [0, 1, 2, 3, 4, 5, 6, 7, 8, 9] [1, 4, 6, 9] 10 0 1023 Hz (m82.to ⟨il, il, il, il, il, il, il, il, trivial⟩) (.fa 6 rfl U39 <| .lb hh 10 U37 rfl rfl rfl <| .move rfl <| .p (fun _ _ h_ => y_idx h_ rfl rfl U37 fct12 (k) rfl hk) <| .loadC0 hh (i := 100) rfl rfl U94 rfl <| .fa 6 rfl U39 <| .lb hh 11 U37 rfl rfl rfl <| .move rfl <| .p (fun _ _ h_ => y_idx h_ rfl rfl U37 fct12 (k) rfl hk) <| .loadC0 hh (i := 102) rfl rfl U94 rfl .nil) fun Az Hz => ?_
  refine so 10 ?_
  refine ecl Hz Tryz.func50 rfl (zsamehist_x _ h9 _ _ _ _ _ _ _ hh9 (m82.into [(1, 101), (2, 103)] (by decide) rfl)) ?_
  rintro e w93 ⟨rfl, hm93⟩
  have mx93 := m82.back hm93 [(101, 1), (103, 2)] (by decide); clear hm93 m82
  have m93 := mx93.oz [101, 103, 1, 2, 10, 11, 100, 102]
  refine ⟨_, rfl, ?_⟩; intro Az Hz
  refine ⟨m93.to ⟨il, il, il, il, il, il, il, il, trivial⟩, ?_⟩
  refine goA hP82 [11] 1 2047 4095 Hz (m93.to ⟨il, il, il, il, il, il, il, il, trivial⟩) (.not rfl .nil) fun Az Hz => ?_
  refine wpAnyE_done (by kernel_rfl) ?_ _
  refine hK6 _ _ ?_
  refine wcf Hz ?_
  refine zss (hK5 _ _ ?_)
  replace Hz := Hz.oz [2, 3, 5]
  refine wp_region_lit ?_
  refine goCh Hz (.move rfl <| .inc (k + 1) <| .assign rfl .nil) fun Az Hz => ?_
  refine wpList_nil ?_
  show ∃ n', n' < _ ∧ _
  exact ⟨H.length - (k + 1), by omega, k + 1, _, _, by omega, rfl, Hz.only [2, 3, 5], m93.ren [(1, 1), (2, 2), (10, 10), (11, 11)] (by decide)⟩
 intro hb76 Hz; try simp only [QQ, Qax] at hb76
 revert Hz
 obtain rfl : k = H.length := by have := hb76; first | omega | (simp at this; omega)
 intro Hz
 refine wcf Hz ?_
 refine wp_exit ?_
 refine hK3 _ _ ?_
 refine regS Hz (.assign rfl .nil) fun Az Hz => ?_
 refine rt1 Hz ?_
 exact ⟨rfl, m70.only [1, 2]⟩
end Go.Proofs.YteglmahnkfgelaaGreat.K
