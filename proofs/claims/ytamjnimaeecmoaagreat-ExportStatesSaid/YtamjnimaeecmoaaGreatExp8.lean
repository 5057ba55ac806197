/- export: the reference's streams one behind another: Follows, bad, merged, All. -/
import Derived.Test.YtamjnimaeecmoaaGreatExp5
import Derived.Test.YtamjnimaeecmoaaGreatExpS
namespace Go.Proofs.YtamjnimaeecmoaaGreat.K
open Go.ChangeShapes Go.WideShapes Go.ChangeAt Go.RowKit
set_option linter.unusedVariables false
set_option linter.unusedSimpArgs false
theorem fl42eme : flatS Tryz.prog 42 [.int .i64 0, .int .i64 0, .int .i64 0, .int .i64 0, .slice none 0 0] = true := by kernel_rfl
theorem merge_same {y : VolV} {n i : Nat} {L : List (Int × Nat)} {z x : Int × Nat} {P : Nat → Bool} (hch : ChS y L) (hS : VolS n y) (hn : n ≤ 1000) (hz : L[i - 1]? = some z) (hx : L[i]? = some x) (hP : 0 ≤ x.1 → P = chgB y x.1 (x.2 : Int)) : ∀ b, b < y.bl.toNat → P b = false → (stL y.bl y.sz y.ws z.2).getD b [] = (stL y.bl y.sz y.ws x.2).getD b [] := by
 intro b hb hPb
 have hF := hS.f hn
 have hf0 := hF.fl0
 obtain ⟨⟨a1, a2⟩, a3, a4, a5, a6⟩ := hch _ _ hx
 obtain ⟨⟨c1, c2⟩, -⟩ := hch _ _ hz
 rcases Nat.eq_zero_or_pos i with h | h
 · subst h
   rw [hx] at hz
   obtain rfl := Option.some.inj hz
   rfl
 have h1 := a6 (i - 1) z (by omega) hz
 refine same_at hS hn hb c1 (by omega) a2 ?_
 rw [← h1, ← hP (by omega)]
 exact hPb
theorem eright_c (bl sz fr to : Int) (its : List (Int × List Int)) (pi : Option Addr) (ni ci : Nat) (w0 : World) (h1 : Rd (fun _ => True) w0 (.slice pi ni ci) (.l 2 (its.map itD))) (hs : StreamOk bl sz fr to its) :
   Calls Tryz.prog 26 #[.agg #[.int .i64 bl, .int .i64 sz, .int .i64 fr, .int .i64 to, .slice pi ni ci]] w0 fun e w' => e = .returned (.bool true) ∧ Below w0.heap.size w0 w' := by
 by_cases h : fr = -1
 · exact r21right_yes bl sz fr to its pi ni ci w0 h1 hs h
 exact r21right_ge bl sz fr to its pi ni ci w0 h1 hs (by have := hs.f; omega)
set_option maxRecDepth 100000
set_option maxHeartbeats 4000000
theorem efollows_x (X : Cx) (bl sz fa ta fb tb : Int) (A B : List (Int × List Int)) (pa pb : Option Addr) (na ca nb cb : Nat) (w0 : World) (h1 : StreamOk bl sz fa ta A) (h2 : StreamOk bl sz fb tb B) (hfr : fb = ta) (m0 : MemOk X w0 [(1, .dat (.slice pa na ca) (.l 2 (A.map itD))), (2, .dat (.slice pb nb cb) (.l 2 (B.map itD)))] w0) :
   Calls Tryz.prog 78 #[.agg #[.int .i64 bl, .int .i64 sz, .int .i64 fa, .int .i64 ta, .slice pa na ca], .agg #[.int .i64 bl, .int .i64 sz, .int .i64 fb, .int .i64 tb, .slice pb nb cb]] w0 fun e w' => e = .returned (.bool true) ∧ MemOk X w0 [(1, .dat (.slice pa na ca) (.l 2 (A.map itD))), (2, .dat (.slice pb nb cb) (.l 2 (B.map itD)))] w' := by
 refine ent2 Tryz.func78 rfl Tryz.ntmps78 fun Az Hz => ?_
 refine zsr fun K0 hK0 => ?_
 refine plz (e_box Hz m0 40 (cs := [_, _, _, _, _]) rfl rfl rfl fun g1 Az w2 Hz m2 _ _ => ?_)
 refine plz (e_box Hz m2 41 (cs := [_, _, _, _, _]) rfl rfl rfl fun g3 Az w4 Hz m4 _ _ => ?_)
 refine gz hK0 Hz (.assign rfl .nil) fun Az Hz => ?_
 refine zsr fun K1 hK1 => ?_
 refine goCh Hz (.loadBR m4 (i := 40) rfl rfl U42 rfl fct37 (by simp) (by dsimp only [List.drop, List.take] <;> rfl) .nil) fun Az Hz => ?_
 refine plz (ecb Hz Tryz.func26 rfl m4 (eright_c _ _ _ _ _ _ _ _ _ ((m4.rd (i := 1) rfl).any) h1) fun Az w8 Hz m9 => ?_)
 refine goCh Hz (.move rfl <| .loadBRZ m9 (i := 41) rfl rfl U42 rfl fct37 (by simp) (by dsimp only [List.drop, List.take] <;> rfl) .nil) fun Az Hz => ?_
 refine stz Hz (ecb Hz Tryz.func26 rfl m9 (eright_c _ _ _ _ _ _ _ _ _ ((m9.rd (i := 2) rfl).any) h2) fun Az w13 Hz m14 => ?_)
 refine goCh Hz (.pickT rfl rfl <| .move rfl <| .faZ 0 rfl U42 <| .loadB1Z m14 (i := 40) rfl rfl rfl U3 rfl <| .faZ 0 rfl U42 <| .loadB1Z m14 (i := 41) rfl rfl rfl U3 rfl <| .eqlZ rfl rfl <| .pickT rfl rfl <| .move rfl .nil) fun Az Hz => ?_
 refine bc Hz 18 ?_ ?_
 rotate_left
 · intro hb _; exact absurd hb (by first | (simp; done) | (simp; omega))
 clear Hz; intro _ Hz
 refine goCh Hz (.faZ 1 rfl U42 <| .loadB1Z m14 (i := 40) rfl rfl rfl U3 rfl <| .faZ 1 rfl U42 <| .loadB1Z m14 (i := 41) rfl rfl rfl U3 rfl <| .eqlZ rfl rfl <| .pickT rfl rfl <| .move rfl .nil) fun Az Hz => ?_
 refine bc Hz 25 ?_ ?_
 rotate_left
 · intro hb _; exact absurd hb (by first | (simp; done) | (simp; omega))
 clear Hz; intro _ Hz
 refine gz hK1 Hz (.faZ 2 rfl U42 <| .loadB1Z m14 (i := 41) rfl rfl rfl U2 rfl <| .faZ 3 rfl U42 <| .loadB1Z m14 (i := 40) rfl rfl rfl U2 rfl <| .eqlZ rfl rfl <| .pickT rfl rfl <| .assign rfl <| .nil) fun Az Hz => ?_
 refine rt1 Hz ?_
 exact ⟨by (first | rfl | (simp [hfr]; done)), m14.only [1, 2]⟩
theorem ebad_x (X : Cx) (y : VolV) (n : Nat) (hS : VolS n y) (hn : n ≤ 1000) (L : List (Int × Nat)) (pl : Option Addr) (nl cl : Nat) (w0 : World) (hch : ChS y L) (hl0 : 0 < L.length) (hLl : L.length ≤ 1000) (m0 : MemOk X w0 [(1, .dat (.slice pl nl cl) (.l 5 (L.map (stR y))))] w0) :
   Calls Tryz.prog 49 #[.slice pl nl cl] w0 fun e w' => e = .returned (.int .i64 (-1)) ∧ MemOk X w0 [(1, .dat (.slice pl nl cl) (.l 5 (L.map (stR y))))] w' := by
 refine ent1 Tryz.func49 rfl Tryz.ntmps49 fun Az Hz => ?_
 revert Hz
 obtain rfl : nl = L.length := nnOf (m0.rd (i := 1) rfl)
 intro Hz
 obtain ⟨x0, hes0⟩ : ∃ x, L[0]? = some x := ⟨_, List.getElem?_eq_getElem hl0⟩
 have hx0 := (hch _ _ hes0).2.2.2.1 rfl
 refine regS Hz (.assign rfl .nil) fun Az Hz => ?_
 refine wsk fun K0 hK0 => ?_
 refine zsr fun K1 hK1 => ?_
 refine goCh Hz (.move rfl <| .len rfl U55 <| .eql rfl rfl <| .move rfl .nil) fun Az Hz => ?_
 refine bc Hz 7 ?_ ?_
 · intro hb _; exact absurd hb (by intro h; have h9 := of_decide_eq_true h; omega)
 clear Hz; intro _ Hz
 refine goCh Hz (.moveZ rfl .nil) fun Az Hz => ?_
 obtain ⟨b12, o12, vs12, hp12, hR12, ho12, m12⟩ := m0.openR (i := 1) rfl (0) (r := [.v (.int .i64 y.bl), .v (.int .i64 y.sz), .v (.int .i64 x0.1), .v (.int .i64 (x0.2 : Int)), .l 2 ((stI y x0).map itD)]) (stR_get hes0) 40 rfl
 revert Hz
 cases hp12; clear m0 ho12
 rcases hR12 with _ | ⟨hd12_0, _ | ⟨hd12_1, _ | ⟨hd12_2, _ | ⟨hd12_3, _ | ⟨hd12_4, _ | _⟩⟩⟩⟩⟩
 obtain rfl := hd12_0.v_out
 clear hd12_0
 obtain rfl := hd12_1.v_out
 clear hd12_1
 obtain rfl := hd12_2.v_out
 clear hd12_2
 obtain rfl := hd12_3.v_out
 clear hd12_3
 obtain ⟨p13, c13, hv13, hc13⟩ := hd12_4.l_shape; subst hv13
 intro Hz
 have m13 := m12.dat 41 rfl (hd12_4.cast (fun _ h => (free_add rfl h))); clear m12 hd12_4
 refine goCh Hz (.g rfl rfl rfl rfl (fun _ h_ => y_idx h_ rfl rfl U55 fct37 (0) rfl hl0) <| .loadCRZ m13 (i := 40) rfl rfl U42 rfl fct37 .nil) fun Az Hz => ?_
 refine stz Hz (ecb Hz Tryz.func26 rfl m13 (eright_c _ _ _ _ _ _ _ _ _ ((m13.rd (i := 41) rfl).any) (hch.ok hS hn hes0)) fun Az w16 Hz m17 => ?_)
 refine goCh Hz (.notZ rfl <| .pickF rfl rfl <| .move rfl <| .moveZ rfl .nil) fun Az Hz => ?_
 obtain ⟨b23, o23, vs23, hp23, hR23, ho23, m23⟩ := m17.openR (i := 1) rfl (0) (r := [.v (.int .i64 y.bl), .v (.int .i64 y.sz), .v (.int .i64 x0.1), .v (.int .i64 (x0.2 : Int)), .l 2 ((stI y x0).map itD)]) (stR_get hes0) 42 rfl
 revert Hz
 cases hp23; clear m17 ho23
 rcases hR23 with _ | ⟨hd23_0, _ | ⟨hd23_1, _ | ⟨hd23_2, _ | ⟨hd23_3, _ | ⟨hd23_4, _ | _⟩⟩⟩⟩⟩
 obtain rfl := hd23_0.v_out
 clear hd23_0
 obtain rfl := hd23_1.v_out
 clear hd23_1
 obtain rfl := hd23_2.v_out
 clear hd23_2
 obtain rfl := hd23_3.v_out
 clear hd23_3
 obtain ⟨p24, c24, hv24, hc24⟩ := hd23_4.l_shape; subst hv24
 intro Hz
 have m24 := m23.dat 43 rfl (hd23_4.cast (fun _ h => (free_add rfl h))); clear m23 hd23_4
 refine gz hK1 Hz (.g rfl rfl rfl rfl (fun _ h_ => y_idx h_ rfl rfl U55 fct37 (0) rfl hl0) <| .fieldAddrQZ 2 rfl U42 rfl (s := 0) (by kernel_rfl) rfl <| .loadC1Z m24 (i := 42) (q := 2) rfl rfl rfl U2 rfl <| .geqZ rfl rfl <| .pickF rfl rfl <| .nil) fun Az Hz => ?_
 refine bc Hz 20 ?_ ?_
 · intro hb _; exact absurd hb (by simp; omega)
 clear Hz; intro _ Hz
 refine wcf Hz ?_
 refine zss (hK0 _ _ ?_)
 refine wsk fun K2 hK2 => ?_
 replace Hz := Hz.oz [0, 2]
 refine regS Hz (.assign rfl .nil) fun Az Hz => ?_
 refine wp_block ?_
 refine wp_loop_ghost (fun g a w => ∃ (i : Nat), (1 ≤ i ∧ i ≤ L.length) ∧ g = L.length - i ∧ Has 39 [(0, .slice (some ⟨b12, o12, none⟩) L.length cl), (3, .int .i64 (i : Int))] a ∧ MemOk X w0 [(1, .dat (.slice (some ⟨b12, o12, none⟩) L.length cl) (.l 5 (L.map (stR y))))] w) (L.length - 1) ?_ ?_
 · exact ⟨1, by omega, rfl, Hz.only [0, 3], m24.only [1]⟩
 clear Hz m24
 rintro g Az w33 ⟨i, hil, hg, Hz, m33⟩
 refine wsk fun K3 hK3 => ?_
 refine regS Hz (.move rfl <| .move rfl <| .len rfl U55 <| .lss rfl rfl .nil) fun Az Hz => ?_
 refine bc Hz 24 ?_ ?_
 ·
  intro hb38 Hz; try simp only [QQ, Qax] at hb38
  have hi : i < L.length := by have := hb38; first | omega | (simp at this; omega) | (simp at this; exact this)
  obtain ⟨xa, hesa⟩ : ∃ x, L[i - 1]? = some x := ⟨_, List.getElem?_eq_getElem (by omega)⟩
  obtain ⟨xb, hesb⟩ : ∃ x, L[i]? = some x := ⟨_, List.getElem?_eq_getElem hi⟩
  refine wct Hz ?_
  refine zss (hK3 _ _ ?_)
  refine wsk fun K4 hK4 => ?_
  refine wp_block ?_
  refine wsk fun K5 hK5 => ?_
  obtain ⟨b39, o39, vs39, hp39, hR39, ho39, m39⟩ := m33.openR (i := 1) rfl (i - 1) (r := [.v (.int .i64 y.bl), .v (.int .i64 y.sz), .v (.int .i64 xa.1), .v (.int .i64 (xa.2 : Int)), .l 2 ((stI y xa).map itD)]) (stR_get hesa) 100 rfl
  revert Hz
  cases hp39; clear m33 ho39
  rcases hR39 with _ | ⟨hd39_0, _ | ⟨hd39_1, _ | ⟨hd39_2, _ | ⟨hd39_3, _ | ⟨hd39_4, _ | _⟩⟩⟩⟩⟩
  obtain rfl := hd39_0.v_out
  clear hd39_0
  obtain rfl := hd39_1.v_out
  clear hd39_1
  obtain rfl := hd39_2.v_out
  clear hd39_2
  obtain rfl := hd39_3.v_out
  clear hd39_3
  obtain ⟨p40, c40, hv40, hc40⟩ := hd39_4.l_shape; subst hv40
  intro Hz
  have m40 := m39.dat 101 rfl (hd39_4.cast (fun _ h => (free_add rfl h))); clear m39 hd39_4
  obtain ⟨b41, o41, vs41, hp41, hR41, ho41, m41⟩ := m40.openR (i := 1) rfl (i) (r := [.v (.int .i64 y.bl), .v (.int .i64 y.sz), .v (.int .i64 xb.1), .v (.int .i64 (xb.2 : Int)), .l 2 ((stI y xb).map itD)]) (stR_get hesb) 102 rfl
  revert Hz
  cases hp41; clear m40 ho41
  rcases hR41 with _ | ⟨hd41_0, _ | ⟨hd41_1, _ | ⟨hd41_2, _ | ⟨hd41_3, _ | ⟨hd41_4, _ | _⟩⟩⟩⟩⟩
  obtain rfl := hd41_0.v_out
  clear hd41_0
  obtain rfl := hd41_1.v_out
  clear hd41_1
  obtain rfl := hd41_2.v_out
  clear hd41_2
  obtain rfl := hd41_3.v_out
  clear hd41_3
  obtain ⟨p42, c42, hv42, hc42⟩ := hd41_4.l_shape; subst hv42
  intro Hz
  have m42 := m41.dat 103 rfl (hd41_4.cast (fun _ h => (free_add rfl h))); clear m41 hd41_4
  have m43 := m42.oz [1, 100, 101, 102, 103]
  refine region_p 9 (B := [(1, _), (100, _), (101, _), (102, _), (103, _)]) (m43.to ⟨il, il, il, il, il, trivial⟩) m43 (by kernel_rfl) (fun w44 hP44 m44 => ?_); clear m43
  refine goR hP44 [0, 1, 2, 3, 4, 5, 6, 7, 8] [4, 8] 9 0 511 Hz (m44.to ⟨il, il, il, il, il, trivial⟩) (.move rfl <| .move rfl <| .sub rfl rfl (r := ((i - 1 : Nat) : Int)) (by rw [IntWalk.i64_in _ (by omega)]; omega) <| .p (fun _ _ h_ => y_idx h_ rfl rfl U55 fct37 (i - 1) rfl (by omega)) <| .loadCR hh (i := 100) rfl rfl U42 rfl fct37 <| .move rfl <| .move rfl <| .p (fun _ _ h_ => y_idx h_ rfl rfl U55 fct37 (i) rfl hi) <| .loadCR hh (i := 102) rfl rfl U42 rfl fct37 .nil) fun Az Hz => ?_
  refine se 9 ?_
  refine ecl Hz Tryz.func78 rfl (efollows_x _ _ _ _ _ _ _ _ _ _ _ _ _ _ _ _ (hch.ok hS hn hesa) (hch.ok hS hn hesb) ((hch _ _ hesb).2.2.2.2 _ _ (by omega) hesa) (m44.into [(1, 101), (2, 103)] (by decide) rfl)) ?_
  rintro e w54 ⟨rfl, hm54⟩
  have mx54 := m44.back hm54 [(101, 1), (103, 2)] (by decide); clear hm54 m44
  have m54 := mx54.oz [101, 103, 1, 100, 102]
  refine ⟨_, rfl, ?_⟩; intro Az Hz
  refine goB hP44 [10] 1 1023 2047 Hz (.not rfl .nil) fun Az Hz => ?_
  refine wpAnyE_done (by kernel_rfl) ?_ _
  refine hK5 _ _ ?_
  refine wcf Hz ?_
  refine zss (hK4 _ _ ?_)
  replace Hz := Hz.oz [0, 3]
  refine wp_region_lit ?_
  refine goCh Hz (.move rfl <| .inc (i + 1) <| .assign rfl .nil) fun Az Hz => ?_
  refine wpList_nil ?_
  show ∃ n', n' < _ ∧ _
  exact ⟨L.length - (i + 1), by omega, i + 1, by omega, rfl, Hz.only [0, 3], m54.only [1]⟩
 intro hb38 Hz; try simp only [QQ, Qax] at hb38
 refine wcf Hz ?_
 refine wp_exit ?_
 refine hK2 _ _ ?_
 refine regS Hz (.assign rfl .nil) fun Az Hz => ?_
 refine rt1 Hz ?_
 exact ⟨rfl, m33.ren [(1, 1)] (by decide)⟩
theorem emerged_x (X : Cx) (bl sz fa ta bl2 sz2 fb tb : Int) (S1 S2 : List (List Int)) (P : Nat → Bool) (N : Nat) (pa pb : Option Addr) (na ca nb9 cb : Nat) (w0 : World) (hN : N ≤ 1000000) (hsame : ∀ b, b < N → P b = false → S1.getD b [] = S2.getD b []) (m0 : MemOk X w0 [(3, .dat (.slice pa na ca) (.l 2 ((wholeI S1 N).map itD))), (4, .dat (.slice pb nb9 cb) (.l 2 ((selI S2 P N).map itD)))] w0) :
   Calls Tryz.prog 50 #[.agg #[.int .i64 bl, .int .i64 sz, .int .i64 fa, .int .i64 ta, .slice pa na ca], .agg #[.int .i64 bl2, .int .i64 sz2, .int .i64 fb, .int .i64 tb, .slice pb nb9 cb]] w0 fun e w' => ∃ (p9 : Option Addr) (c9 : Nat), e = .returned (.agg #[.int .i64 bl, .int .i64 sz, .int .i64 fa, .int .i64 tb, .slice p9 ((wholeI S2 N).map itD).length c9]) ∧ MemOk X w0 [(9, .dat (.slice p9 ((wholeI S2 N).map itD).length c9) (.l 2 ((wholeI S2 N).map itD)))] w' := by
 refine ent2 Tryz.func50 rfl Tryz.ntmps50 fun Az Hz => ?_
 obtain rfl : N = na := by have h9 := nnOf (m0.rd (i := 3) rfl); rw [wholeI_len] at h9; exact h9.symm
 revert Hz
 obtain rfl : (selI S2 P N).length = nb9 := (nnOf (m0.rd (i := 4) rfl)).symm
 intro Hz
 refine zsr fun K0 hK0 => ?_
 refine plz (e_box Hz m0 70 (cs := [_, _, _, _, _]) rfl rfl rfl fun g1 Az w2 Hz m2 _ _ => ?_)
 refine plz (e_box Hz m2 71 (cs := [_, _, _, _, _]) rfl rfl rfl fun g3 Az w4 Hz m4 _ _ => ?_)
 refine plz (e_alloc Hz m4 72 fct38 rfl fun g5 Az w6 Hz m6 _ _ => ?_)
 refine znl (hK0 _ _ ?_)
 refine zsr fun K1 hK1 => ?_
 refine goCh Hz (.fa 0 rfl U42 <| .lb m6 70 U3 rfl rfl rfl <| .fa 1 rfl U42 <| .lb m6 70 U3 rfl rfl rfl <| .fa 2 rfl U42 <| .lb m6 70 U2 rfl rfl rfl <| .fa 3 rfl U42 <| .lb m6 71 U2 rfl rfl rfl <| .build rfl fct38 fl42eme rfl (by dsimp only [setL, List.set] <;> rfl) .nil) fun Az Hz => ?_
 refine plz (e_alloc Hz m6 73 fct38 rfl fun g25 Az w26 Hz m26 _ _ => ?_)
 refine plz (stw Hz m26 73 fct37 fun w27 m27 _ => ?_)
 refine znl (hK1 _ _ ?_)
 replace Hz := Hz.oz [2, 3, 4, 5]
 refine regS Hz (.assign rfl <| .assign rfl .nil) fun Az Hz => ?_
 refine wsk fun K2 hK2 => ?_
 refine wp_block ?_
 refine wp_loop_ghost (fun g a w => ∃ (b B2 B3 B4 B5 : Nat) (pa pb p9 : Option Addr) (c9 : Nat), b ≤ N ∧ g = N - b ∧ Has 104 [(2, .pointer (some ⟨B2, 0, none⟩)), (3, .pointer (some ⟨B3, 0, none⟩)), (4, .pointer (some ⟨B4, 0, none⟩)), (5, .pointer (some ⟨B5, 0, none⟩)), (6, .int .i64 (b : Int)), (7, .int .i64 ((selI S2 P b).length : Int))] a ∧ MemOk X w0 [(3, .dat (.slice pa N ca) (.l 2 ((wholeI S1 N).map itD))), (4, .dat (.slice pb (selI S2 P N).length cb) (.l 2 ((selI S2 P N).map itD))), (20, .box B2 42 [.int .i64 bl, .int .i64 sz, .int .i64 fa, .int .i64 ta, .slice pa N ca]), (21, .box B3 42 [.int .i64 bl2, .int .i64 sz2, .int .i64 fb, .int .i64 tb, .slice pb (selI S2 P N).length cb]), (22, .box B4 42 [.int .i64 0, .int .i64 0, .int .i64 0, .int .i64 0, .slice none 0 0]), (23, .box B5 42 [.int .i64 bl, .int .i64 sz, .int .i64 fa, .int .i64 tb, .slice p9 ((wholeI S2 b).map itD).length c9]), (24, .row (.slice p9 ((wholeI S2 b).map itD).length c9) 111 2 ((wholeI S2 b).map itD))] w) (N) ?_ ?_
 · have mz := m27.nilR 24 111 2
   exact ⟨0, _, _, _, _, _, _, _, _, Nat.zero_le _, rfl, Hz.only [2, 3, 4, 5, 6, 7], mz.ren [(3, 3), (4, 4), (20, 70), (21, 71), (22, 72), (23, 73), (24, 24)] (by decide)⟩
 clear Hz m27
 rintro g Az w31 ⟨b, B2, B3, B4, B5, pa, pb, p9, c9, hbl, hg, Hz, m31⟩
 refine wsk fun K3 hK3 => ?_
 refine zsr fun K4 hK4 => ?_
 refine goCh Hz (.move rfl <| .fa 4 rfl U42 <| .lb m31 20 U40 rfl rfl rfl <| .len rfl U40 <| .lss rfl rfl <| .move rfl .nil) fun Az Hz => ?_
 refine bc Hz 22 ?_ ?_
 ·
  intro hb44 Hz; try simp only [QQ, Qax] at hb44
  have hbN : b < N := by have := hb44; first | omega | (simp at this; omega) | (simp at this; exact this)
  refine gz hK4 Hz (.sk <| .sk <| .sk <| .sk <| .sk <| .pickT rfl rfl <| .nil) fun Az Hz => ?_
  refine wct Hz ?_
  refine zss (hK3 _ _ ?_)
  refine wp_block ?_
  refine wp_block ?_
  refine wsk fun K5 hK5 => ?_
  rcases sel_at (S := S2) (P := P) hbN with ⟨hP, hk, hes, hk1⟩ | ⟨hP, hk, ⟨q, d, hes, hq⟩, hk1⟩ | ⟨hP, hk, hk1⟩
  ·
   replace Hz := Hz.oz [2, 3, 4, 5, 6, 7]
   obtain ⟨b52, o52, vs52, hp52, hR52, ho52, m52⟩ := m31.openR (i := 3) rfl (b) (r := [.v (.int .i64 (b : Int)), .ns .u8 (S1.getD b [])]) (itD_get (wholeI_get hbN)) 100 rfl
   revert Hz
   cases hp52; clear m31 ho52
   rcases hR52 with _ | ⟨hd52_0, _ | ⟨hd52_1, _ | _⟩⟩
   obtain rfl := hd52_0.v_out
   clear hd52_0
   obtain ⟨p53, c53, hv53, hc53⟩ := hd52_1.ns_shape; subst hv53
   intro Hz
   have m53 := m52.dat 101 rfl (hd52_1.cast (fun _ h => (free_add rfl h))); clear m52 hd52_1
   obtain ⟨b54, o54, vs54, hp54, hR54, ho54, m54⟩ := m53.openR (i := 4) rfl ((selI S2 P b).length) (r := [.v (.int .i64 (b : Int)), .ns .u8 (S2.getD b [])]) (itD_get hes) 102 rfl
   revert Hz
   cases hp54; clear m53 ho54
   rcases hR54 with _ | ⟨hd54_0, _ | ⟨hd54_1, _ | _⟩⟩
   obtain rfl := hd54_0.v_out
   clear hd54_0
   obtain ⟨p55, c55, hv55, hc55⟩ := hd54_1.ns_shape; subst hv55
   intro Hz
   have m55 := m54.dat 103 rfl (hd54_1.cast (fun _ h => (free_add rfl h))); clear m54 hd54_1
   have m56 := m55.oz [3, 4, 20, 21, 22, 23, 24, 100, 101, 102, 103]
   refine region_p 28 (B := [(3, _), (4, _), (20, _), (21, _), (22, _), (23, _), (24, _), (100, _), (101, _), (102, _), (103, _)]) (m56.to ⟨il, il, il, il, il, il, il, il, il, il, il, trivial⟩) m56 (by kernel_rfl) (fun w57 hP57 m57 => ?_); clear m56
   refine goR hP57 [0, 1, 2, 3, 4, 5] [2] 6 0 63 Hz (m57.to ⟨il, il, il, il, il, il, il, il, il, il, il, trivial⟩) (.move rfl <| .fa 4 rfl U42 <| .lb hh 21 U40 rfl rfl rfl <| .len rfl U40 <| .geq rfl rfl <| .move rfl .nil) fun Az Hz => ?_
   refine bc Hz 69 ?_ ?_
   · intro hb _; exact absurd hb (by first | (simp; done) | (simp; omega))
   clear Hz; intro _ Hz
   refine goR hP57 [6, 7, 8, 9, 10, 11] [8] 6 63 4095 Hz (m57.to ⟨il, il, il, il, il, il, il, il, il, il, il, trivial⟩) (.move rfl <| .fa 4 rfl U42 <| .lb hh 20 U40 rfl rfl rfl <| .len rfl U40 <| .lss rfl rfl <| .move rfl .nil) fun Az Hz => ?_
   refine bc Hz 75 ?_ ?_
   rotate_left
   · intro hb _; exact absurd hb (by simp; omega)
   clear Hz; intro _ Hz
   refine goR hP57 [12, 13, 14, 15, 16, 17, 18, 19, 20, 21, 22, 23, 24, 25, 26, 27] [13, 17, 19, 23] 16 4095 268435455 Hz (m57.to ⟨il, il, il, il, il, il, il, il, il, il, il, trivial⟩) (.fa 4 rfl U42 <| .lb hh 20 U40 rfl rfl rfl <| .move rfl <| .p (fun _ _ h_ => y_idx h_ rfl rfl U40 fct16 (b) rfl hbN) <| .fieldAddrQ 0 rfl U111 rfl (s := 0) (by kernel_rfl) rfl <| .loadC0 hh (i := 100) rfl rfl U3 rfl <| .fa 4 rfl U42 <| .lb hh 21 U40 rfl rfl rfl <| .move rfl <| .p (fun _ _ h_ => y_idx h_ rfl rfl U40 fct16 ((selI S2 P b).length) rfl hk) <| .fieldAddrQ 0 rfl U111 rfl (s := 0) (by kernel_rfl) rfl <| .loadC0 hh (i := 102) rfl rfl U3 rfl <| .lss rfl rfl <| .pickT rfl rfl <| .pickF rfl rfl <| .assign rfl .nil) fun Az Hz => ?_
   refine wpAnyE_done (by kernel_rfl) ?_ _
   refine hK5 _ _ ?_
   refine bc Hz 63 ?_ ?_
   · intro hb _; exact absurd hb (by first | (simp; done) | (simp; omega))
   clear Hz; intro _ Hz
   refine wcf Hz ?_
   refine wsk fun K6 hK6 => ?_
   refine wsk fun K7 hK7 => ?_
   replace Hz := Hz.oz [2, 3, 4, 5, 6, 7]
   obtain ⟨b90, o90, vs90, hp90, hR90, ho90, m90⟩ := m57.openR (i := 3) rfl (b) (r := [.v (.int .i64 (b : Int)), .ns .u8 (S1.getD b [])]) (itD_get (wholeI_get hbN)) 104 rfl
   revert Hz
   cases hp90; clear m57 ho90
   rcases hR90 with _ | ⟨hd90_0, _ | ⟨hd90_1, _ | _⟩⟩
   obtain rfl := hd90_0.v_out
   clear hd90_0
   obtain ⟨p91, c91, hv91, hc91⟩ := hd90_1.ns_shape; subst hv91
   intro Hz
   have m91 := m90.dat 105 rfl (hd90_1.cast (fun _ h => (free_add rfl h))); clear m90 hd90_1
   obtain ⟨b92, o92, vs92, hp92, hR92, ho92, m92⟩ := m91.openR (i := 4) rfl ((selI S2 P b).length) (r := [.v (.int .i64 (b : Int)), .ns .u8 (S2.getD b [])]) (itD_get hes) 106 rfl
   revert Hz
   cases hp92; clear m91 ho92
   rcases hR92 with _ | ⟨hd92_0, _ | ⟨hd92_1, _ | _⟩⟩
   obtain rfl := hd92_0.v_out
   clear hd92_0
   obtain ⟨p93, c93, hv93, hc93⟩ := hd92_1.ns_shape; subst hv93
   intro Hz
   have m93 := m92.dat 107 rfl (hd92_1.cast (fun _ h => (free_add rfl h))); clear m92 hd92_1
   have m94 := m93.oz [3, 4, 20, 21, 22, 23, 24, 100, 101, 102, 103, 104, 105, 106, 107]
   refine region_p 20 (B := [(3, _), (4, _), (20, _), (21, _), (22, _), (23, _), (24, _), (100, _), (101, _), (102, _), (103, _), (104, _), (105, _), (106, _), (107, _)]) (m94.to ⟨il, il, il, il, il, il, il, il, il, il, il, il, il, il, il, trivial⟩) m94 (by kernel_rfl) (fun w95 hP95 m95 => ?_); clear m94
   refine goR hP95 [0, 1, 2, 3, 4, 5] [2] 6 0 63 Hz (m95.to ⟨il, il, il, il, il, il, il, il, il, il, il, il, il, il, il, trivial⟩) (.move rfl <| .fa 4 rfl U42 <| .lb hh 20 U40 rfl rfl rfl <| .len rfl U40 <| .lss rfl rfl <| .move rfl .nil) fun Az Hz => ?_
   refine bc Hz 34 ?_ ?_
   rotate_left
   · intro hb _; exact absurd hb (by simp; omega)
   clear Hz; intro _ Hz
   refine goR hP95 [6, 7, 8, 9, 10, 11, 12, 13, 14, 15, 16, 17, 18, 19] [7, 11, 13, 17] 14 63 1048575 Hz (m95.to ⟨il, il, il, il, il, il, il, il, il, il, il, il, il, il, il, trivial⟩) (.fa 4 rfl U42 <| .lb hh 20 U40 rfl rfl rfl <| .move rfl <| .p (fun _ _ h_ => y_idx h_ rfl rfl U40 fct16 (b) rfl hbN) <| .fieldAddrQ 0 rfl U111 rfl (s := 0) (by kernel_rfl) rfl <| .loadC0 hh (i := 104) rfl rfl U3 rfl <| .fa 4 rfl U42 <| .lb hh 21 U40 rfl rfl rfl <| .move rfl <| .p (fun _ _ h_ => y_idx h_ rfl rfl U40 fct16 ((selI S2 P b).length) rfl hk) <| .fieldAddrQ 0 rfl U111 rfl (s := 0) (by kernel_rfl) rfl <| .loadC0 hh (i := 106) rfl rfl U3 rfl <| .eql rfl rfl <| .pickT rfl rfl .nil) fun Az Hz => ?_
   refine wpAnyE_done (by kernel_rfl) ?_ _
   refine hK7 _ _ ?_
   refine bc Hz 48 ?_ ?_
   rotate_left
   · intro hb _; exact absurd hb (by simp)
   clear Hz; intro _ Hz
   refine wct Hz ?_
   replace Hz := Hz.oz [2, 3, 4, 5, 6, 7, 42]
   refine wp_region_lit ?_
   refine gz hK6 Hz (.move rfl <| .add rfl rfl (r := ((b + 1 : Nat) : Int)) (by rw [IntWalk.i64_in _ (by omega)]; omega) <| .assign rfl <| .nil) fun Az Hz => ?_
   refine wsk fun K8 hK8 => ?_
   obtain ⟨b122, o122, vs122, hp122, hR122, ho122, m122⟩ := m95.openR (i := 4) rfl ((selI S2 P b).length) (r := [.v (.int .i64 (b : Int)), .ns .u8 (S2.getD b [])]) (itD_get hes) 108 rfl
   revert Hz
   cases hp122; clear m95 ho122
   rcases hR122 with _ | ⟨hd122_0, _ | ⟨hd122_1, _ | _⟩⟩
   obtain rfl := hd122_0.v_out
   clear hd122_0
   obtain ⟨p123, c123, hv123, hc123⟩ := hd122_1.ns_shape; subst hv123
   intro Hz
   have m123 := m122.dat 109 rfl (hd122_1.cast (fun _ h => (free_add rfl h))); clear m122 hd122_1
   have m124 := m123.oz [3, 4, 20, 21, 22, 23, 24, 100, 101, 102, 103, 104, 105, 106, 107, 108, 109]
   refine region_p 8 (B := [(3, _), (4, _), (20, _), (21, _), (22, _), (23, _), (24, _), (100, _), (101, _), (102, _), (103, _), (104, _), (105, _), (106, _), (107, _), (108, _), (109, _)]) (m124.to ⟨il, il, il, il, il, il, il, il, il, il, il, il, il, il, il, il, il, trivial⟩) m124 (by kernel_rfl) (fun w125 hP125 m125 => ?_); clear m124
   refine goR hP125 [0, 1, 2, 3, 4, 5, 6] [1, 3, 6] 7 0 127 Hz (m125.to ⟨il, il, il, il, il, il, il, il, il, il, il, il, il, il, il, il, il, trivial⟩) (.fa 4 rfl U42 <| .lb hh 23 U40 rfl rfl rfl <| .fa 4 rfl U42 <| .lb hh 21 U40 rfl rfl rfl <| .move rfl <| .p (fun _ _ h_ => y_idx h_ rfl rfl U40 fct16 ((selI S2 P b).length) rfl hk) <| .loadCR hh (i := 108) rfl rfl U111 rfl fct16 .nil) fun Az Hz => ?_
   refine so 7 ?_
   refine e_litR Hz m125 110 (mm := 2) rfl (.cons rfl rfl (.cons (.v _) (.cons (m125.rd (i := 109) rfl) .nil)) .nil) U40 fct24 rfl rfl rfl rfl rfl fun g133 Az w134 Hz m134 => ?_
   refine ⟨m134.to ⟨il, il, il, il, il, il, il, il, il, il, il, il, il, il, il, il, il, trivial⟩, ?_⟩
   have m136 := m134.freezeR 110 rfl
   refine se 8 ?_
   refine e_appR Hz m136 24 rfl rfl rfl (m136.rd (i := 110) rfl) U40 fct24 rfl rfl (by decide) (by simp [wholeI_len]; omega) rfl fun p135 c135 Az w137 Hz m137 => ?_
   refine goB hP125 [9] 1 511 1023 Hz (.fa 4 rfl U42 .nil) fun Az Hz => ?_
   refine se 10 ?_
   refine st1 Hz m137 23 fct35 fun w139 m139 _ => ?_
   refine wpAnyE_done (by kernel_rfl) ?_ _
   refine hK8 _ _ ?_
   replace Hz := Hz.oz [2, 3, 4, 5, 6, 7, 42]
   refine wp_region_lit ?_
   refine goCh Hz (.move rfl <| .add rfl rfl (r := (((selI S2 P b).length + 1 : Nat) : Int)) (by have h9 := selI_len S2 P b; rw [IntWalk.i64_in _ (by omega)]; omega) <| .assign rfl .nil) fun Az Hz => ?_
   refine wpList_nil ?_
   show ∃ n', n' < _ ∧ _
   have hE : ((wholeI S2 b).map itD) ++ [[D.v (.int .i64 (b : Int)), .ns .u8 (S2.getD b [])]] = ((wholeI S2 (b + 1)).map itD) := by rw [wholeI_snoc, List.map_append]; rfl
   rw [hE] at m139
   have hk2 : (((selI S2 P b).length + 1 : Nat) : Int) = ((selI S2 P (b + 1)).length : Int) := by rw [hk1]
   rw [hk2] at Hz
   exact ⟨N - (b + 1), by omega, b + 1, _, _, _, _, _, _, _, _, by omega, rfl, Hz.only [2, 3, 4, 5, 6, 7], m139.ren [(3, 3), (4, 4), (20, 20), (21, 21), (22, 22), (23, 23), (24, 24)] (by decide)⟩
  ·
   replace Hz := Hz.oz [2, 3, 4, 5, 6, 7]
   obtain ⟨b145, o145, vs145, hp145, hR145, ho145, m145⟩ := m31.openR (i := 3) rfl (b) (r := [.v (.int .i64 (b : Int)), .ns .u8 (S1.getD b [])]) (itD_get (wholeI_get hbN)) 100 rfl
   revert Hz
   cases hp145; clear m31 ho145
   rcases hR145 with _ | ⟨hd145_0, _ | ⟨hd145_1, _ | _⟩⟩
   obtain rfl := hd145_0.v_out
   clear hd145_0
   obtain ⟨p146, c146, hv146, hc146⟩ := hd145_1.ns_shape; subst hv146
   intro Hz
   have m146 := m145.dat 101 rfl (hd145_1.cast (fun _ h => (free_add rfl h))); clear m145 hd145_1
   obtain ⟨b147, o147, vs147, hp147, hR147, ho147, m147⟩ := m146.openR (i := 4) rfl ((selI S2 P b).length) (r := [.v (.int .i64 q), .ns .u8 d]) (itD_get hes) 102 rfl
   revert Hz
   cases hp147; clear m146 ho147
   rcases hR147 with _ | ⟨hd147_0, _ | ⟨hd147_1, _ | _⟩⟩
   obtain rfl := hd147_0.v_out
   clear hd147_0
   obtain ⟨p148, c148, hv148, hc148⟩ := hd147_1.ns_shape; subst hv148
   intro Hz
   have m148 := m147.dat 103 rfl (hd147_1.cast (fun _ h => (free_add rfl h))); clear m147 hd147_1
   have m149 := m148.oz [3, 4, 20, 21, 22, 23, 24, 100, 101, 102, 103]
   refine region_p 28 (B := [(3, _), (4, _), (20, _), (21, _), (22, _), (23, _), (24, _), (100, _), (101, _), (102, _), (103, _)]) (m149.to ⟨il, il, il, il, il, il, il, il, il, il, il, trivial⟩) m149 (by kernel_rfl) (fun w150 hP150 m150 => ?_); clear m149
   refine goR hP150 [0, 1, 2, 3, 4, 5] [2] 6 0 63 Hz (m150.to ⟨il, il, il, il, il, il, il, il, il, il, il, trivial⟩) (.move rfl <| .fa 4 rfl U42 <| .lb hh 21 U40 rfl rfl rfl <| .len rfl U40 <| .geq rfl rfl <| .move rfl .nil) fun Az Hz => ?_
   refine bc Hz 69 ?_ ?_
   · intro hb _; exact absurd hb (by first | (simp; done) | (simp; omega))
   clear Hz; intro _ Hz
   refine goR hP150 [6, 7, 8, 9, 10, 11] [8] 6 63 4095 Hz (m150.to ⟨il, il, il, il, il, il, il, il, il, il, il, trivial⟩) (.move rfl <| .fa 4 rfl U42 <| .lb hh 20 U40 rfl rfl rfl <| .len rfl U40 <| .lss rfl rfl <| .move rfl .nil) fun Az Hz => ?_
   refine bc Hz 75 ?_ ?_
   rotate_left
   · intro hb _; exact absurd hb (by simp; omega)
   clear Hz; intro _ Hz
   refine goR hP150 [12, 13, 14, 15, 16, 17, 18, 19, 20, 21, 22, 23, 24, 25, 26, 27] [13, 17, 19, 23] 16 4095 268435455 Hz (m150.to ⟨il, il, il, il, il, il, il, il, il, il, il, trivial⟩) (.fa 4 rfl U42 <| .lb hh 20 U40 rfl rfl rfl <| .move rfl <| .p (fun _ _ h_ => y_idx h_ rfl rfl U40 fct16 (b) rfl hbN) <| .fieldAddrQ 0 rfl U111 rfl (s := 0) (by kernel_rfl) rfl <| .loadC0 hh (i := 100) rfl rfl U3 rfl <| .fa 4 rfl U42 <| .lb hh 21 U40 rfl rfl rfl <| .move rfl <| .p (fun _ _ h_ => y_idx h_ rfl rfl U40 fct16 ((selI S2 P b).length) rfl hk) <| .fieldAddrQ 0 rfl U111 rfl (s := 0) (by kernel_rfl) rfl <| .loadC0 hh (i := 102) rfl rfl U3 rfl <| .lss rfl rfl <| .pickT rfl rfl <| .pickF rfl rfl <| .assign rfl .nil) fun Az Hz => ?_
   refine wpAnyE_done (by kernel_rfl) ?_ _
   refine hK5 _ _ ?_
   refine bc Hz 63 ?_ ?_
   rotate_left
   · intro hb _; exact absurd hb (by first | (simp; done) | (simp; omega))
   clear Hz; intro _ Hz
   refine wct Hz ?_
   refine wsk fun K9 hK9 => ?_
   replace Hz := Hz.oz [2, 3, 4, 5, 6, 7]
   obtain ⟨b183, o183, vs183, hp183, hR183, ho183, m183⟩ := m150.openR (i := 3) rfl (b) (r := [.v (.int .i64 (b : Int)), .ns .u8 (S1.getD b [])]) (itD_get (wholeI_get hbN)) 104 rfl
   revert Hz
   cases hp183; clear m150 ho183
   rcases hR183 with _ | ⟨hd183_0, _ | ⟨hd183_1, _ | _⟩⟩
   obtain rfl := hd183_0.v_out
   clear hd183_0
   obtain ⟨p184, c184, hv184, hc184⟩ := hd183_1.ns_shape; subst hv184
   intro Hz
   have m184 := m183.dat 105 rfl (hd183_1.cast (fun _ h => (free_add rfl h))); clear m183 hd183_1
   have m185 := m184.oz [3, 4, 20, 21, 22, 23, 24, 100, 101, 102, 103, 104, 105]
   refine region_p 8 (B := [(3, _), (4, _), (20, _), (21, _), (22, _), (23, _), (24, _), (100, _), (101, _), (102, _), (103, _), (104, _), (105, _)]) (m185.to ⟨il, il, il, il, il, il, il, il, il, il, il, il, il, trivial⟩) m185 (by kernel_rfl) (fun w186 hP186 m186 => ?_); clear m185
   refine goR hP186 [0, 1, 2, 3, 4, 5, 6] [1, 3, 6] 7 0 127 Hz (m186.to ⟨il, il, il, il, il, il, il, il, il, il, il, il, il, trivial⟩) (.fa 4 rfl U42 <| .lb hh 23 U40 rfl rfl rfl <| .fa 4 rfl U42 <| .lb hh 20 U40 rfl rfl rfl <| .move rfl <| .p (fun _ _ h_ => y_idx h_ rfl rfl U40 fct16 (b) rfl hbN) <| .loadCR hh (i := 104) rfl rfl U111 rfl fct16 .nil) fun Az Hz => ?_
   refine so 7 ?_
   refine e_litR Hz m186 106 (mm := 2) rfl (.cons rfl rfl (.cons (.v _) (.cons (m186.rd (i := 105) rfl) .nil)) .nil) U40 fct24 rfl rfl rfl rfl rfl fun g194 Az w195 Hz m195 => ?_
   refine ⟨m195.to ⟨il, il, il, il, il, il, il, il, il, il, il, il, il, trivial⟩, ?_⟩
   have m197 := m195.freezeR 106 rfl
   refine se 8 ?_
   refine e_appR Hz m197 24 rfl rfl rfl (m197.rd (i := 106) rfl) U40 fct24 rfl rfl (by decide) (by simp [wholeI_len]; omega) rfl fun p196 c196 Az w198 Hz m198 => ?_
   refine goB hP186 [9] 1 511 1023 Hz (.fa 4 rfl U42 .nil) fun Az Hz => ?_
   refine se 10 ?_
   refine st1 Hz m198 23 fct35 fun w200 m200 _ => ?_
   refine wpAnyE_done (by kernel_rfl) ?_ _
   refine hK9 _ _ ?_
   replace Hz := Hz.oz [2, 3, 4, 5, 6, 7]
   refine wp_region_lit ?_
   refine goCh Hz (.move rfl <| .inc (b + 1) <| .assign rfl .nil) fun Az Hz => ?_
   refine wpList_nil ?_
   show ∃ n', n' < _ ∧ _
   have hE : ((wholeI S2 b).map itD) ++ [[D.v (.int .i64 (b : Int)), .ns .u8 (S1.getD b [])]] = ((wholeI S2 (b + 1)).map itD) := by rw [wholeI_snoc, List.map_append, hsame b hbN hP]; rfl
   rw [hE] at m200
   have hk2 : ((selI S2 P b).length : Int) = ((selI S2 P (b + 1)).length : Int) := by rw [hk1]
   rw [hk2] at Hz
   exact ⟨N - (b + 1), by omega, b + 1, _, _, _, _, _, _, _, _, by omega, rfl, Hz.only [2, 3, 4, 5, 6, 7], m200.ren [(3, 3), (4, 4), (20, 20), (21, 21), (22, 22), (23, 23), (24, 24)] (by decide)⟩
  replace Hz := Hz.oz [2, 3, 4, 5, 6, 7]
  obtain ⟨b206, o206, vs206, hp206, hR206, ho206, m206⟩ := m31.openR (i := 3) rfl (b) (r := [.v (.int .i64 (b : Int)), .ns .u8 (S1.getD b [])]) (itD_get (wholeI_get hbN)) 100 rfl
  revert Hz
  cases hp206; clear m31 ho206
  rcases hR206 with _ | ⟨hd206_0, _ | ⟨hd206_1, _ | _⟩⟩
  obtain rfl := hd206_0.v_out
  clear hd206_0
  obtain ⟨p207, c207, hv207, hc207⟩ := hd206_1.ns_shape; subst hv207
  intro Hz
  have m207 := m206.dat 101 rfl (hd206_1.cast (fun _ h => (free_add rfl h))); clear m206 hd206_1
  have m208 := m207.oz [3, 4, 20, 21, 22, 23, 24, 100, 101]
  refine region_p 28 (B := [(3, _), (4, _), (20, _), (21, _), (22, _), (23, _), (24, _), (100, _), (101, _)]) (m208.to ⟨il, il, il, il, il, il, il, il, il, trivial⟩) m208 (by kernel_rfl) (fun w209 hP209 m209 => ?_); clear m208
  refine goR hP209 [0, 1, 2, 3, 4, 5] [2] 6 0 63 Hz (m209.to ⟨il, il, il, il, il, il, il, il, il, trivial⟩) (.move rfl <| .fa 4 rfl U42 <| .lb hh 21 U40 rfl rfl rfl <| .len rfl U40 <| .geq rfl rfl <| .move rfl .nil) fun Az Hz => ?_
  refine bc Hz 69 ?_ ?_
  rotate_left
  · intro hb _; exact absurd hb (by first | (simp; done) | (simp; omega))
  clear Hz; intro _ Hz
  refine goA hP209 [6, 7, 8, 9, 10, 11, 12, 13, 14, 15, 16, 17, 18, 19, 20, 21, 22, 23, 24, 25, 26, 27] 22 63 268435455 Hz (m209.to ⟨il, il, il, il, il, il, il, il, il, trivial⟩) (.s <| .s <| .s <| .s <| .s <| .s <| .u <| .u <| .u <| .u <| .u <| .u <| .u <| .u <| .u <| .u <| .u <| .u <| .u <| .s <| .pickT rfl rfl <| .assign rfl .nil) fun Az Hz => ?_
  refine wpAnyE_done (by kernel_rfl) ?_ _
  refine hK5 _ _ ?_
  refine wct Hz ?_
  refine wsk fun K10 hK10 => ?_
  replace Hz := Hz.oz [2, 3, 4, 5, 6, 7]
  obtain ⟨b240, o240, vs240, hp240, hR240, ho240, m240⟩ := m209.openR (i := 3) rfl (b) (r := [.v (.int .i64 (b : Int)), .ns .u8 (S1.getD b [])]) (itD_get (wholeI_get hbN)) 102 rfl
  revert Hz
  cases hp240; clear m209 ho240
  rcases hR240 with _ | ⟨hd240_0, _ | ⟨hd240_1, _ | _⟩⟩
  obtain rfl := hd240_0.v_out
  clear hd240_0
  obtain ⟨p241, c241, hv241, hc241⟩ := hd240_1.ns_shape; subst hv241
  intro Hz
  have m241 := m240.dat 103 rfl (hd240_1.cast (fun _ h => (free_add rfl h))); clear m240 hd240_1
  have m242 := m241.oz [3, 4, 20, 21, 22, 23, 24, 100, 101, 102, 103]
  refine region_p 8 (B := [(3, _), (4, _), (20, _), (21, _), (22, _), (23, _), (24, _), (100, _), (101, _), (102, _), (103, _)]) (m242.to ⟨il, il, il, il, il, il, il, il, il, il, il, trivial⟩) m242 (by kernel_rfl) (fun w243 hP243 m243 => ?_); clear m242
  refine goR hP243 [0, 1, 2, 3, 4, 5, 6] [1, 3, 6] 7 0 127 Hz (m243.to ⟨il, il, il, il, il, il, il, il, il, il, il, trivial⟩) (.fa 4 rfl U42 <| .lb hh 23 U40 rfl rfl rfl <| .fa 4 rfl U42 <| .lb hh 20 U40 rfl rfl rfl <| .move rfl <| .p (fun _ _ h_ => y_idx h_ rfl rfl U40 fct16 (b) rfl hbN) <| .loadCR hh (i := 102) rfl rfl U111 rfl fct16 .nil) fun Az Hz => ?_
  refine so 7 ?_
  refine e_litR Hz m243 104 (mm := 2) rfl (.cons rfl rfl (.cons (.v _) (.cons (m243.rd (i := 103) rfl) .nil)) .nil) U40 fct24 rfl rfl rfl rfl rfl fun g251 Az w252 Hz m252 => ?_
  refine ⟨m252.to ⟨il, il, il, il, il, il, il, il, il, il, il, trivial⟩, ?_⟩
  have m254 := m252.freezeR 104 rfl
  refine se 8 ?_
  refine e_appR Hz m254 24 rfl rfl rfl (m254.rd (i := 104) rfl) U40 fct24 rfl rfl (by decide) (by simp [wholeI_len]; omega) rfl fun p253 c253 Az w255 Hz m255 => ?_
  refine goB hP243 [9] 1 511 1023 Hz (.fa 4 rfl U42 .nil) fun Az Hz => ?_
  refine se 10 ?_
  refine st1 Hz m255 23 fct35 fun w257 m257 _ => ?_
  refine wpAnyE_done (by kernel_rfl) ?_ _
  refine hK10 _ _ ?_
  replace Hz := Hz.oz [2, 3, 4, 5, 6, 7]
  refine wp_region_lit ?_
  refine goCh Hz (.move rfl <| .inc (b + 1) <| .assign rfl .nil) fun Az Hz => ?_
  refine wpList_nil ?_
  show ∃ n', n' < _ ∧ _
  have hE : ((wholeI S2 b).map itD) ++ [[D.v (.int .i64 (b : Int)), .ns .u8 (S1.getD b [])]] = ((wholeI S2 (b + 1)).map itD) := by rw [wholeI_snoc, List.map_append, hsame b hbN hP]; rfl
  rw [hE] at m257
  have hk2 : ((selI S2 P b).length : Int) = ((selI S2 P (b + 1)).length : Int) := by rw [hk1]
  rw [hk2] at Hz
  exact ⟨N - (b + 1), by omega, b + 1, _, _, _, _, _, _, _, _, by omega, rfl, Hz.only [2, 3, 4, 5, 6, 7], m257.ren [(3, 3), (4, 4), (20, 20), (21, 21), (22, 22), (23, 23), (24, 24)] (by decide)⟩
 intro hb44 Hz; try simp only [QQ, Qax] at hb44
 obtain rfl : b = N := by have := hb44; first | omega | (simp at this; omega) | (simp at this; exact this)
 refine gz hK4 Hz (.moveZ rfl <| .faZ 4 rfl U42 <| .loadB1Z m31 (i := 21) rfl rfl rfl U40 rfl <| .lenZ rfl U40 <| .lssZ rfl rfl <| .pickF rfl rfl <| .nil) fun Az Hz => ?_
 refine bc Hz 28 ?_ ?_
 · intro hb _; exact absurd hb (by simp)
 clear Hz; intro _ Hz
 refine wcf Hz ?_
 refine wp_exit ?_
 refine hK2 _ _ ?_
 replace Hz := Hz.oz [2, 3, 4, 5, 6, 7]
 refine zsr fun K11 hK11 => ?_
 refine goCh Hz (.loadBR m31 (i := 23) rfl rfl U42 rfl fct37 (by simp) (by dsimp only [List.drop, List.take] <;> rfl) .nil) fun Az Hz => ?_
 refine plz (stw Hz m31 22 fct37 fun w272 m272 _ => ?_)
 refine znl (hK11 _ _ ?_)
 refine rtd (retC (fn := Tryz.f50) Hz m272 (i := 22) rfl rfl rfl U42 rfl fct37 ?_)
 have m273 := m272.freezeR 24 rfl
 exact ⟨_, _, rfl, m273.ren [(9, 24)] (by decide)⟩
theorem eall_x (X : Cx) (y : VolV) (n : Nat) (hS : VolS n y) (hn : n ≤ 1000) (L : List (Int × Nat)) (pl : Option Addr) (nl cl : Nat) (w0 : World) (hch : ChS y L) (hl0 : 0 < L.length) (hLl : L.length ≤ 1000) (m0 : MemOk X w0 [(1, .dat (.slice pl nl cl) (.l 5 (L.map (stR y))))] w0) :
   Calls Tryz.prog 22 #[.slice pl nl cl] w0 fun e w' => ∃ (z : Int × Nat) (p9 : Option Addr) (n9 c9 : Nat), L[L.length - 1]? = some z ∧ e = .returned (.tuple #[.agg #[.int .i64 y.bl, .int .i64 y.sz, .int .i64 (-1), .int .i64 (z.2 : Int), .slice p9 n9 c9], .int .i64 0]) ∧ MemOk X w0 [(9, .dat (.slice p9 n9 c9) (.l 2 ((wholeI (stL y.bl y.sz y.ws z.2) y.bl.toNat).map itD)))] w' := by
 refine ent1 Tryz.func22 rfl Tryz.ntmps22 fun Az Hz => ?_
 revert Hz
 obtain rfl : nl = L.length := nnOf (m0.rd (i := 1) rfl)
 intro Hz
 obtain ⟨x0, hes0⟩ : ∃ x, L[0]? = some x := ⟨_, List.getElem?_eq_getElem hl0⟩
 have hx0 := (hch _ _ hes0).2.2.2.1 rfl
 have hF := hS.f hn
 refine zsr fun K0 hK0 => ?_
 refine plz (e_alloc Hz m0 70 fct38 rfl fun g1 Az w2 Hz m2 _ _ => ?_)
 refine gz hK0 Hz (.assign rfl .nil) fun Az Hz => ?_
 refine wsk fun K1 hK1 => ?_
 refine regS Hz (.assign rfl .nil) fun Az Hz => ?_
 refine wp_block ?_
 refine wp_loop_ghost (fun g a w => ∃ (i B2 : Nat), i ≤ L.length ∧ g = L.length - i ∧ Has 40 [(0, .slice pl L.length cl), (2, .pointer (some ⟨B2, 0, none⟩)), (4, .int .i64 (i : Int))] a ∧ MemOk X w0 [(1, .dat (.slice pl L.length cl) (.l 5 (L.map (stR y)))), (20, .box B2 42 [.int .i64 0, .int .i64 0, .int .i64 0, .int .i64 0, .slice none 0 0])] w) (L.length) ?_ ?_
 · exact ⟨0, _, Nat.zero_le _, rfl, Hz.only [0, 2, 4], m2.ren [(1, 1), (20, 70)] (by decide)⟩
 clear Hz m2
 rintro g Az w5 ⟨i, B2, hil, hg, Hz, m5⟩
 refine wsk fun K2 hK2 => ?_
 refine regS Hz (.move rfl <| .move rfl <| .len rfl U55 <| .lss rfl rfl .nil) fun Az Hz => ?_
 refine bc Hz 10 ?_ ?_
 ·
  intro hb10 Hz; try simp only [QQ, Qax] at hb10
  have hi : i < L.length := by have := hb10; first | omega | (simp at this; omega) | (simp at this; exact this)
  obtain ⟨x, hes⟩ : ∃ x, L[i]? = some x := ⟨_, List.getElem?_eq_getElem hi⟩
  refine wct Hz ?_
  refine zss (hK2 _ _ ?_)
  refine wsk fun K3 hK3 => ?_
  refine wp_block ?_
  refine zsr fun K4 hK4 => ?_
  refine goCh Hz (.move rfl <| .move rfl .nil) fun Az Hz => ?_
  obtain ⟨b16, o16, vs16, hp16, hR16, ho16, m16⟩ := m5.openR (i := 1) rfl (i) (r := [.v (.int .i64 y.bl), .v (.int .i64 y.sz), .v (.int .i64 x.1), .v (.int .i64 (x.2 : Int)), .l 2 ((stI y x).map itD)]) (stR_get hes) 100 rfl
  revert Hz
  cases hp16; clear m5 ho16
  rcases hR16 with _ | ⟨hd16_0, _ | ⟨hd16_1, _ | ⟨hd16_2, _ | ⟨hd16_3, _ | ⟨hd16_4, _ | _⟩⟩⟩⟩⟩
  obtain rfl := hd16_0.v_out
  clear hd16_0
  obtain rfl := hd16_1.v_out
  clear hd16_1
  obtain rfl := hd16_2.v_out
  clear hd16_2
  obtain rfl := hd16_3.v_out
  clear hd16_3
  obtain ⟨p17, c17, hv17, hc17⟩ := hd16_4.l_shape; subst hv17
  intro Hz
  have m17 := m16.dat 101 rfl (hd16_4.cast (fun _ h => (free_add rfl h))); clear m16 hd16_4
  refine goCh Hz (.c rfl (fun _ h_ => y_idx h_ rfl rfl U55 fct37 (i) rfl hi) <| .loadCR m17 (i := 100) rfl rfl U42 rfl fct37 .nil) fun Az Hz => ?_
  refine plz (ecb Hz Tryz.func26 rfl m17 (eright_c _ _ _ _ _ _ _ _ _ ((m17.rd (i := 101) rfl).any) (hch.ok hS hn hes)) fun Az w20 Hz m21 => ?_)
  refine gz hK4 Hz (.not rfl .nil) fun Az Hz => ?_
  refine wcf Hz ?_
  refine zss (hK3 _ _ ?_)
  replace Hz := Hz.oz [0, 2, 4]
  refine wp_region_lit ?_
  refine goCh Hz (.move rfl <| .inc (i + 1) <| .assign rfl .nil) fun Az Hz => ?_
  refine wpList_nil ?_
  show ∃ n', n' < _ ∧ _
  exact ⟨L.length - (i + 1), by omega, i + 1, _, by omega, rfl, Hz.only [0, 2, 4], m21.ren [(1, 1), (20, 20)] (by decide)⟩
 intro hb10 Hz; try simp only [QQ, Qax] at hb10
 refine wcf Hz ?_
 refine wp_exit ?_
 refine hK1 _ _ ?_
 refine wsk fun K5 hK5 => ?_
 refine zsr fun K6 hK6 => ?_
 refine goCh Hz (.move rfl .nil) fun Az Hz => ?_
 refine plz (ecl Hz Tryz.func49 rfl (ebad_x _ y n hS hn L _ _ _ _ hch hl0 hLl (m5.into [(1, 1)] (by decide) rfl)) ?_)
 rintro e w30 ⟨rfl, hm30⟩
 have mx30 := m5.back hm30 [(1, 1)] (by decide); clear hm30 m5
 have m30 := mx30.oz [1, 20]
 refine ⟨_, rfl, ?_⟩; intro Az Hz
 refine gz hK6 Hz (.geq rfl rfl .nil) fun Az Hz => ?_
 refine bc Hz 22 ?_ ?_
 · intro hb _; exact absurd hb (by simp)
 clear Hz; intro _ Hz
 refine wcf Hz ?_
 refine zss (hK5 _ _ ?_)
 replace Hz := Hz.oz [0, 2, 4]
 refine zsr fun K7 hK7 => ?_
 refine goCh Hz (.move rfl .nil) fun Az Hz => ?_
 obtain ⟨b38, o38, vs38, hp38, hR38, ho38, m38⟩ := m30.openR (i := 1) rfl (0) (r := [.v (.int .i64 y.bl), .v (.int .i64 y.sz), .v (.int .i64 x0.1), .v (.int .i64 (x0.2 : Int)), .l 2 ((stI y x0).map itD)]) (stR_get hes0) 100 rfl
 revert Hz
 cases hp38; clear m30 ho38
 rcases hR38 with _ | ⟨hd38_0, _ | ⟨hd38_1, _ | ⟨hd38_2, _ | ⟨hd38_3, _ | ⟨hd38_4, _ | _⟩⟩⟩⟩⟩
 obtain rfl := hd38_0.v_out
 clear hd38_0
 obtain rfl := hd38_1.v_out
 clear hd38_1
 obtain rfl := hd38_2.v_out
 clear hd38_2
 obtain rfl := hd38_3.v_out
 clear hd38_3
 obtain ⟨p39, c39, hv39, hc39⟩ := hd38_4.l_shape; subst hv39
 intro Hz
 have m39 := m38.dat 101 rfl (hd38_4.cast (fun _ h => (free_add rfl h))); clear m38 hd38_4
 refine goCh Hz (.c rfl (fun _ h_ => y_idx h_ rfl rfl U55 fct37 (0) rfl hl0) <| .loadCR m39 (i := 100) rfl rfl U42 rfl fct37 .nil) fun Az Hz => ?_
 refine plz (e_alloc Hz m39 102 fct38 rfl fun g42 Az w43 Hz m43 _ _ => ?_)
 refine plz (stw Hz m43 102 fct37 fun w44 m44 _ => ?_)
 refine znl (hK7 _ _ ?_)
 refine wsk fun K8 hK8 => ?_
 refine regS Hz (.assign rfl .nil) fun Az Hz => ?_
 refine wp_block ?_
 have hz0 : stI y x0 = wholeI (stL y.bl y.sz y.ws x0.2) y.bl.toNat := by unfold stI; rw [if_pos (by omega)]
 rw [hz0, hx0] at m44
 refine wp_loop_ghost (fun g a w => ∃ (i B2 B5 : Nat) (z : Int × Nat) (p9 : Option Addr) (c9 n9 : Nat), (1 ≤ i ∧ i ≤ L.length) ∧ L[i - 1]? = some z ∧ g = L.length - i ∧ Has 40 [(0, .slice (some ⟨b38, o38, none⟩) L.length cl), (2, .pointer (some ⟨B2, 0, none⟩)), (5, .pointer (some ⟨B5, 0, none⟩)), (6, .int .i64 (i : Int))] a ∧ MemOk X w0 [(1, .dat (.slice (some ⟨b38, o38, none⟩) L.length cl) (.l 5 (L.map (stR y)))), (20, .box B2 42 [.int .i64 0, .int .i64 0, .int .i64 0, .int .i64 0, .slice none 0 0]), (21, .box B5 42 [.int .i64 y.bl, .int .i64 y.sz, .int .i64 (-1), .int .i64 (z.2 : Int), .slice p9 n9 c9]), (22, .dat (.slice p9 n9 c9) (.l 2 ((wholeI (stL y.bl y.sz y.ws z.2) y.bl.toNat).map itD)))] w) (L.length - 1) ?_ ?_
 · exact ⟨1, _, _, x0, _, _, _, by omega, hes0, rfl, Hz.only [0, 2, 5, 6], m44.ren [(1, 1), (20, 20), (21, 102), (22, 101)] (by decide)⟩
 clear Hz m44
 rintro g Az w46 ⟨i, B2, B5, z, p9, c9, n9, hil, hesz, hg, Hz, m46⟩
 refine wsk fun K9 hK9 => ?_
 refine regS Hz (.move rfl <| .move rfl <| .len rfl U55 <| .lss rfl rfl .nil) fun Az Hz => ?_
 refine bc Hz 30 ?_ ?_
 ·
  intro hb51 Hz; try simp only [QQ, Qax] at hb51
  have hi : i < L.length := by have := hb51; first | omega | (simp at this; omega) | (simp at this; exact this)
  obtain ⟨xi, hesi⟩ : ∃ x, L[i]? = some x := ⟨_, List.getElem?_eq_getElem hi⟩
  refine wct Hz ?_
  refine zss (hK9 _ _ ?_)
  refine wsk fun K10 hK10 => ?_
  refine wp_block ?_
  obtain ⟨b52, o52, vs52, hp52, hR52, ho52, m52⟩ := m46.openR (i := 1) rfl (i) (r := [.v (.int .i64 y.bl), .v (.int .i64 y.sz), .v (.int .i64 xi.1), .v (.int .i64 (xi.2 : Int)), .l 2 ((stI y xi).map itD)]) (stR_get hesi) 200 rfl
  revert Hz
  cases hp52; clear m46 ho52
  rcases hR52 with _ | ⟨hd52_0, _ | ⟨hd52_1, _ | ⟨hd52_2, _ | ⟨hd52_3, _ | ⟨hd52_4, _ | _⟩⟩⟩⟩⟩
  obtain rfl := hd52_0.v_out
  clear hd52_0
  obtain rfl := hd52_1.v_out
  clear hd52_1
  obtain rfl := hd52_2.v_out
  clear hd52_2
  obtain rfl := hd52_3.v_out
  clear hd52_3
  obtain ⟨p53, c53, hv53, hc53⟩ := hd52_4.l_shape; subst hv53
  intro Hz
  have m53 := m52.dat 201 rfl (hd52_4.cast (fun _ h => (free_add rfl h))); clear m52 hd52_4
  have m54 := m53.oz [1, 20, 21, 22, 200, 201]
  refine region_p 5 (B := [(1, _), (20, _), (21, _), (22, _), (200, _), (201, _)]) (m54.to ⟨il, il, il, il, il, il, trivial⟩) m54 (by kernel_rfl) (fun w55 hP55 m55 => ?_); clear m54
  refine goR hP55 [0, 1, 2, 3, 4] [0, 4] 5 0 31 Hz (m55.to ⟨il, il, il, il, il, il, trivial⟩) (.loadBR hh (i := 21) rfl rfl U42 rfl fct37 (by simp) (by dsimp only [List.drop, List.take] <;> rfl) <| .move rfl <| .move rfl <| .p (fun _ _ h_ => y_idx h_ rfl rfl U55 fct37 (i) rfl hi) <| .loadCR hh (i := 200) rfl rfl U42 rfl fct37 .nil) fun Az Hz => ?_
  obtain ⟨P, hP, -, hP2⟩ := stI_sub y xi
  rw [hP] at m55 Hz
  refine se 5 ?_
  refine ecl Hz Tryz.func50 rfl (emerged_x _ _ _ _ _ _ _ _ _ (stL y.bl y.sz y.ws z.2) (stL y.bl y.sz y.ws xi.2) P y.bl.toNat _ _ _ _ _ _ _ (by have := hF.bl; omega) (merge_same hch hS hn hesz hesi hP2) (m55.into [(3, 22), (4, 201)] (by decide) rfl)) ?_
  rintro e w61 ⟨p61, c61, rfl, hm61⟩
  have mx61 := m55.back hm61 [(202, 9)] (by decide); clear hm61 m55
  have m61 := mx61.oz [202, 1, 20, 21, 200]
  refine ⟨_, rfl, ?_⟩; intro Az Hz
  refine se 6 ?_
  refine stw Hz m61 21 fct37 fun w63 m63 _ => ?_
  refine wpAnyE_done (by kernel_rfl) ?_ _
  refine hK10 _ _ ?_
  replace Hz := Hz.oz [0, 2, 5, 6]
  refine wp_region_lit ?_
  refine goCh Hz (.move rfl <| .inc (i + 1) <| .assign rfl .nil) fun Az Hz => ?_
  refine wpList_nil ?_
  show ∃ n', n' < _ ∧ _
  exact ⟨L.length - (i + 1), by omega, i + 1, _, _, xi, _, _, _, by omega, by rw [Nat.add_sub_cancel]; exact hesi, rfl, Hz.only [0, 2, 5, 6], m63.ren [(1, 1), (20, 20), (21, 21), (22, 202)] (by decide)⟩
 intro hb51 Hz; try simp only [QQ, Qax] at hb51
 obtain rfl : i = L.length := by have := hb51; first | omega | (simp at this; omega) | (simp at this; exact this)
 refine wcf Hz ?_
 refine wp_exit ?_
 refine hK8 _ _ ?_
 refine zsr fun K11 hK11 => ?_
 refine goCh Hz (.loadBR m46 (i := 21) rfl rfl U42 rfl fct37 (by simp) (by dsimp only [List.drop, List.take] <;> rfl) .nil) fun Az Hz => ?_
 refine plz (stw Hz m46 20 fct37 fun w70 m70 _ => ?_)
 refine gz hK11 Hz (.assign rfl .nil) fun Az Hz => ?_
 refine rtd (retCT (fn := Tryz.f22) Hz m70 (i := 20) rfl rfl rfl rfl U42 rfl fct37 ?_)
 exact ⟨z, _, _, _, hesz, rfl, m70.ren [(9, 22)] (by decide)⟩
end Go.Proofs.YtamjnimaeecmoaaGreat.K
