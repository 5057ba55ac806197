/- The program's and the reference's Rest and Done, of a plan at a place. -/
import Derived.Test.YtkdnhndjjfjppaaInt6
import Derived.Test.YtkdnhndjjfjppaaInt9
namespace Go.Proofs.Ytkdnhndjjfjppaa.K
open Go.ChangeShapes Go.WideShapes Go.ChangeAt Go.RowKit
set_option linter.unusedVariables false
set_option linter.unusedSimpArgs false
theorem fl49rdz : flatS Try.prog 49 [.int .i64 0, .int .i64 0, .int .i64 0, .int .i64 0, .slice none 0 0, .int .i64 0, .int .i64 0, .bool false, .int .i64 0, .slice none 0 0, .slice none 0 0] = true := by kernel_rfl
theorem fl49rdy : flatS Try.prog 49 [.int .i64 0, .int .i64 0, .int .i64 0, .int .i64 0, .slice none 0 0, .int .i64 0, .int .i64 0, .bool false, .int .i64 0, .slice none 0 0, .slice none 0 0] = true := by kernel_rfl
theorem wsP_get {its : List (Int × List Int)} {n T k : Nat} (h : k < T) : (wsP its n T)[k]? = some ((k : Int) + 1, chunkI its n k) := by simp [wsP, h]
set_option maxRecDepth 100000
set_option maxHeartbeats 4000000
theorem done_hid (cs : List RC) (pc : Option Addr) (cc : Nat) (w0 : World) (h1 : Rd (fun _ => True) w0 (.slice pc cs.length cc) (.l 10 (cs.map cmdD))) (hl : cs.length ≤ 1000000) (hl2 : 2 ≤ cs.length) (vo bl sz pe to ne fl : Int) (pp pn pw : Option Addr) (np cp nn cn nw cw : Nat) :
   Calls Try.prog 16 #[.slice pc cs.length cc, .agg #[.int .i64 vo, .int .i64 bl, .int .i64 sz, .int .i64 pe, .slice pp np cp, .int .i64 to, .int .i64 ne, .bool true, .int .i64 fl, .slice pn nn cn, .slice pw nw cw]] w0 fun e w' => e = .returned (.bool false) ∧ Below w0.heap.size w0 w' := by
 refine ent2 Try.func16 rfl Try.ntmps16 fun Az Hz => ?_
 have m0 := MemOk.start (fun _ => False) w0
 refine sr fun K0 hK0 => ?_
 refine wpList_plain rfl (fun K hK => ?_)
 refine e_box Hz m0 70 (cs := [_, _, _, _, _, _, _, _, _, _, _]) rfl rfl rfl ?_
 clear Hz Az m0; intro g1 Az w2 Hz m2 hB2 hg2
 clear hB2 hg2
 refine hK _ _ ?_; clear hK
 refine goCh Hz (.assign rfl .nil) ?_
 clear Hz Az; intro Az Hz
 refine nl (hK0 _ _ ?_); clear hK0
 refine wp_seq_k (fun K1 hK1 => ?_)
 refine sr fun K2 hK2 => ?_
 refine goCh Hz (.move rfl <| .len rfl U31 <| .eql rfl rfl <| .move rfl <| .nil) ?_
 clear Hz Az; intro Az Hz
 refine bool_cases Hz (t := 11) rfl ?_ ?_
 · intro hb _; exact absurd hb (by first | (simp; done) | (simp; omega) | (rw [decide_eq_true_eq]; omega))
 clear Hz; intro _ Hz
 refine goCh Hz (.faZ 7 rfl U49 <| .loadB1Z m2 (i := 70) rfl rfl rfl U4 rfl <| .pickF rfl rfl <| .nil) ?_
 clear Hz Az; intro Az Hz
 refine nl (hK2 _ _ ?_); clear hK2
 refine wp_cond_true (Hz.ev (x := .tmp 14) rfl) ?_
 replace Hz : Has 100 [(0, _), (3, _), (4, _)] Az := Hz.only [0, 3, 4]
 refine regS Hz (.assign rfl <| .nil) ?_
 clear Hz Az; intro Az Hz
 refine wp_ret ?_
 try dsimp only [Exit.then, Exit.inBlock]
 refine (ret1 (fn := Try.f16) Hz rfl rfl ?_)
 exact ⟨by first | rfl | (simp; done), m2.below⟩
theorem done_bl (cs : List RC) (pc : Option Addr) (cc : Nat) (w0 : World) (h1 : Rd (fun _ => True) w0 (.slice pc cs.length cc) (.l 10 (cs.map cmdD))) (hl : cs.length ≤ 1000000) (vo9 bl9 sz9 pe9 to ne fl : Int) (pp pn pw : Option Addr) (np cp nn cn nw cw : Nat) (vo bl sz pe : Int) (pl : List Int) (T : Nat) (hcl : cs.length = T + 2) (hT2 : T ≤ 1000) (hc0 : cs[0]? = some ⟨1, vo, bl, sz, pe, pl, (T : Int), 0, 0, []⟩) (hbl : bl9 ≠ bl) :
   Calls Try.prog 16 #[.slice pc cs.length cc, .agg #[.int .i64 vo9, .int .i64 bl9, .int .i64 sz9, .int .i64 pe9, .slice pp np cp, .int .i64 to, .int .i64 ne, .bool false, .int .i64 fl, .slice pn nn cn, .slice pw nw cw]] w0 fun e w' => e = .returned (.bool false) ∧ Below w0.heap.size w0 w' := by
 refine ent2 Try.func16 rfl Try.ntmps16 fun Az Hz => ?_
 have m0 := MemOk.start (fun _ => False) w0
 refine sr fun K0 hK0 => ?_
 refine wpList_plain rfl (fun K hK => ?_)
 refine e_box Hz m0 70 (cs := [_, _, _, _, _, _, _, _, _, _, _]) rfl rfl rfl ?_
 clear Hz Az m0; intro g1 Az w2 Hz m2 hB2 hg2
 clear hB2 hg2
 refine hK _ _ ?_; clear hK
 refine goCh Hz (.assign rfl .nil) ?_
 clear Hz Az; intro Az Hz
 refine nl (hK0 _ _ ?_); clear hK0
 refine wp_seq_k (fun K1 hK1 => ?_)
 refine sr fun K2 hK2 => ?_
 refine goCh Hz (.move rfl <| .len rfl U31 <| .eql rfl rfl <| .move rfl <| .nil) ?_
 clear Hz Az; intro Az Hz
 refine bool_cases Hz (t := 11) rfl ?_ ?_
 · intro hb _; exact absurd hb (by first | (simp; done) | (simp; omega) | (rw [decide_eq_true_eq]; omega))
 clear Hz; intro _ Hz
 refine goCh Hz (.faZ 7 rfl U49 <| .loadB1Z m2 (i := 70) rfl rfl rfl U4 rfl <| .pickF rfl rfl <| .nil) ?_
 clear Hz Az; intro Az Hz
 refine nl (hK2 _ _ ?_); clear hK2
 refine wp_cond_false (Hz.ev (x := .tmp 14) rfl) ?_
 refine ss (hK1 _ _ ?_); clear hK1
 replace Hz : Has 100 [(0, _), (3, _), (4, _)] Az := Hz.only [0, 3, 4]
 refine sr fun K3 hK3 => ?_
 refine goCh Hz (.move rfl .nil) ?_
 clear Hz Az; intro Az Hz
 obtain ⟨gx20, ox20, vx20, hp20, hl20, hR20, hrg20⟩ := h1.extA (0) (r := [.v (.int .i64 1), .v (.int .i64 vo), .v (.int .i64 bl), .v (.int .i64 sz), .v (.int .i64 pe), .ns .i64 pl, .v (.int .i64 (T : Int)), .v (.int .i64 0), .v (.int .i64 0), .l 2 []]) (cmdD_get hc0)
 cases hp20; clear hl20
 rcases hR20 with _ | ⟨hd20_0, _ | ⟨hd20_1, _ | ⟨hd20_2, _ | ⟨hd20_3, _ | ⟨hd20_4, _ | ⟨hd20_5, _ | ⟨hd20_6, _ | ⟨hd20_7, _ | ⟨hd20_8, _ | ⟨hd20_9, _ | _⟩⟩⟩⟩⟩⟩⟩⟩⟩⟩
 obtain rfl := hd20_0.v_out
 clear hd20_0
 obtain rfl := hd20_1.v_out
 clear hd20_1
 obtain rfl := hd20_2.v_out
 clear hd20_2
 obtain rfl := hd20_3.v_out
 clear hd20_3
 obtain rfl := hd20_4.v_out
 clear hd20_4
 obtain ⟨p21, c21, hv21, hw21⟩ := hd20_5.ns_shape; subst hv21
 obtain rfl := hd20_6.v_out
 clear hd20_6
 obtain rfl := hd20_7.v_out
 clear hd20_7
 obtain rfl := hd20_8.v_out
 clear hd20_8
 obtain ⟨p22, c22, hv22, hw22⟩ := hd20_9.l_shape; subst hv22
 refine goCh Hz (.c rfl (fun _ h => y_idx h rfl rfl U31 fct3 (0) rfl (show 0 < cs.length by omega)) <| .loadAt (hrg20 m2 rfl) rfl U57 rfl fct3 <| .nil) ?_
 clear Hz Az; intro Az Hz
 refine wpList_plain rfl (fun K hK => ?_)
 refine e_alloc Hz m2 73 fct17 rfl ?_
 clear Hz Az m2; intro g25 Az w26 Hz m26 hB26 hg26
 clear hB26 hg26
 refine hK _ _ ?_; clear hK
 refine wpList_plain rfl (fun K hK => ?_)
 refine e_storeW Hz m26 73 rfl rfl rfl rfl rfl fct3 ?_
 clear m26; intro w27 m27 hB27
 clear hB27
 refine hK _ _ ?_; clear hK
 refine nl (hK3 _ _ ?_); clear hK3
 refine wp_seq_k (fun K4 hK4 => ?_)
 refine sr fun K5 hK5 => ?_
 refine goCh Hz (.fa 1 rfl U57 <| .lb m27 73 U3 rfl rfl rfl <| .fa 0 rfl U49 <| .lb m27 70 U3 rfl rfl rfl <| .neq rfl rfl <| .move rfl <| .nil) ?_
 clear Hz Az; intro Az Hz
 refine bool_cases Hz (t := 23) rfl ?_ ?_
 ·
  clear Hz; intro hb40 Hz; try simp only [QQ, Qax] at hb40
  refine goCh Hz (.sk <| .sk <| .sk <| .sk <| .sk <| .pickT rfl rfl <| .move rfl <| .sk <| .sk <| .sk <| .sk <| .sk <| .pickT rfl rfl <| .move rfl <| .sk <| .sk <| .sk <| .sk <| .sk <| .pickT rfl rfl <| .move rfl <| .sk <| .sk <| .sk <| .sk <| .sk <| .pickT rfl rfl <| .move rfl <| .sk <| .sk <| .sk <| .sk <| .sk <| .sk <| .pickT rfl rfl <| .nil) ?_
  clear Hz Az; intro Az Hz
  refine nl (hK5 _ _ ?_); clear hK5
  refine wp_cond_true (Hz.ev (x := .tmp 58) rfl) ?_
  replace Hz : Has 100 [(0, _), (3, _), (4, _), (5, _)] Az := Hz.only [0, 3, 4, 5]
  refine regS Hz (.assign rfl <| .nil) ?_
  clear Hz Az; intro Az Hz
  refine wp_ret ?_
  try dsimp only [Exit.then, Exit.inBlock]
  refine (ret1 (fn := Try.f16) Hz rfl rfl ?_)
  exact ⟨by first | rfl | (simp; done), m27.below⟩
 clear Hz; intro hb40 Hz; try simp only [QQ, Qax] at hb40
 refine goCh Hz (.faZ 2 rfl U57 <| .loadB1Z m27 (i := 73) rfl rfl rfl U3 rfl <| .faZ 1 rfl U49 <| .loadB1Z m27 (i := 70) rfl rfl rfl U3 rfl <| .neqZ rfl rfl <| .pickF rfl rfl <| .move rfl <| .nil) ?_
 clear Hz Az; intro Az Hz
 refine bool_cases Hz (t := 30) rfl ?_ ?_
 rotate_left
 · intro hb _; exact absurd hb (by first | (simp; done) | (simp; omega))
 clear Hz; intro _ Hz
 refine goCh Hz (.sk <| .sk <| .sk <| .sk <| .sk <| .pickT rfl rfl <| .move rfl <| .sk <| .sk <| .sk <| .sk <| .sk <| .pickT rfl rfl <| .move rfl <| .sk <| .sk <| .sk <| .sk <| .sk <| .pickT rfl rfl <| .move rfl <| .sk <| .sk <| .sk <| .sk <| .sk <| .sk <| .pickT rfl rfl <| .nil) ?_
 clear Hz Az; intro Az Hz
 refine nl (hK5 _ _ ?_); clear hK5
 refine wp_cond_true (Hz.ev (x := .tmp 58) rfl) ?_
 replace Hz : Has 100 [(0, _), (3, _), (4, _), (5, _)] Az := Hz.only [0, 3, 4, 5]
 refine regS Hz (.assign rfl <| .nil) ?_
 clear Hz Az; intro Az Hz
 refine wp_ret ?_
 try dsimp only [Exit.then, Exit.inBlock]
 refine (ret1 (fn := Try.f16) Hz rfl rfl ?_)
 exact ⟨by first | rfl | (simp; done), m27.below⟩
theorem done_yes (cs : List RC) (pc : Option Addr) (cc : Nat) (w0 : World) (h1 : Rd (fun _ => True) w0 (.slice pc cs.length cc) (.l 10 (cs.map cmdD))) (hl : cs.length ≤ 1000000) (vo bl sz pe ne fl : Int) (pl : List Int) (T n : Nat) (its : List (Int × List Int)) (pp pn pw : Option Addr) (cp nn9 cn9 cw : Nat) (hcl : cs.length = T + 2) (hT2 : T ≤ 1000) (hc0 : cs[0]? = some ⟨1, vo, bl, sz, pe, pl, (T : Int), 0, 0, []⟩) (hci : ∀ i, i < T → cs[i + 1]? = some (impR vo its n i)) (hwk : ∀ k, k < T → (wsP its n T)[k]? = some ((k : Int) + 1, chunkI its n k)) (hil : ∀ k, k < T → (chunkI its n k).length ≤ 1000000) (hpl : pl.length ≤ 1000000) (hp : Rd (fun _ => True) w0 (.slice pp pl.length cp) (.ns .i64 pl)) (hw : Rd (fun _ => True) w0 (.slice pw T cw) (.l 2 ((wsP its n T).map wrD))) :
   Calls Try.prog 16 #[.slice pc cs.length cc, .agg #[.int .i64 vo, .int .i64 bl, .int .i64 sz, .int .i64 pe, .slice pp pl.length cp, .int .i64 (T : Int), .int .i64 ne, .bool false, .int .i64 fl, .slice pn nn9 cn9, .slice pw T cw]] w0 fun e w' => e = .returned (.bool true) ∧ Below w0.heap.size w0 w' := by
 refine ent2 Try.func16 rfl Try.ntmps16 fun Az Hz => ?_
 have m0 := MemOk.start (fun _ => False) w0
 have hcap : cs.length ≤ cc := by obtain ⟨pq, cq, hv, hcap⟩ := h1.l_shape; injection hv with _ _ e3; rw [List.length_map] at hcap; omega
 have h2 := h1.dropL 1 (by rw [List.length_map]; omega)
 have h3 := h2.takeL T (by rw [List.length_drop, List.length_map]; omega)
 have hrow : ∀ k, k < T → (((cs.map cmdD).drop 1).take T)[k]? = some [.v (.int .i64 (impR vo its n k).kd), .v (.int .i64 (impR vo its n k).vo), .v (.int .i64 (impR vo its n k).bl), .v (.int .i64 (impR vo its n k).sz), .v (.int .i64 (impR vo its n k).pe), .ns .i64 (impR vo its n k).pl, .v (.int .i64 (impR vo its n k).to), .v (.int .i64 (impR vo its n k).at0), .v (.int .i64 (impR vo its n k).ix), .l 2 ((impR vo its n k).its.map itD)] := fun k hk => by
   rw [List.getElem?_take, if_pos hk, List.getElem?_drop, Nat.add_comm]; exact cmdD_get (hci k hk)
 obtain ⟨pd, hpd⟩ : ∃ x, (if cc = 1 then pc else pc.map (·.add (1 * 10))) = x := ⟨_, rfl⟩
 rw [hpd] at h3
 refine sr fun K0 hK0 => ?_
 refine wpList_plain rfl (fun K hK => ?_)
 refine e_box Hz m0 70 (cs := [_, _, _, _, _, _, _, _, _, _, _]) rfl rfl rfl ?_
 clear Hz Az m0; intro g1 Az w2 Hz m2 hB2 hg2
 clear hB2 hg2
 refine hK _ _ ?_; clear hK
 refine goCh Hz (.assign rfl .nil) ?_
 clear Hz Az; intro Az Hz
 refine nl (hK0 _ _ ?_); clear hK0
 refine wp_seq_k (fun K1 hK1 => ?_)
 refine sr fun K2 hK2 => ?_
 refine goCh Hz (.move rfl <| .len rfl U31 <| .eql rfl rfl <| .move rfl <| .nil) ?_
 clear Hz Az; intro Az Hz
 refine bool_cases Hz (t := 11) rfl ?_ ?_
 · intro hb _; exact absurd hb (by first | (simp; done) | (simp; omega) | (rw [decide_eq_true_eq]; omega))
 clear Hz; intro _ Hz
 refine goCh Hz (.faZ 7 rfl U49 <| .loadB1Z m2 (i := 70) rfl rfl rfl U4 rfl <| .pickF rfl rfl <| .nil) ?_
 clear Hz Az; intro Az Hz
 refine nl (hK2 _ _ ?_); clear hK2
 refine wp_cond_false (Hz.ev (x := .tmp 14) rfl) ?_
 refine ss (hK1 _ _ ?_); clear hK1
 replace Hz : Has 100 [(0, _), (3, _), (4, _)] Az := Hz.only [0, 3, 4]
 refine sr fun K3 hK3 => ?_
 refine goCh Hz (.move rfl .nil) ?_
 clear Hz Az; intro Az Hz
 obtain ⟨gx20, ox20, vx20, hp20, hl20, hR20, hrg20⟩ := h1.extA (0) (r := [.v (.int .i64 1), .v (.int .i64 vo), .v (.int .i64 bl), .v (.int .i64 sz), .v (.int .i64 pe), .ns .i64 pl, .v (.int .i64 (T : Int)), .v (.int .i64 0), .v (.int .i64 0), .l 2 []]) (cmdD_get hc0)
 cases hp20; clear hl20
 rcases hR20 with _ | ⟨hd20_0, _ | ⟨hd20_1, _ | ⟨hd20_2, _ | ⟨hd20_3, _ | ⟨hd20_4, _ | ⟨hd20_5, _ | ⟨hd20_6, _ | ⟨hd20_7, _ | ⟨hd20_8, _ | ⟨hd20_9, _ | _⟩⟩⟩⟩⟩⟩⟩⟩⟩⟩
 obtain rfl := hd20_0.v_out
 clear hd20_0
 obtain rfl := hd20_1.v_out
 clear hd20_1
 obtain rfl := hd20_2.v_out
 clear hd20_2
 obtain rfl := hd20_3.v_out
 clear hd20_3
 obtain rfl := hd20_4.v_out
 clear hd20_4
 obtain ⟨p21, c21, hv21, hw21⟩ := hd20_5.ns_shape; subst hv21
 obtain rfl := hd20_6.v_out
 clear hd20_6
 obtain rfl := hd20_7.v_out
 clear hd20_7
 obtain rfl := hd20_8.v_out
 clear hd20_8
 obtain ⟨p22, c22, hv22, hw22⟩ := hd20_9.l_shape; subst hv22
 refine goCh Hz (.c rfl (fun _ h => y_idx h rfl rfl U31 fct3 (0) rfl (show 0 < cs.length by omega)) <| .loadAt (hrg20 m2 rfl) rfl U57 rfl fct3 <| .nil) ?_
 clear Hz Az; intro Az Hz
 refine wpList_plain rfl (fun K hK => ?_)
 refine e_alloc Hz m2 73 fct17 rfl ?_
 clear Hz Az m2; intro g25 Az w26 Hz m26 hB26 hg26
 clear hB26 hg26
 refine hK _ _ ?_; clear hK
 refine wpList_plain rfl (fun K hK => ?_)
 refine e_storeW Hz m26 73 rfl rfl rfl rfl rfl fct3 ?_
 clear m26; intro w27 m27 hB27
 clear hB27
 refine hK _ _ ?_; clear hK
 refine nl (hK3 _ _ ?_); clear hK3
 refine wp_seq_k (fun K4 hK4 => ?_)
 refine sr fun K5 hK5 => ?_
 refine goCh Hz (.fa 1 rfl U57 <| .lb m27 73 U3 rfl rfl rfl <| .fa 0 rfl U49 <| .lb m27 70 U3 rfl rfl rfl <| .neq rfl rfl <| .move rfl <| .nil) ?_
 clear Hz Az; intro Az Hz
 refine bool_cases Hz (t := 23) rfl ?_ ?_
 · intro hb _; exact absurd hb (by first | (simp; done) | (simp; omega) | (rw [decide_eq_true_eq]; omega))
 clear Hz; intro _ Hz
 refine goCh Hz (.faZ 2 rfl U57 <| .loadB1Z m27 (i := 73) rfl rfl rfl U3 rfl <| .faZ 1 rfl U49 <| .loadB1Z m27 (i := 70) rfl rfl rfl U3 rfl <| .neqZ rfl rfl <| .pickF rfl rfl <| .move rfl <| .nil) ?_
 clear Hz Az; intro Az Hz
 refine bool_cases Hz (t := 30) rfl ?_ ?_
 · intro hb _; exact absurd hb (by first | (simp; done) | (simp; omega) | (rw [decide_eq_true_eq]; omega))
 clear Hz; intro _ Hz
 refine goCh Hz (.faZ 3 rfl U57 <| .loadB1Z m27 (i := 73) rfl rfl rfl U3 rfl <| .faZ 2 rfl U49 <| .loadB1Z m27 (i := 70) rfl rfl rfl U3 rfl <| .neqZ rfl rfl <| .pickF rfl rfl <| .move rfl <| .nil) ?_
 clear Hz Az; intro Az Hz
 refine bool_cases Hz (t := 37) rfl ?_ ?_
 · intro hb _; exact absurd hb (by first | (simp; done) | (simp; omega) | (rw [decide_eq_true_eq]; omega))
 clear Hz; intro _ Hz
 refine goCh Hz (.faZ 4 rfl U57 <| .loadB1Z m27 (i := 73) rfl rfl rfl U3 rfl <| .faZ 3 rfl U49 <| .loadB1Z m27 (i := 70) rfl rfl rfl U3 rfl <| .neqZ rfl rfl <| .pickF rfl rfl <| .move rfl <| .nil) ?_
 clear Hz Az; intro Az Hz
 refine bool_cases Hz (t := 44) rfl ?_ ?_
 · intro hb _; exact absurd hb (by first | (simp; done) | (simp; omega) | (rw [decide_eq_true_eq]; omega))
 clear Hz; intro _ Hz
 refine goCh Hz (.faZ 6 rfl U57 <| .loadB1Z m27 (i := 73) rfl rfl rfl U3 rfl <| .faZ 5 rfl U49 <| .loadB1Z m27 (i := 70) rfl rfl rfl U3 rfl <| .neqZ rfl rfl <| .pickF rfl rfl <| .move rfl <| .nil) ?_
 clear Hz Az; intro Az Hz
 refine bool_cases Hz (t := 51) rfl ?_ ?_
 · intro hb _; exact absurd hb (by first | (simp; done) | (simp; omega) | (rw [decide_eq_true_eq]; omega))
 clear Hz; intro _ Hz
 refine goCh Hz (.faZ 5 rfl U57 <| .loadB1Z m27 (i := 73) rfl rfl rfl U26 rfl <| .faZ 4 rfl U49 <| .loadB1Z m27 (i := 70) rfl rfl rfl U26 rfl <| .nil) ?_
 clear Hz Az; intro Az Hz
 refine st_ge Hz rfl rfl rfl rfl (fun K hK => ?_)
 refine e_call Hz Try.func35 rfl rfl rfl rfl (seq_any pl _ _ _ _ _ hpl ((hd20_5.now' m27 rfl).any) ((hp.now' m27 rfl).any)) ?_
 rintro e w77 ⟨rfl, hb77⟩
 have m78 := m27.later hb77
 clear m27
 clear hb77
 refine ⟨_, rfl, ?_⟩; clear Hz Az; intro Az Hz
 refine hK _ _ ?_; clear hK
 refine goCh Hz (.notZ rfl <| .pickF rfl rfl <| .nil) ?_
 clear Hz Az; intro Az Hz
 refine nl (hK5 _ _ ?_); clear hK5
 refine wp_cond_false (Hz.ev (x := .tmp 58) rfl) ?_
 refine ss (hK4 _ _ ?_); clear hK4
 refine wp_seq_k (fun K6 hK6 => ?_)
 replace Hz : Has 100 [(0, _), (3, _), (4, _), (5, _)] Az := Hz.only [0, 3, 4, 5]
 refine sr fun K7 hK7 => ?_
 refine goCh Hz (.fa 6 rfl U57 <| .lb m78 73 U3 rfl rfl rfl <| .lss rfl rfl <| .move rfl <| .nil) ?_
 clear Hz Az; intro Az Hz
 refine bool_cases Hz (t := 62) rfl ?_ ?_
 · intro hb _; exact absurd hb (by first | (simp; done) | (simp; omega) | (rw [decide_eq_true_eq]; omega))
 clear Hz; intro _ Hz
 refine goCh Hz (.faZ 6 rfl U57 <| .loadB1Z m78 (i := 73) rfl rfl rfl U3 rfl <| .faZ 10 rfl U49 <| .loadB1Z m78 (i := 70) rfl rfl rfl U47 rfl <| .lenZ rfl U47 <| .gtrZ rfl rfl <| .pickF rfl rfl <| .move rfl <| .nil) ?_
 clear Hz Az; intro Az Hz
 refine bool_cases Hz (t := 70) rfl ?_ ?_
 · intro hb _; exact absurd hb (by first | (simp; done) | (simp; omega) | (rw [decide_eq_true_eq]; omega))
 clear Hz; intro _ Hz
 refine goCh Hz (.faZ 6 rfl U57 <| .loadB1Z m78 (i := 73) rfl rfl rfl U3 rfl <| .moveZ rfl <| .lenZ rfl U31 <| .subZ rfl rfl (r := (cs.length : Int) - 1) (IntWalk.i64_in _ (by omega)) <| .gtrZ rfl rfl <| .pickF rfl rfl <| .nil) ?_
 clear Hz Az; intro Az Hz
 refine nl (hK7 _ _ ?_); clear hK7
 refine bool_cases Hz (t := 77) rfl ?_ ?_
 · intro hb _; exact absurd hb (by first | (simp; done) | (simp; omega) | (rw [decide_eq_true_eq]; omega))
 clear Hz; intro _ Hz
 refine wp_cond_false (Hz.ev (x := .tmp 77) rfl) ?_
 refine ss (hK6 _ _ ?_); clear hK6
 refine wp_seq_k (fun K8 hK8 => ?_)
 refine wp_seq_k (fun K9 hK9 => ?_)
 replace Hz : Has 100 [(0, _), (3, _), (4, _), (5, _)] Az := Hz.only [0, 3, 4, 5]
 have m110 : MemOk _ _ [(70, _), (73, _)] _ := m78.only [70, 73]; clear m78
 refine region_p 7 (B := [(70, _), (73, _)]) (m110.to ⟨il, il, trivial⟩) m110 (by kernel_rfl) (fun w111 hP111 m111 => ?_); clear m110
 refine goR hP111 [0, 1, 2, 3, 4, 5, 6] [3] 7 0 127 Hz (m111.to ⟨il, il, trivial⟩) (.move rfl <| .p (fun _ _ h => y_sliceLn h 1 rfl rfl U31 fct3 rfl (by omega)) <| .fa 6 rfl U57 <| .lb hh 73 U3 rfl rfl rfl <| .p (fun _ _ h => y_sliceHn h T rfl rfl U31 fct3 rfl (by omega)) <| .len rfl U31 <| .move rfl <| .nil) ?_
 clear Hz Az; intro Az Hz
 refine wpAnyE_done (by kernel_rfl) ?_ _
 refine hK9 _ _ ?_; clear hK9
 refine wp_block ?_
 rw [hpd] at Hz
 refine wp_loop_ghost (fun g a w => ∃ (k B3 : Nat), k ≤ T ∧ g = T - k ∧ Has 100 [(3, .pointer (some ⟨B3, 0, none⟩)), (82, .slice pd T (cc - 1)), (83, .int .i64 (T : Int)), (84, .int .i64 (k : Int))] a ∧ MemOk (cn w0) w0 [(9, .box B3 49 [.int .i64 vo, .int .i64 bl, .int .i64 sz, .int .i64 pe, .slice pp pl.length cp, .int .i64 (T : Int), .int .i64 ne, .bool false, .int .i64 fl, .slice pn nn9 cn9, .slice pw T cw])] w) (T) ?_ ?_
 · exact ⟨0, _, Nat.zero_le _, rfl, Hz.only [3, 82, 83, 84], m111.ren [(9, 70)] (by decide)⟩
 clear Hz m111
 rintro g Az w119 ⟨k, B3, hkl, hg, Hz, m119⟩
 refine regS Hz (.lss rfl rfl <| .nil) ?_
 clear Hz Az; intro Az Hz
 refine wp_seq_k (fun K10 hK10 => ?_)
 refine bool_cases Hz (t := 85) rfl ?_ ?_
 ·
  clear Hz; intro hb121 Hz; try simp only [QQ, Qax] at hb121
  have hk : k < T := by have := hb121; first | omega | (simp at this; omega)
  refine wp_cond_true (Hz.ev (x := .tmp 85) rfl) ?_
  refine ss (hK10 _ _ ?_); clear hK10
  refine wp_seq_k (fun K11 hK11 => ?_)
  refine wp_block ?_
  refine sr fun K12 hK12 => ?_
  refine goCh Hz (.move rfl .nil) ?_
  clear Hz Az; intro Az Hz
  obtain ⟨gx125, ox125, vx125, hp125, hl125, hR125, hrg125⟩ := h3.extA (k) (r := [.v (.int .i64 (impR vo its n k).kd), .v (.int .i64 (impR vo its n k).vo), .v (.int .i64 (impR vo its n k).bl), .v (.int .i64 (impR vo its n k).sz), .v (.int .i64 (impR vo its n k).pe), .ns .i64 (impR vo its n k).pl, .v (.int .i64 (impR vo its n k).to), .v (.int .i64 (impR vo its n k).at0), .v (.int .i64 (impR vo its n k).ix), .l 2 ((impR vo its n k).its.map itD)]) (hrow k hk)
  cases hp125; clear hl125
  rcases hR125 with _ | ⟨hd125_0, _ | ⟨hd125_1, _ | ⟨hd125_2, _ | ⟨hd125_3, _ | ⟨hd125_4, _ | ⟨hd125_5, _ | ⟨hd125_6, _ | ⟨hd125_7, _ | ⟨hd125_8, _ | ⟨hd125_9, _ | _⟩⟩⟩⟩⟩⟩⟩⟩⟩⟩
  obtain rfl := hd125_0.v_out
  clear hd125_0
  obtain rfl := hd125_1.v_out
  clear hd125_1
  obtain rfl := hd125_2.v_out
  clear hd125_2
  obtain rfl := hd125_3.v_out
  clear hd125_3
  obtain rfl := hd125_4.v_out
  clear hd125_4
  obtain ⟨p126, c126, hv126, hw126⟩ := hd125_5.ns_shape; subst hv126
  obtain rfl := hd125_6.v_out
  clear hd125_6
  obtain rfl := hd125_7.v_out
  clear hd125_7
  obtain rfl := hd125_8.v_out
  clear hd125_8
  obtain ⟨p127, c127, hv127, hw127⟩ := hd125_9.l_shape; subst hv127
  refine goCh Hz (.c rfl (fun _ h => y_idx h rfl rfl U31 fct3 (k) rfl hk) <| .loadAt (hrg125 m119 rfl) rfl U57 rfl fct3 <| .nil) ?_
  clear Hz Az; intro Az Hz
  refine wpList_plain rfl (fun K hK => ?_)
  refine e_alloc Hz m119 102 fct17 rfl ?_
  clear Hz Az m119; intro g130 Az w131 Hz m131 hB131 hg131
  clear hB131 hg131
  refine hK _ _ ?_; clear hK
  refine goCh Hz (.assign rfl .nil) ?_
  clear Hz Az; intro Az Hz
  refine wpList_plain rfl (fun K hK => ?_)
  refine e_storeW Hz m131 102 rfl rfl rfl rfl rfl fct3 ?_
  clear m131; intro w133 m133 hB133
  clear hB133
  refine hK _ _ ?_; clear hK
  refine nl (hK12 _ _ ?_); clear hK12
  refine wp_seq_k (fun K13 hK13 => ?_)
  obtain ⟨gx135, ox135, vx135, hp135, hl135, hR135, hrg135⟩ := hw.extA (k) (r := [.v (.int .i64 ((k : Int) + 1)), .l 2 ((chunkI its n k).map itD)]) (wrD_get (hwk k hk))
  cases hp135; clear hl135
  rcases hR135 with _ | ⟨hd135_0, _ | ⟨hd135_1, _ | _⟩⟩
  obtain rfl := hd135_0.v_out
  clear hd135_0
  obtain ⟨p136, c136, hv136, hw136⟩ := hd135_1.l_shape; subst hv136
  have m137 : MemOk _ _ [(9, _), (102, _)] _ := m133.only [9, 102]; clear m133
  refine region_p 10 (B := [(9, _), (102, _)]) (m137.to ⟨il, il, trivial⟩) m137 (by kernel_rfl) (fun w138 hP138 m138 => ?_); clear m137
  refine goR hP138 [0, 1, 2, 3, 4, 5, 6, 7] [1, 3, 7] 8 0 255 Hz (m138.to ⟨il, il, trivial⟩) (.fa 9 rfl U57 <| .lb hh 102 U22 rfl rfl rfl <| .fa 10 rfl U49 <| .lb hh 9 U47 rfl rfl rfl <| .move rfl <| .p (fun _ _ h => y_idx h rfl rfl U47 fct30 (k) rfl hk) <| .fieldAddrQ 1 rfl U86 rfl (s := 0) (by kernel_rfl) rfl <| .loadAt1 (fun _ h => (hrg135 h rfl)) (q := 1) rfl rfl rfl U22 rfl <| .nil) ?_
  clear Hz Az; intro Az Hz
  refine stepE_only 8 rfl (by kernel_rfl) rfl (fun K hK => ?_)
  refine e_call Hz Try.func36 rfl rfl rfl rfl (psi_any (chunkI its n k) _ _ _ _ _ _ _ ((hd125_9.now' m138 rfl).any) ((hd135_1.now' m138 rfl).any) (hil k hk)) ?_
  rintro e w147 ⟨rfl, hb147⟩
  have m148 := m138.later hb147
  clear m138
  clear hb147
  refine ⟨_, rfl, ?_⟩; clear Hz Az; intro Az Hz
  refine hK _ _ (m148.to ⟨il, il, trivial⟩) ?_; clear hK K
  refine goA hP138 [9] 1 511 1023 Hz (m148.to ⟨il, il, trivial⟩) (.not rfl <| .nil) ?_
  clear Hz Az; intro Az Hz
  refine wpAnyE_done (by kernel_rfl) ?_ _
  refine hK13 _ _ ?_; clear hK13
  refine wp_cond_false (Hz.ev (x := .tmp 98) rfl) ?_
  refine ss (hK11 _ _ ?_); clear hK11
  replace Hz : Has 100 [(3, _), (82, _), (83, _), (84, _)] Az := Hz.only [3, 82, 83, 84]
  refine wp_region_lit ?_
  refine goCh Hz (.add rfl rfl (r := ((k + 1 : Nat) : Int)) (by rw [IntWalk.i64_in _ (by omega)]; omega) <| .move rfl <| .nil) ?_
  clear Hz Az; intro Az Hz
  refine wpList_nil ?_
  show ∃ n', n' < _ ∧ _
  exact ⟨T - (k + 1), by omega, k + 1, _, by omega, rfl, Hz.only [3, 82, 83, 84], m148.ren [(9, 9)] (by decide)⟩
 clear Hz; intro hb121 Hz; try simp only [QQ, Qax] at hb121
 obtain rfl : k = T := by have := hb121; first | omega | (simp at this; omega)
 refine wp_cond_false (Hz.ev (x := .tmp 85) rfl) ?_
 refine wp_exit ?_
 refine hK8 _ _ ?_; clear hK8
 refine regS Hz (.assign rfl <| .nil) ?_
 clear Hz Az; intro Az Hz
 refine wp_ret ?_
 try dsimp only [Exit.then, Exit.inBlock]
 refine (ret1 (fn := Try.f16) Hz rfl rfl ?_)
 exact ⟨by first | rfl | (simp; done), m119.below⟩
theorem rrest_no (X : Cx) (cs : List RC) (pc : Option Addr) (cc : Nat) (w0 : World) (vo bl sz pe to ne fl : Int) (pp pn pw : Option Addr) (np cp nn cn nw cw : Nat) (hi : Bool) (m0 : MemOk X w0 [(3, .dat (.slice pc cs.length cc) (.l 10 (cs.map cmdD)))] w0) :
   Calls Try.prog 15 #[.slice pc cs.length cc, .agg #[.int .i64 vo, .int .i64 bl, .int .i64 sz, .int .i64 pe, .slice pp np cp, .int .i64 to, .int .i64 ne, .bool hi, .int .i64 fl, .slice pn nn cn, .slice pw nw cw], .bool false] w0 fun e w' => ∃ (p : Option Addr) (c : Nat), e = .returned (.slice p cs.length c) ∧ MemOk X w0 [(3, .dat (.slice pc cs.length cc) (.l 10 (cs.map cmdD))), (9, .dat (.slice p cs.length c) (.l 10 (cs.map cmdD)))] w' := by
 refine ent3 Try.func15 rfl Try.ntmps15 fun Az Hz => ?_
 refine sr fun K0 hK0 => ?_
 refine wpList_plain rfl (fun K hK => ?_)
 refine e_box Hz m0 70 (cs := [_, _, _, _, _, _, _, _, _, _, _]) rfl rfl rfl ?_
 clear Hz Az m0; intro g1 Az w2 Hz m2 hB2 hg2
 clear hB2 hg2
 refine hK _ _ ?_; clear hK
 refine goCh Hz (.assign rfl .nil) ?_
 clear Hz Az; intro Az Hz
 refine nl (hK0 _ _ ?_); clear hK0
 refine wp_seq_k (fun K1 hK1 => ?_)
 refine regS Hz (.move rfl <| .not rfl <| .nil) ?_
 clear Hz Az; intro Az Hz
 refine wp_cond_true (Hz.ev (x := .tmp 8) rfl) ?_
 refine regS Hz (.move rfl <| .assign rfl <| .nil) ?_
 clear Hz Az; intro Az Hz
 refine wp_ret ?_
 try dsimp only [Exit.then, Exit.inBlock]
 refine (ret1 (fn := Try.f15) Hz rfl rfl ?_)
 have m8 := m2.dat 9 rfl (m2.rd (i := 3) rfl)
 exact ⟨_, _, rfl, m8.ren [(3, 3), (9, 9)] (by decide)⟩
theorem rrest_hid (X : Cx) (cs : List RC) (pc : Option Addr) (cc : Nat) (w0 : World) (hl : cs.length ≤ 1000000) (vo bl sz pe to ne fl : Int) (pp pn pw : Option Addr) (np cp nn cn nw cw : Nat) (J : Nat) (hJ : 1 ≤ J) (hJ2 : J + 1 ≤ cs.length) (hne : ne = (J : Int) - 1) (hcap : cs.length ≤ cc) (m0 : MemOk X w0 [(3, .dat (.slice pc cs.length cc) (.l 10 (cs.map cmdD)))] w0) :
   Calls Try.prog 15 #[.slice pc cs.length cc, .agg #[.int .i64 vo, .int .i64 bl, .int .i64 sz, .int .i64 pe, .slice pp np cp, .int .i64 to, .int .i64 ne, .bool true, .int .i64 fl, .slice pn nn cn, .slice pw nw cw], .bool true] w0 fun e w' => ∃ (p : Option Addr) (c : Nat), e = .returned (.slice p (cs.drop J).length c) ∧ MemOk X w0 [(3, .dat (.slice pc cs.length cc) (.l 10 (cs.map cmdD))), (9, .dat (.slice p (cs.drop J).length c) (.l 10 ((cs.drop J).map cmdD)))] w' := by
 refine ent3 Try.func15 rfl Try.ntmps15 fun Az Hz => ?_
 refine sr fun K0 hK0 => ?_
 refine wpList_plain rfl (fun K hK => ?_)
 refine e_box Hz m0 70 (cs := [_, _, _, _, _, _, _, _, _, _, _]) rfl rfl rfl ?_
 clear Hz Az m0; intro g1 Az w2 Hz m2 hB2 hg2
 clear hB2 hg2
 refine hK _ _ ?_; clear hK
 refine goCh Hz (.assign rfl .nil) ?_
 clear Hz Az; intro Az Hz
 refine nl (hK0 _ _ ?_); clear hK0
 refine wp_seq_k (fun K1 hK1 => ?_)
 refine regS Hz (.move rfl <| .not rfl <| .nil) ?_
 clear Hz Az; intro Az Hz
 refine wp_cond_false (Hz.ev (x := .tmp 8) rfl) ?_
 refine ss (hK1 _ _ ?_); clear hK1
 refine wp_seq_k (fun K2 hK2 => ?_)
 refine regS Hz (.fa 7 rfl U49 <| .lb m2 70 U4 rfl rfl rfl <| .not rfl <| .move rfl <| .moveZ rfl <| .lenZ rfl U31 <| .eqlZ rfl rfl <| .pickF rfl rfl <| .nil) ?_
 clear Hz Az; intro Az Hz
 refine bool_cases Hz (t := 17) rfl ?_ ?_
 · intro hb _; exact absurd hb (by first | (simp; done) | (simp; omega) | (rw [decide_eq_true_eq]; omega))
 clear Hz; intro _ Hz
 refine wp_cond_false (Hz.ev (x := .tmp 17) rfl) ?_
 refine ss (hK2 _ _ ?_); clear hK2
 replace Hz : Has 28 [(0, _), (4, _), (6, _)] Az := Hz.only [0, 4, 6]
 refine sr fun K3 hK3 => ?_
 refine goCh Hz (.move rfl <| .fa 6 rfl U49 <| .lb m2 70 U3 rfl rfl rfl <| .c rfl (fun _ h => y_max h rfl rfl (r := (J : Int) - 1) (by omega)) <| .add rfl rfl (r := (J : Int)) (by rw [IntWalk.i64_in _ (by omega)]; omega) <| .move rfl <| .len rfl U31 <| .sub rfl rfl (r := (cs.length : Int) - 1) (IntWalk.i64_in _ (by omega)) <| .c rfl (fun _ h => y_min h rfl rfl (r := (J : Int)) (by omega)) <| .nil) ?_
 clear Hz Az; intro Az Hz
 have m35 := m2.dropR (i := 3) rfl J (by rw [List.length_map]; omega) 9 rfl; clear m2
 refine goCh Hz (.c rfl (fun _ h => y_sliceLn h J rfl rfl U31 fct3 rfl (by omega)) <| .assign rfl <| .nil) ?_
 clear Hz Az; intro Az Hz
 refine nl (hK3 _ _ ?_); clear hK3
 refine wp_ret ?_
 try dsimp only [Exit.then, Exit.inBlock]
 refine (ret1 (fn := Try.f15) Hz rfl rfl ?_)
 have hdl : cs.length - J = (cs.drop J).length := by rw [List.length_drop]
 rw [hdl, ← List.map_drop] at m35
 rw [hdl]
 exact ⟨_, _, rfl, m35.ren [(3, 3), (9, 9)] (by decide)⟩
theorem rrest_pub (X : Cx) (cs : List RC) (pc : Option Addr) (cc : Nat) (w0 : World) (vo bl sz pe to ne fl : Int) (pp pn pw : Option Addr) (np cp nn cn nw cw : Nat) (m0 : MemOk X w0 [(3, .dat (.slice pc cs.length cc) (.l 10 (cs.map cmdD)))] w0) :
   Calls Try.prog 15 #[.slice pc cs.length cc, .agg #[.int .i64 vo, .int .i64 bl, .int .i64 sz, .int .i64 pe, .slice pp np cp, .int .i64 to, .int .i64 ne, .bool false, .int .i64 fl, .slice pn nn cn, .slice pw nw cw], .bool true] w0 fun e w' => ∃ (p : Option Addr) (c : Nat), e = .returned (.slice p ([] : List RC).length c) ∧ MemOk X w0 [(3, .dat (.slice pc cs.length cc) (.l 10 (cs.map cmdD))), (9, .dat (.slice p ([] : List RC).length c) (.l 10 (([] : List RC).map cmdD)))] w' := by
 refine ent3 Try.func15 rfl Try.ntmps15 fun Az Hz => ?_
 refine sr fun K0 hK0 => ?_
 refine wpList_plain rfl (fun K hK => ?_)
 refine e_box Hz m0 70 (cs := [_, _, _, _, _, _, _, _, _, _, _]) rfl rfl rfl ?_
 clear Hz Az m0; intro g1 Az w2 Hz m2 hB2 hg2
 clear hB2 hg2
 refine hK _ _ ?_; clear hK
 refine goCh Hz (.assign rfl .nil) ?_
 clear Hz Az; intro Az Hz
 refine nl (hK0 _ _ ?_); clear hK0
 refine wp_seq_k (fun K1 hK1 => ?_)
 refine regS Hz (.move rfl <| .not rfl <| .nil) ?_
 clear Hz Az; intro Az Hz
 refine wp_cond_false (Hz.ev (x := .tmp 8) rfl) ?_
 refine ss (hK1 _ _ ?_); clear hK1
 refine wp_seq_k (fun K2 hK2 => ?_)
 refine regS Hz (.fa 7 rfl U49 <| .lb m2 70 U4 rfl rfl rfl <| .not rfl <| .move rfl <| .sk <| .sk <| .sk <| .pickT rfl rfl <| .nil) ?_
 clear Hz Az; intro Az Hz
 refine wp_cond_true (Hz.ev (x := .tmp 17) rfl) ?_
 replace Hz : Has 28 [(0, _), (4, _), (6, _)] Az := Hz.only [0, 4, 6]
 refine regS Hz (.assign rfl <| .nil) ?_
 clear Hz Az; intro Az Hz
 refine wp_ret ?_
 try dsimp only [Exit.then, Exit.inBlock]
 refine (ret1 (fn := Try.f15) Hz rfl rfl ?_)
 have m16 := m2.dat 9 rfl (Rd.l0 none 0 10)
 exact ⟨_, _, rfl, m16.ren [(3, 3), (9, 9)] (by decide)⟩
theorem rest_pub (cs : List RC) (pc : Option Addr) (cc : Nat) (w0 : World) (h1 : Rd (fun _ => True) w0 (.slice pc cs.length cc) (.l 10 (cs.map cmdD))) (hl : cs.length ≤ 1000000) (vo bl sz pe to ne fl : Int) (pp pn pw : Option Addr) (np cp nn cn nw cw : Nat) :
   Calls Try.prog 14 #[.slice pc cs.length cc, .agg #[.int .i64 vo, .int .i64 bl, .int .i64 sz, .int .i64 pe, .slice pp np cp, .int .i64 to, .int .i64 ne, .bool false, .int .i64 fl, .slice pn nn cn, .slice pw nw cw], .bool true] w0 fun e w' => e = .returned (.slice none 0 0) ∧ Below w0.heap.size w0 w' := by
 refine ent3 Try.func14 rfl Try.ntmps14 fun Az Hz => ?_
 have m0 := MemOk.start (fun _ => False) w0
 refine sr fun K0 hK0 => ?_
 refine wpList_plain rfl (fun K hK => ?_)
 refine e_box Hz m0 70 (cs := [_, _, _, _, _, _, _, _, _, _, _]) rfl rfl rfl ?_
 clear Hz Az m0; intro g1 Az w2 Hz m2 hB2 hg2
 clear hB2 hg2
 refine hK _ _ ?_; clear hK
 refine goCh Hz (.assign rfl .nil) ?_
 clear Hz Az; intro Az Hz
 refine nl (hK0 _ _ ?_); clear hK0
 refine wp_seq_k (fun K1 hK1 => ?_)
 refine regS Hz (.move rfl <| .not rfl <| .nil) ?_
 clear Hz Az; intro Az Hz
 refine wp_cond_false (Hz.ev (x := .tmp 9) rfl) ?_
 refine ss (hK1 _ _ ?_); clear hK1
 refine wp_seq_k (fun K2 hK2 => ?_)
 refine regS Hz (.fa 7 rfl U49 <| .lb m2 70 U4 rfl rfl rfl <| .not rfl <| .move rfl <| .sk <| .sk <| .sk <| .pickT rfl rfl <| .nil) ?_
 clear Hz Az; intro Az Hz
 refine wp_cond_true (Hz.ev (x := .tmp 19) rfl) ?_
 replace Hz : Has 33 [(0, _), (4, _), (6, _)] Az := Hz.only [0, 4, 6]
 refine regS Hz (.assign rfl <| .nil) ?_
 clear Hz Az; intro Az Hz
 refine wp_ret ?_
 try dsimp only [Exit.then, Exit.inBlock]
 refine (ret1 (fn := Try.f14) Hz rfl rfl ?_)
 exact ⟨rfl, m2.below⟩
theorem rdone_hid (cs : List RC) (pc : Option Addr) (cc : Nat) (w0 : World) (h1 : Rd (fun _ => True) w0 (.slice pc cs.length cc) (.l 10 (cs.map cmdD))) (hl : cs.length ≤ 1000000) (hl2 : 2 ≤ cs.length) (vo bl sz pe to ne fl : Int) (pp pn pw : Option Addr) (np cp nn cn nw cw : Nat) :
   Calls Try.prog 17 #[.slice pc cs.length cc, .agg #[.int .i64 vo, .int .i64 bl, .int .i64 sz, .int .i64 pe, .slice pp np cp, .int .i64 to, .int .i64 ne, .bool true, .int .i64 fl, .slice pn nn cn, .slice pw nw cw]] w0 fun e w' => e = .returned (.bool false) ∧ Below w0.heap.size w0 w' := by
 refine ent2 Try.func17 rfl Try.ntmps17 fun Az Hz => ?_
 have m0 := MemOk.start (fun _ => False) w0
 refine sr fun K0 hK0 => ?_
 refine wpList_plain rfl (fun K hK => ?_)
 refine e_box Hz m0 70 (cs := [_, _, _, _, _, _, _, _, _, _, _]) rfl rfl rfl ?_
 clear Hz Az m0; intro g1 Az w2 Hz m2 hB2 hg2
 clear hB2 hg2
 refine hK _ _ ?_; clear hK
 refine goCh Hz (.assign rfl .nil) ?_
 clear Hz Az; intro Az Hz
 refine nl (hK0 _ _ ?_); clear hK0
 refine wp_seq_k (fun K1 hK1 => ?_)
 refine wp_seq_k (fun K2 hK2 => ?_)
 have m4 : MemOk _ _ [(70, _)] _ := m2.only [70]; clear m2
 refine region_p 46 (B := [(70, _)]) (m4.to ⟨il, trivial⟩) m4 (by kernel_rfl) (fun w5 hP5 m5 => ?_); clear m4
 refine goA hP5 [0, 1, 2, 3] 4 0 15 Hz (m5.to ⟨il, trivial⟩) (.move rfl <| .len rfl U31 <| .lss rfl rfl <| .move rfl <| .nil) ?_
 clear Hz Az; intro Az Hz
 refine bool_cases Hz (t := 9) rfl ?_ ?_
 · intro hb _; exact absurd hb (by first | (simp; done) | (simp; omega) | (rw [decide_eq_true_eq]; omega))
 clear Hz; intro _ Hz
 refine goR hP5 [4, 5, 6, 7, 8, 9, 10, 11, 12, 13, 14, 15, 16, 17, 18, 19, 20, 21, 22, 23, 24, 25, 26, 27, 28, 29, 30, 31, 32, 33, 34, 35, 36, 37, 38, 39, 40, 41, 42, 43, 44, 45] [5] 42 15 70368744177663 Hz (m5.to ⟨il, trivial⟩) (.fa 7 rfl U49 <| .lb hh 70 U4 rfl rfl rfl <| .pickF rfl rfl <| .move rfl <| .s <| .s <| .s <| .s <| .s <| .s <| .s <| .s <| .s <| .s <| .s <| .s <| .s <| .s <| .s <| .s <| .s <| .s <| .s <| .s <| .s <| .s <| .s <| .s <| .s <| .s <| .s <| .s <| .pickT rfl rfl <| .move rfl <| .s <| .s <| .s <| .s <| .s <| .s <| .s <| .pickT rfl rfl <| .nil) ?_
 clear Hz Az; intro Az Hz
 refine wpAnyE_done (by kernel_rfl) ?_ _
 refine hK2 _ _ ?_; clear hK2
 refine wp_cond_true (Hz.ev (x := .tmp 51) rfl) ?_
 replace Hz : Has 73 [(0, _), (3, _), (4, _)] Az := Hz.only [0, 3, 4]
 refine regS Hz (.assign rfl <| .nil) ?_
 clear Hz Az; intro Az Hz
 refine wp_ret ?_
 try dsimp only [Exit.then, Exit.inBlock]
 refine (ret1 (fn := Try.f17) Hz rfl rfl ?_)
 exact ⟨by first | rfl | (simp; done), m5.below⟩
theorem shape_bl (vo bl sz pe to ne fl : Int) (pp pn pw : Option Addr) (np cp nn cn nw cw : Nat) (vo2 bl2 sz2 pe2 to2 ne2 fl2 : Int) (pp2 pn2 pw2 : Option Addr) (np2 cp2 nn2 cn2 nw2 cw2 : Nat) (hi hi2 : Bool) (w0 : World) (hne : bl ≠ bl2) :
   Calls Try.prog 37 #[.agg #[.int .i64 vo, .int .i64 bl, .int .i64 sz, .int .i64 pe, .slice pp np cp, .int .i64 to, .int .i64 ne, .bool hi, .int .i64 fl, .slice pn nn cn, .slice pw nw cw], .agg #[.int .i64 vo2, .int .i64 bl2, .int .i64 sz2, .int .i64 pe2, .slice pp2 np2 cp2, .int .i64 to2, .int .i64 ne2, .bool hi2, .int .i64 fl2, .slice pn2 nn2 cn2, .slice pw2 nw2 cw2]] w0 fun e w' => e = .returned (.bool false) ∧ Below w0.heap.size w0 w' := by
 refine ent2 Try.func37 rfl Try.ntmps37 fun Az Hz => ?_
 have m0 := MemOk.start (fun _ => False) w0
 refine sr fun K0 hK0 => ?_
 refine wpList_plain rfl (fun K hK => ?_)
 refine e_box Hz m0 20 (cs := [_, _, _, _, _, _, _, _, _, _, _]) rfl rfl rfl ?_
 clear Hz Az m0; intro g1 Az w2 Hz m2 hB2 hg2
 clear hB2 hg2
 refine hK _ _ ?_; clear hK
 refine wpList_plain rfl (fun K hK => ?_)
 refine e_box Hz m2 21 (cs := [_, _, _, _, _, _, _, _, _, _, _]) rfl rfl rfl ?_
 clear Hz Az m2; intro g3 Az w4 Hz m4 hB4 hg4
 clear hB4 hg4
 refine hK _ _ ?_; clear hK
 refine goCh Hz (.assign rfl .nil) ?_
 clear Hz Az; intro Az Hz
 refine nl (hK0 _ _ ?_); clear hK0
 refine sr fun K1 hK1 => ?_
 refine goCh Hz (.fa 0 rfl U49 <| .lb m4 20 U3 rfl rfl rfl <| .fa 0 rfl U49 <| .lb m4 21 U3 rfl rfl rfl <| .eql rfl rfl <| .move rfl <| .nil) ?_
 clear Hz Az; intro Az Hz
 refine bool_cases Hz (t := 10) rfl ?_ ?_
 ·
  clear Hz; intro hb18 Hz; try simp only [QQ, Qax] at hb18
  refine goCh Hz (.faZ 1 rfl U49 <| .loadB1Z m4 (i := 20) rfl rfl rfl U3 rfl <| .faZ 1 rfl U49 <| .loadB1Z m4 (i := 21) rfl rfl rfl U3 rfl <| .eqlZ rfl rfl <| .pickT rfl rfl <| .move rfl <| .nil) ?_
  clear Hz Az; intro Az Hz
  refine bool_cases Hz (t := 17) rfl ?_ ?_
  · intro hb _; exact absurd hb (by first | (simp; done) | (simp; omega) | (rw [decide_eq_true_eq]; omega))
  clear Hz; intro _ Hz
  refine goCh Hz (.sk <| .sk <| .sk <| .sk <| .sk <| .pickF rfl rfl <| .move rfl <| .sk <| .sk <| .sk <| .sk <| .sk <| .pickF rfl rfl <| .move rfl <| .sk <| .sk <| .sk <| .sk <| .sk <| .pickF rfl rfl <| .move rfl <| .sk <| .sk <| .sk <| .sk <| .sk <| .pickF rfl rfl <| .assign rfl <| .nil) ?_
  clear Hz Az; intro Az Hz
  refine nl (hK1 _ _ ?_); clear hK1
  refine wp_ret ?_
  try dsimp only [Exit.then, Exit.inBlock]
  refine (ret1 (fn := Try.f37) Hz rfl rfl ?_)
  exact ⟨by first | rfl | (simp; done), m4.below⟩
 clear Hz; intro hb18 Hz; try simp only [QQ, Qax] at hb18
 refine goCh Hz (.sk <| .sk <| .sk <| .sk <| .sk <| .pickF rfl rfl <| .move rfl <| .sk <| .sk <| .sk <| .sk <| .sk <| .pickF rfl rfl <| .move rfl <| .sk <| .sk <| .sk <| .sk <| .sk <| .pickF rfl rfl <| .move rfl <| .sk <| .sk <| .sk <| .sk <| .sk <| .pickF rfl rfl <| .move rfl <| .sk <| .sk <| .sk <| .sk <| .sk <| .pickF rfl rfl <| .assign rfl <| .nil) ?_
 clear Hz Az; intro Az Hz
 refine nl (hK1 _ _ ?_); clear hK1
 refine wp_ret ?_
 try dsimp only [Exit.then, Exit.inBlock]
 refine (ret1 (fn := Try.f37) Hz rfl rfl ?_)
 exact ⟨by first | rfl | (simp; done), m4.below⟩
theorem rdone_bl (cs : List RC) (pc : Option Addr) (cc : Nat) (w0 : World) (h1 : Rd (fun _ => True) w0 (.slice pc cs.length cc) (.l 10 (cs.map cmdD))) (hl : cs.length ≤ 1000000) (vo9 bl9 sz9 pe9 to ne fl : Int) (pp pn pw : Option Addr) (np cp nn cn nw cw : Nat) (vo bl sz pe : Int) (pl : List Int) (T : Nat) (hcl : cs.length = T + 2) (hT2 : T ≤ 1000) (hc0 : cs[0]? = some ⟨1, vo, bl, sz, pe, pl, (T : Int), 0, 0, []⟩) (hbl : bl9 ≠ bl) :
   Calls Try.prog 17 #[.slice pc cs.length cc, .agg #[.int .i64 vo9, .int .i64 bl9, .int .i64 sz9, .int .i64 pe9, .slice pp np cp, .int .i64 to, .int .i64 ne, .bool false, .int .i64 fl, .slice pn nn cn, .slice pw nw cw]] w0 fun e w' => e = .returned (.bool false) ∧ Below w0.heap.size w0 w' := by
 refine ent2 Try.func17 rfl Try.ntmps17 fun Az Hz => ?_
 have m0 := MemOk.start (fun _ => False) w0
 refine sr fun K0 hK0 => ?_
 refine wpList_plain rfl (fun K hK => ?_)
 refine e_box Hz m0 70 (cs := [_, _, _, _, _, _, _, _, _, _, _]) rfl rfl rfl ?_
 clear Hz Az m0; intro g1 Az w2 Hz m2 hB2 hg2
 clear hB2 hg2
 refine hK _ _ ?_; clear hK
 refine goCh Hz (.assign rfl .nil) ?_
 clear Hz Az; intro Az Hz
 refine nl (hK0 _ _ ?_); clear hK0
 refine wp_seq_k (fun K1 hK1 => ?_)
 refine wp_seq_k (fun K2 hK2 => ?_)
 obtain ⟨gx5, ox5, vx5, hp5, hl5, hR5, hrg5⟩ := h1.extA (0) (r := [.v (.int .i64 1), .v (.int .i64 vo), .v (.int .i64 bl), .v (.int .i64 sz), .v (.int .i64 pe), .ns .i64 pl, .v (.int .i64 (T : Int)), .v (.int .i64 0), .v (.int .i64 0), .l 2 []]) (cmdD_get hc0)
 cases hp5; clear hl5
 rcases hR5 with _ | ⟨hd5_0, _ | ⟨hd5_1, _ | ⟨hd5_2, _ | ⟨hd5_3, _ | ⟨hd5_4, _ | ⟨hd5_5, _ | ⟨hd5_6, _ | ⟨hd5_7, _ | ⟨hd5_8, _ | ⟨hd5_9, _ | _⟩⟩⟩⟩⟩⟩⟩⟩⟩⟩
 obtain rfl := hd5_0.v_out
 clear hd5_0
 obtain rfl := hd5_1.v_out
 clear hd5_1
 obtain rfl := hd5_2.v_out
 clear hd5_2
 obtain rfl := hd5_3.v_out
 clear hd5_3
 obtain rfl := hd5_4.v_out
 clear hd5_4
 obtain ⟨p6, c6, hv6, hw6⟩ := hd5_5.ns_shape; subst hv6
 obtain rfl := hd5_6.v_out
 clear hd5_6
 obtain rfl := hd5_7.v_out
 clear hd5_7
 obtain rfl := hd5_8.v_out
 clear hd5_8
 obtain ⟨p7, c7, hv7, hw7⟩ := hd5_9.l_shape; subst hv7
 obtain ⟨gx9, ox9, vx9, hp9, hl9, hR9, hrg9⟩ := h1.extA (0) (r := [.v (.int .i64 1), .v (.int .i64 vo), .v (.int .i64 bl), .v (.int .i64 sz), .v (.int .i64 pe), .ns .i64 pl, .v (.int .i64 (T : Int)), .v (.int .i64 0), .v (.int .i64 0), .l 2 []]) (cmdD_get hc0)
 cases hp9; clear hl9
 rcases hR9 with _ | ⟨hd9_0, _ | ⟨hd9_1, _ | ⟨hd9_2, _ | ⟨hd9_3, _ | ⟨hd9_4, _ | ⟨hd9_5, _ | ⟨hd9_6, _ | ⟨hd9_7, _ | ⟨hd9_8, _ | ⟨hd9_9, _ | _⟩⟩⟩⟩⟩⟩⟩⟩⟩⟩
 obtain rfl := hd9_0.v_out
 clear hd9_0
 obtain rfl := hd9_1.v_out
 clear hd9_1
 obtain rfl := hd9_2.v_out
 clear hd9_2
 obtain rfl := hd9_3.v_out
 clear hd9_3
 obtain rfl := hd9_4.v_out
 clear hd9_4
 obtain ⟨p10, c10, hv10, hw10⟩ := hd9_5.ns_shape; subst hv10
 obtain rfl := hd9_6.v_out
 clear hd9_6
 obtain rfl := hd9_7.v_out
 clear hd9_7
 obtain rfl := hd9_8.v_out
 clear hd9_8
 obtain ⟨p11, c11, hv11, hw11⟩ := hd9_9.l_shape; subst hv11
 obtain ⟨gx13, ox13, vx13, hp13, hl13, hR13, hrg13⟩ := h1.extA (0) (r := [.v (.int .i64 1), .v (.int .i64 vo), .v (.int .i64 bl), .v (.int .i64 sz), .v (.int .i64 pe), .ns .i64 pl, .v (.int .i64 (T : Int)), .v (.int .i64 0), .v (.int .i64 0), .l 2 []]) (cmdD_get hc0)
 cases hp13; clear hl13
 rcases hR13 with _ | ⟨hd13_0, _ | ⟨hd13_1, _ | ⟨hd13_2, _ | ⟨hd13_3, _ | ⟨hd13_4, _ | ⟨hd13_5, _ | ⟨hd13_6, _ | ⟨hd13_7, _ | ⟨hd13_8, _ | ⟨hd13_9, _ | _⟩⟩⟩⟩⟩⟩⟩⟩⟩⟩
 obtain rfl := hd13_0.v_out
 clear hd13_0
 obtain rfl := hd13_1.v_out
 clear hd13_1
 obtain rfl := hd13_2.v_out
 clear hd13_2
 obtain rfl := hd13_3.v_out
 clear hd13_3
 obtain rfl := hd13_4.v_out
 clear hd13_4
 obtain ⟨p14, c14, hv14, hw14⟩ := hd13_5.ns_shape; subst hv14
 obtain rfl := hd13_6.v_out
 clear hd13_6
 obtain rfl := hd13_7.v_out
 clear hd13_7
 obtain rfl := hd13_8.v_out
 clear hd13_8
 obtain ⟨p15, c15, hv15, hw15⟩ := hd13_9.l_shape; subst hv15
 obtain ⟨gx17, ox17, vx17, hp17, hl17, hR17, hrg17⟩ := h1.extA (0) (r := [.v (.int .i64 1), .v (.int .i64 vo), .v (.int .i64 bl), .v (.int .i64 sz), .v (.int .i64 pe), .ns .i64 pl, .v (.int .i64 (T : Int)), .v (.int .i64 0), .v (.int .i64 0), .l 2 []]) (cmdD_get hc0)
 cases hp17; clear hl17
 rcases hR17 with _ | ⟨hd17_0, _ | ⟨hd17_1, _ | ⟨hd17_2, _ | ⟨hd17_3, _ | ⟨hd17_4, _ | ⟨hd17_5, _ | ⟨hd17_6, _ | ⟨hd17_7, _ | ⟨hd17_8, _ | ⟨hd17_9, _ | _⟩⟩⟩⟩⟩⟩⟩⟩⟩⟩
 obtain rfl := hd17_0.v_out
 clear hd17_0
 obtain rfl := hd17_1.v_out
 clear hd17_1
 obtain rfl := hd17_2.v_out
 clear hd17_2
 obtain rfl := hd17_3.v_out
 clear hd17_3
 obtain rfl := hd17_4.v_out
 clear hd17_4
 obtain ⟨p18, c18, hv18, hw18⟩ := hd17_5.ns_shape; subst hv18
 obtain rfl := hd17_6.v_out
 clear hd17_6
 obtain rfl := hd17_7.v_out
 clear hd17_7
 obtain rfl := hd17_8.v_out
 clear hd17_8
 obtain ⟨p19, c19, hv19, hw19⟩ := hd17_9.l_shape; subst hv19
 obtain ⟨gx21, ox21, vx21, hp21, hl21, hR21, hrg21⟩ := h1.extA (0) (r := [.v (.int .i64 1), .v (.int .i64 vo), .v (.int .i64 bl), .v (.int .i64 sz), .v (.int .i64 pe), .ns .i64 pl, .v (.int .i64 (T : Int)), .v (.int .i64 0), .v (.int .i64 0), .l 2 []]) (cmdD_get hc0)
 cases hp21; clear hl21
 rcases hR21 with _ | ⟨hd21_0, _ | ⟨hd21_1, _ | ⟨hd21_2, _ | ⟨hd21_3, _ | ⟨hd21_4, _ | ⟨hd21_5, _ | ⟨hd21_6, _ | ⟨hd21_7, _ | ⟨hd21_8, _ | ⟨hd21_9, _ | _⟩⟩⟩⟩⟩⟩⟩⟩⟩⟩
 obtain rfl := hd21_0.v_out
 clear hd21_0
 obtain rfl := hd21_1.v_out
 clear hd21_1
 obtain rfl := hd21_2.v_out
 clear hd21_2
 obtain rfl := hd21_3.v_out
 clear hd21_3
 obtain rfl := hd21_4.v_out
 clear hd21_4
 obtain ⟨p22, c22, hv22, hw22⟩ := hd21_5.ns_shape; subst hv22
 obtain rfl := hd21_6.v_out
 clear hd21_6
 obtain rfl := hd21_7.v_out
 clear hd21_7
 obtain rfl := hd21_8.v_out
 clear hd21_8
 obtain ⟨p23, c23, hv23, hw23⟩ := hd21_9.l_shape; subst hv23
 obtain ⟨gx25, ox25, vx25, hp25, hl25, hR25, hrg25⟩ := h1.extA (0) (r := [.v (.int .i64 1), .v (.int .i64 vo), .v (.int .i64 bl), .v (.int .i64 sz), .v (.int .i64 pe), .ns .i64 pl, .v (.int .i64 (T : Int)), .v (.int .i64 0), .v (.int .i64 0), .l 2 []]) (cmdD_get hc0)
 cases hp25; clear hl25
 rcases hR25 with _ | ⟨hd25_0, _ | ⟨hd25_1, _ | ⟨hd25_2, _ | ⟨hd25_3, _ | ⟨hd25_4, _ | ⟨hd25_5, _ | ⟨hd25_6, _ | ⟨hd25_7, _ | ⟨hd25_8, _ | ⟨hd25_9, _ | _⟩⟩⟩⟩⟩⟩⟩⟩⟩⟩
 obtain rfl := hd25_0.v_out
 clear hd25_0
 obtain rfl := hd25_1.v_out
 clear hd25_1
 obtain rfl := hd25_2.v_out
 clear hd25_2
 obtain rfl := hd25_3.v_out
 clear hd25_3
 obtain rfl := hd25_4.v_out
 clear hd25_4
 obtain ⟨p26, c26, hv26, hw26⟩ := hd25_5.ns_shape; subst hv26
 obtain rfl := hd25_6.v_out
 clear hd25_6
 obtain rfl := hd25_7.v_out
 clear hd25_7
 obtain rfl := hd25_8.v_out
 clear hd25_8
 obtain ⟨p27, c27, hv27, hw27⟩ := hd25_9.l_shape; subst hv27
 have m28 : MemOk _ _ [(70, _)] _ := m2.only [70]; clear m2
 refine region_p 46 (B := [(70, _)]) (m28.to ⟨il, trivial⟩) m28 (by kernel_rfl) (fun w29 hP29 m29 => ?_); clear m28
 refine goA hP29 [0, 1, 2, 3] 4 0 15 Hz (m29.to ⟨il, trivial⟩) (.move rfl <| .len rfl U31 <| .lss rfl rfl <| .move rfl <| .nil) ?_
 clear Hz Az; intro Az Hz
 refine bool_cases Hz (t := 9) rfl ?_ ?_
 · intro hb _; exact absurd hb (by first | (simp; done) | (simp; omega) | (rw [decide_eq_true_eq]; omega))
 clear Hz; intro _ Hz
 refine goR hP29 [4, 5, 6, 7, 8, 9, 10, 11, 12, 13, 14, 15, 16, 17, 18, 19, 20, 21, 22, 23, 24, 25, 26, 27, 28, 29, 30, 31, 32, 33] [5, 8, 12, 16, 20, 24, 28, 32] 30 15 17179869183 Hz (m29.to ⟨il, trivial⟩) (.fa 7 rfl U49 <| .lb hh 70 U4 rfl rfl rfl <| .pickF rfl rfl <| .move rfl <| .loadBR hh (i := 70) rfl rfl U49 rfl fct2 (by simp) (by dsimp only [List.drop, List.take] <;> rfl) <| .move rfl <| .p (fun _ _ h => y_idx h rfl rfl U31 fct3 (0) rfl (show 0 < cs.length by omega)) <| .fieldAddrQ 1 rfl U57 rfl (s := 0) (by kernel_rfl) rfl <| .loadAt1 (fun _ h => (hrg5 h rfl)) (q := 1) rfl rfl rfl U3 rfl <| .move rfl <| .p (fun _ _ h => y_idx h rfl rfl U31 fct3 (0) rfl (show 0 < cs.length by omega)) <| .fieldAddrQ 2 rfl U57 rfl (s := 0) (by kernel_rfl) rfl <| .loadAt1 (fun _ h => (hrg9 h rfl)) (q := 2) rfl rfl rfl U3 rfl <| .move rfl <| .p (fun _ _ h => y_idx h rfl rfl U31 fct3 (0) rfl (show 0 < cs.length by omega)) <| .fieldAddrQ 3 rfl U57 rfl (s := 0) (by kernel_rfl) rfl <| .loadAt1 (fun _ h => (hrg13 h rfl)) (q := 3) rfl rfl rfl U3 rfl <| .move rfl <| .p (fun _ _ h => y_idx h rfl rfl U31 fct3 (0) rfl (show 0 < cs.length by omega)) <| .fieldAddrQ 4 rfl U57 rfl (s := 0) (by kernel_rfl) rfl <| .loadAt1 (fun _ h => (hrg17 h rfl)) (q := 4) rfl rfl rfl U3 rfl <| .move rfl <| .p (fun _ _ h => y_idx h rfl rfl U31 fct3 (0) rfl (show 0 < cs.length by omega)) <| .fieldAddrQ 5 rfl U57 rfl (s := 0) (by kernel_rfl) rfl <| .loadAt1 (fun _ h => (hrg21 h rfl)) (q := 5) rfl rfl rfl U26 rfl <| .move rfl <| .p (fun _ _ h => y_idx h rfl rfl U31 fct3 (0) rfl (show 0 < cs.length by omega)) <| .fieldAddrQ 6 rfl U57 rfl (s := 0) (by kernel_rfl) rfl <| .loadAt1 (fun _ h => (hrg25 h rfl)) (q := 6) rfl rfl rfl U3 rfl <| .build rfl fct7 fl49rdz rfl (by dsimp only [setL, List.set] <;> rfl) <| .nil) ?_
 clear Hz Az; intro Az Hz
 refine stepE_only 34 rfl (by kernel_rfl) (wantedG Hz rfl rfl rfl rfl) (fun K hK => ?_)
 refine e_call Hz Try.func37 rfl rfl rfl rfl (shape_bl _ _ _ _ _ _ _ _ _ _ _ _ _ _ _ _ _ _ _ _ _ _ _ _ _ _ _ _ _ _ _ _ _ _ _ (by omega)) ?_
 rintro e w65 ⟨rfl, hb65⟩
 have m66 := m29.later hb65
 clear m29
 clear hb65
 refine ⟨_, rfl, ?_⟩; clear Hz Az; intro Az Hz
 refine hK _ _ (m66.to ⟨il, trivial⟩) ?_; clear hK K
 refine goA hP29 [35, 36, 37, 38, 39, 40, 41, 42, 43, 44, 45] 11 34359738367 70368744177663 Hz (m66.to ⟨il, trivial⟩) (.not rfl <| .pickF rfl rfl <| .move rfl <| .s <| .s <| .s <| .s <| .s <| .s <| .s <| .pickT rfl rfl <| .nil) ?_
 clear Hz Az; intro Az Hz
 refine wpAnyE_done (by kernel_rfl) ?_ _
 refine hK2 _ _ ?_; clear hK2
 refine wp_cond_true (Hz.ev (x := .tmp 51) rfl) ?_
 replace Hz : Has 73 [(0, _), (3, _), (4, _)] Az := Hz.only [0, 3, 4]
 refine regS Hz (.assign rfl <| .nil) ?_
 clear Hz Az; intro Az Hz
 refine wp_ret ?_
 try dsimp only [Exit.then, Exit.inBlock]
 refine (ret1 (fn := Try.f17) Hz rfl rfl ?_)
 exact ⟨by first | rfl | (simp; done), m66.below⟩
theorem rdone_yes (cs : List RC) (pc : Option Addr) (cc : Nat) (w0 : World) (h1 : Rd (fun _ => True) w0 (.slice pc cs.length cc) (.l 10 (cs.map cmdD))) (hl : cs.length ≤ 1000000) (vo bl sz pe ne fl : Int) (pl : List Int) (T n : Nat) (its : List (Int × List Int)) (pp pn pw : Option Addr) (cp nn9 cn9 cw : Nat) (hcl : cs.length = T + 2) (hT2 : T ≤ 1000) (hc0 : cs[0]? = some ⟨1, vo, bl, sz, pe, pl, (T : Int), 0, 0, []⟩) (hci : ∀ i, i < T → cs[i + 1]? = some (impR vo its n i)) (hwk : ∀ k, k < T → (wsP its n T)[k]? = some ((k : Int) + 1, chunkI its n k)) (hil : ∀ k, k < T → (chunkI its n k).length ≤ 1000000) (hpl : pl.length ≤ 1000000) (hp : Rd (fun _ => True) w0 (.slice pp pl.length cp) (.ns .i64 pl)) (hw : Rd (fun _ => True) w0 (.slice pw T cw) (.l 2 ((wsP its n T).map wrD))) :
   Calls Try.prog 17 #[.slice pc cs.length cc, .agg #[.int .i64 vo, .int .i64 bl, .int .i64 sz, .int .i64 pe, .slice pp pl.length cp, .int .i64 (T : Int), .int .i64 ne, .bool false, .int .i64 fl, .slice pn nn9 cn9, .slice pw T cw]] w0 fun e w' => e = .returned (.bool true) ∧ Below w0.heap.size w0 w' := by
 refine ent2 Try.func17 rfl Try.ntmps17 fun Az Hz => ?_
 have m0 := MemOk.start (fun _ => False) w0
 refine sr fun K0 hK0 => ?_
 refine wpList_plain rfl (fun K hK => ?_)
 refine e_box Hz m0 70 (cs := [_, _, _, _, _, _, _, _, _, _, _]) rfl rfl rfl ?_
 clear Hz Az m0; intro g1 Az w2 Hz m2 hB2 hg2
 clear hB2 hg2
 refine hK _ _ ?_; clear hK
 refine goCh Hz (.assign rfl .nil) ?_
 clear Hz Az; intro Az Hz
 refine nl (hK0 _ _ ?_); clear hK0
 refine wp_seq_k (fun K1 hK1 => ?_)
 refine wp_seq_k (fun K2 hK2 => ?_)
 obtain ⟨gx5, ox5, vx5, hp5, hl5, hR5, hrg5⟩ := h1.extA (0) (r := [.v (.int .i64 1), .v (.int .i64 vo), .v (.int .i64 bl), .v (.int .i64 sz), .v (.int .i64 pe), .ns .i64 pl, .v (.int .i64 (T : Int)), .v (.int .i64 0), .v (.int .i64 0), .l 2 []]) (cmdD_get hc0)
 cases hp5; clear hl5
 rcases hR5 with _ | ⟨hd5_0, _ | ⟨hd5_1, _ | ⟨hd5_2, _ | ⟨hd5_3, _ | ⟨hd5_4, _ | ⟨hd5_5, _ | ⟨hd5_6, _ | ⟨hd5_7, _ | ⟨hd5_8, _ | ⟨hd5_9, _ | _⟩⟩⟩⟩⟩⟩⟩⟩⟩⟩
 obtain rfl := hd5_0.v_out
 clear hd5_0
 obtain rfl := hd5_1.v_out
 clear hd5_1
 obtain rfl := hd5_2.v_out
 clear hd5_2
 obtain rfl := hd5_3.v_out
 clear hd5_3
 obtain rfl := hd5_4.v_out
 clear hd5_4
 obtain ⟨p6, c6, hv6, hw6⟩ := hd5_5.ns_shape; subst hv6
 obtain rfl := hd5_6.v_out
 clear hd5_6
 obtain rfl := hd5_7.v_out
 clear hd5_7
 obtain rfl := hd5_8.v_out
 clear hd5_8
 obtain ⟨p7, c7, hv7, hw7⟩ := hd5_9.l_shape; subst hv7
 obtain ⟨gx9, ox9, vx9, hp9, hl9, hR9, hrg9⟩ := h1.extA (0) (r := [.v (.int .i64 1), .v (.int .i64 vo), .v (.int .i64 bl), .v (.int .i64 sz), .v (.int .i64 pe), .ns .i64 pl, .v (.int .i64 (T : Int)), .v (.int .i64 0), .v (.int .i64 0), .l 2 []]) (cmdD_get hc0)
 cases hp9; clear hl9
 rcases hR9 with _ | ⟨hd9_0, _ | ⟨hd9_1, _ | ⟨hd9_2, _ | ⟨hd9_3, _ | ⟨hd9_4, _ | ⟨hd9_5, _ | ⟨hd9_6, _ | ⟨hd9_7, _ | ⟨hd9_8, _ | ⟨hd9_9, _ | _⟩⟩⟩⟩⟩⟩⟩⟩⟩⟩
 obtain rfl := hd9_0.v_out
 clear hd9_0
 obtain rfl := hd9_1.v_out
 clear hd9_1
 obtain rfl := hd9_2.v_out
 clear hd9_2
 obtain rfl := hd9_3.v_out
 clear hd9_3
 obtain rfl := hd9_4.v_out
 clear hd9_4
 obtain ⟨p10, c10, hv10, hw10⟩ := hd9_5.ns_shape; subst hv10
 obtain rfl := hd9_6.v_out
 clear hd9_6
 obtain rfl := hd9_7.v_out
 clear hd9_7
 obtain rfl := hd9_8.v_out
 clear hd9_8
 obtain ⟨p11, c11, hv11, hw11⟩ := hd9_9.l_shape; subst hv11
 obtain ⟨gx13, ox13, vx13, hp13, hl13, hR13, hrg13⟩ := h1.extA (0) (r := [.v (.int .i64 1), .v (.int .i64 vo), .v (.int .i64 bl), .v (.int .i64 sz), .v (.int .i64 pe), .ns .i64 pl, .v (.int .i64 (T : Int)), .v (.int .i64 0), .v (.int .i64 0), .l 2 []]) (cmdD_get hc0)
 cases hp13; clear hl13
 rcases hR13 with _ | ⟨hd13_0, _ | ⟨hd13_1, _ | ⟨hd13_2, _ | ⟨hd13_3, _ | ⟨hd13_4, _ | ⟨hd13_5, _ | ⟨hd13_6, _ | ⟨hd13_7, _ | ⟨hd13_8, _ | ⟨hd13_9, _ | _⟩⟩⟩⟩⟩⟩⟩⟩⟩⟩
 obtain rfl := hd13_0.v_out
 clear hd13_0
 obtain rfl := hd13_1.v_out
 clear hd13_1
 obtain rfl := hd13_2.v_out
 clear hd13_2
 obtain rfl := hd13_3.v_out
 clear hd13_3
 obtain rfl := hd13_4.v_out
 clear hd13_4
 obtain ⟨p14, c14, hv14, hw14⟩ := hd13_5.ns_shape; subst hv14
 obtain rfl := hd13_6.v_out
 clear hd13_6
 obtain rfl := hd13_7.v_out
 clear hd13_7
 obtain rfl := hd13_8.v_out
 clear hd13_8
 obtain ⟨p15, c15, hv15, hw15⟩ := hd13_9.l_shape; subst hv15
 obtain ⟨gx17, ox17, vx17, hp17, hl17, hR17, hrg17⟩ := h1.extA (0) (r := [.v (.int .i64 1), .v (.int .i64 vo), .v (.int .i64 bl), .v (.int .i64 sz), .v (.int .i64 pe), .ns .i64 pl, .v (.int .i64 (T : Int)), .v (.int .i64 0), .v (.int .i64 0), .l 2 []]) (cmdD_get hc0)
 cases hp17; clear hl17
 rcases hR17 with _ | ⟨hd17_0, _ | ⟨hd17_1, _ | ⟨hd17_2, _ | ⟨hd17_3, _ | ⟨hd17_4, _ | ⟨hd17_5, _ | ⟨hd17_6, _ | ⟨hd17_7, _ | ⟨hd17_8, _ | ⟨hd17_9, _ | _⟩⟩⟩⟩⟩⟩⟩⟩⟩⟩
 obtain rfl := hd17_0.v_out
 clear hd17_0
 obtain rfl := hd17_1.v_out
 clear hd17_1
 obtain rfl := hd17_2.v_out
 clear hd17_2
 obtain rfl := hd17_3.v_out
 clear hd17_3
 obtain rfl := hd17_4.v_out
 clear hd17_4
 obtain ⟨p18, c18, hv18, hw18⟩ := hd17_5.ns_shape; subst hv18
 obtain rfl := hd17_6.v_out
 clear hd17_6
 obtain rfl := hd17_7.v_out
 clear hd17_7
 obtain rfl := hd17_8.v_out
 clear hd17_8
 obtain ⟨p19, c19, hv19, hw19⟩ := hd17_9.l_shape; subst hv19
 obtain ⟨gx21, ox21, vx21, hp21, hl21, hR21, hrg21⟩ := h1.extA (0) (r := [.v (.int .i64 1), .v (.int .i64 vo), .v (.int .i64 bl), .v (.int .i64 sz), .v (.int .i64 pe), .ns .i64 pl, .v (.int .i64 (T : Int)), .v (.int .i64 0), .v (.int .i64 0), .l 2 []]) (cmdD_get hc0)
 cases hp21; clear hl21
 rcases hR21 with _ | ⟨hd21_0, _ | ⟨hd21_1, _ | ⟨hd21_2, _ | ⟨hd21_3, _ | ⟨hd21_4, _ | ⟨hd21_5, _ | ⟨hd21_6, _ | ⟨hd21_7, _ | ⟨hd21_8, _ | ⟨hd21_9, _ | _⟩⟩⟩⟩⟩⟩⟩⟩⟩⟩
 obtain rfl := hd21_0.v_out
 clear hd21_0
 obtain rfl := hd21_1.v_out
 clear hd21_1
 obtain rfl := hd21_2.v_out
 clear hd21_2
 obtain rfl := hd21_3.v_out
 clear hd21_3
 obtain rfl := hd21_4.v_out
 clear hd21_4
 obtain ⟨p22, c22, hv22, hw22⟩ := hd21_5.ns_shape; subst hv22
 obtain rfl := hd21_6.v_out
 clear hd21_6
 obtain rfl := hd21_7.v_out
 clear hd21_7
 obtain rfl := hd21_8.v_out
 clear hd21_8
 obtain ⟨p23, c23, hv23, hw23⟩ := hd21_9.l_shape; subst hv23
 obtain ⟨gx25, ox25, vx25, hp25, hl25, hR25, hrg25⟩ := h1.extA (0) (r := [.v (.int .i64 1), .v (.int .i64 vo), .v (.int .i64 bl), .v (.int .i64 sz), .v (.int .i64 pe), .ns .i64 pl, .v (.int .i64 (T : Int)), .v (.int .i64 0), .v (.int .i64 0), .l 2 []]) (cmdD_get hc0)
 cases hp25; clear hl25
 rcases hR25 with _ | ⟨hd25_0, _ | ⟨hd25_1, _ | ⟨hd25_2, _ | ⟨hd25_3, _ | ⟨hd25_4, _ | ⟨hd25_5, _ | ⟨hd25_6, _ | ⟨hd25_7, _ | ⟨hd25_8, _ | ⟨hd25_9, _ | _⟩⟩⟩⟩⟩⟩⟩⟩⟩⟩
 obtain rfl := hd25_0.v_out
 clear hd25_0
 obtain rfl := hd25_1.v_out
 clear hd25_1
 obtain rfl := hd25_2.v_out
 clear hd25_2
 obtain rfl := hd25_3.v_out
 clear hd25_3
 obtain rfl := hd25_4.v_out
 clear hd25_4
 obtain ⟨p26, c26, hv26, hw26⟩ := hd25_5.ns_shape; subst hv26
 obtain rfl := hd25_6.v_out
 clear hd25_6
 obtain rfl := hd25_7.v_out
 clear hd25_7
 obtain rfl := hd25_8.v_out
 clear hd25_8
 obtain ⟨p27, c27, hv27, hw27⟩ := hd25_9.l_shape; subst hv27
 have m28 : MemOk _ _ [(70, _)] _ := m2.only [70]; clear m2
 refine region_p 46 (B := [(70, _)]) (m28.to ⟨il, trivial⟩) m28 (by kernel_rfl) (fun w29 hP29 m29 => ?_); clear m28
 refine goA hP29 [0, 1, 2, 3] 4 0 15 Hz (m29.to ⟨il, trivial⟩) (.move rfl <| .len rfl U31 <| .lss rfl rfl <| .move rfl <| .nil) ?_
 clear Hz Az; intro Az Hz
 refine bool_cases Hz (t := 9) rfl ?_ ?_
 · intro hb _; exact absurd hb (by first | (simp; done) | (simp; omega) | (rw [decide_eq_true_eq]; omega))
 clear Hz; intro _ Hz
 refine goR hP29 [4, 5, 6, 7, 8, 9, 10, 11, 12, 13, 14, 15, 16, 17, 18, 19, 20, 21, 22, 23, 24, 25, 26, 27, 28, 29, 30, 31, 32, 33] [5, 8, 12, 16, 20, 24, 28, 32] 30 15 17179869183 Hz (m29.to ⟨il, trivial⟩) (.fa 7 rfl U49 <| .lb hh 70 U4 rfl rfl rfl <| .pickF rfl rfl <| .move rfl <| .loadBR hh (i := 70) rfl rfl U49 rfl fct2 (by simp) (by dsimp only [List.drop, List.take] <;> rfl) <| .move rfl <| .p (fun _ _ h => y_idx h rfl rfl U31 fct3 (0) rfl (show 0 < cs.length by omega)) <| .fieldAddrQ 1 rfl U57 rfl (s := 0) (by kernel_rfl) rfl <| .loadAt1 (fun _ h => (hrg5 h rfl)) (q := 1) rfl rfl rfl U3 rfl <| .move rfl <| .p (fun _ _ h => y_idx h rfl rfl U31 fct3 (0) rfl (show 0 < cs.length by omega)) <| .fieldAddrQ 2 rfl U57 rfl (s := 0) (by kernel_rfl) rfl <| .loadAt1 (fun _ h => (hrg9 h rfl)) (q := 2) rfl rfl rfl U3 rfl <| .move rfl <| .p (fun _ _ h => y_idx h rfl rfl U31 fct3 (0) rfl (show 0 < cs.length by omega)) <| .fieldAddrQ 3 rfl U57 rfl (s := 0) (by kernel_rfl) rfl <| .loadAt1 (fun _ h => (hrg13 h rfl)) (q := 3) rfl rfl rfl U3 rfl <| .move rfl <| .p (fun _ _ h => y_idx h rfl rfl U31 fct3 (0) rfl (show 0 < cs.length by omega)) <| .fieldAddrQ 4 rfl U57 rfl (s := 0) (by kernel_rfl) rfl <| .loadAt1 (fun _ h => (hrg17 h rfl)) (q := 4) rfl rfl rfl U3 rfl <| .move rfl <| .p (fun _ _ h => y_idx h rfl rfl U31 fct3 (0) rfl (show 0 < cs.length by omega)) <| .fieldAddrQ 5 rfl U57 rfl (s := 0) (by kernel_rfl) rfl <| .loadAt1 (fun _ h => (hrg21 h rfl)) (q := 5) rfl rfl rfl U26 rfl <| .move rfl <| .p (fun _ _ h => y_idx h rfl rfl U31 fct3 (0) rfl (show 0 < cs.length by omega)) <| .fieldAddrQ 6 rfl U57 rfl (s := 0) (by kernel_rfl) rfl <| .loadAt1 (fun _ h => (hrg25 h rfl)) (q := 6) rfl rfl rfl U3 rfl <| .build rfl fct7 fl49rdy rfl (by dsimp only [setL, List.set] <;> rfl) <| .nil) ?_
 clear Hz Az; intro Az Hz
 refine stepE_only 34 rfl (by kernel_rfl) (wantedG Hz rfl rfl rfl rfl) (fun K hK => ?_)
 refine e_call Hz Try.func37 rfl rfl rfl rfl (rshape2_any _ _ _ _ _ _ _ _ _ _ pl _ _ _ _ _ _ _ _ _ _ _ _ _ _ _ _ _ _ hpl ((hp.now' m29 rfl).any) ((hd21_5.now' m29 rfl).any)) ?_
 rintro e w65 ⟨rfl, hb65⟩
 have m66 := m29.later hb65
 clear m29
 clear hb65
 refine ⟨_, rfl, ?_⟩; clear Hz Az; intro Az Hz
 refine hK _ _ (m66.to ⟨il, trivial⟩) ?_; clear hK K
 refine goR hP29 [35, 36, 37, 38, 39, 40, 41, 42, 43, 44, 45] [39] 11 34359738367 70368744177663 Hz (m66.to ⟨il, trivial⟩) (.not rfl <| .pickF rfl rfl <| .move rfl <| .fa 10 rfl U49 <| .lb hh 70 U47 rfl rfl rfl <| .len rfl U47 <| .move rfl <| .len rfl U31 <| .sub rfl rfl (r := (cs.length : Int) - 2) (IntWalk.i64_in _ (by omega)) <| .lss rfl rfl <| .pickF rfl rfl <| .nil) ?_
 clear Hz Az; intro Az Hz
 refine wpAnyE_done (by kernel_rfl) ?_ _
 refine hK2 _ _ ?_; clear hK2
 refine bool_cases Hz (t := 51) rfl ?_ ?_
 · intro hb _; exact absurd hb (by first | (simp; done) | (simp; omega) | (rw [decide_eq_true_eq]; omega))
 clear Hz; intro _ Hz
 refine wp_cond_false (Hz.ev (x := .tmp 51) rfl) ?_
 refine ss (hK1 _ _ ?_); clear hK1
 refine wp_seq_k (fun K3 hK3 => ?_)
 replace Hz : Has 73 [(0, _), (3, _), (4, _)] Az := Hz.only [0, 3, 4]
 refine regS Hz (.assign rfl <| .nil) ?_
 clear Hz Az; intro Az Hz
 refine wp_block ?_
 refine wp_loop_ghost (fun g a w => ∃ (k B3 : Nat), k ≤ T ∧ g = T - k ∧ Has 73 [(0, .slice (some ⟨gx5, ox5, none⟩) cs.length cc), (3, .pointer (some ⟨B3, 0, none⟩)), (5, .int .i64 ((k + 1 : Nat) : Int))] a ∧ MemOk (cn w0) w0 [(9, .box B3 49 [.int .i64 vo, .int .i64 bl, .int .i64 sz, .int .i64 pe, .slice pp pl.length cp, .int .i64 (T : Int), .int .i64 ne, .bool false, .int .i64 fl, .slice pn nn9 cn9, .slice pw T cw])] w) (T) ?_ ?_
 · exact ⟨0, _, Nat.zero_le _, rfl, Hz.only [0, 3, 5], m66.ren [(9, 70)] (by decide)⟩
 clear Hz m66
 rintro g Az w82 ⟨k, B3, hkl, hg, Hz, m82⟩
 refine wp_seq_k (fun K4 hK4 => ?_)
 refine regS Hz (.move rfl <| .move rfl <| .len rfl U31 <| .sub rfl rfl (r := (cs.length : Int) - 1) (IntWalk.i64_in _ (by omega)) <| .lss rfl rfl <| .nil) ?_
 clear Hz Az; intro Az Hz
 refine bool_cases Hz (t := 56) rfl ?_ ?_
 ·
  clear Hz; intro hb88 Hz; try simp only [QQ, Qax] at hb88
  have hk : k < T := by have := hb88; first | omega | (simp at this; omega)
  refine wp_cond_true (Hz.ev (x := .tmp 56) rfl) ?_
  refine ss (hK4 _ _ ?_); clear hK4
  refine wp_seq_k (fun K5 hK5 => ?_)
  refine wp_block ?_
  refine wp_seq_k (fun K6 hK6 => ?_)
  obtain ⟨gx90, ox90, vx90, hp90, hl90, hR90, hrg90⟩ := h1.extA ((k + 1)) (r := [.v (.int .i64 (impR vo its n k).kd), .v (.int .i64 (impR vo its n k).vo), .v (.int .i64 (impR vo its n k).bl), .v (.int .i64 (impR vo its n k).sz), .v (.int .i64 (impR vo its n k).pe), .ns .i64 (impR vo its n k).pl, .v (.int .i64 (impR vo its n k).to), .v (.int .i64 (impR vo its n k).at0), .v (.int .i64 (impR vo its n k).ix), .l 2 ((impR vo its n k).its.map itD)]) (cmdD_get (hci k hk))
  cases hp90; clear hl90
  rcases hR90 with _ | ⟨hd90_0, _ | ⟨hd90_1, _ | ⟨hd90_2, _ | ⟨hd90_3, _ | ⟨hd90_4, _ | ⟨hd90_5, _ | ⟨hd90_6, _ | ⟨hd90_7, _ | ⟨hd90_8, _ | ⟨hd90_9, _ | _⟩⟩⟩⟩⟩⟩⟩⟩⟩⟩
  obtain rfl := hd90_0.v_out
  clear hd90_0
  obtain rfl := hd90_1.v_out
  clear hd90_1
  obtain rfl := hd90_2.v_out
  clear hd90_2
  obtain rfl := hd90_3.v_out
  clear hd90_3
  obtain rfl := hd90_4.v_out
  clear hd90_4
  obtain ⟨p91, c91, hv91, hw91⟩ := hd90_5.ns_shape; subst hv91
  obtain rfl := hd90_6.v_out
  clear hd90_6
  obtain rfl := hd90_7.v_out
  clear hd90_7
  obtain rfl := hd90_8.v_out
  clear hd90_8
  obtain ⟨p92, c92, hv92, hw92⟩ := hd90_9.l_shape; subst hv92
  obtain ⟨gx94, ox94, vx94, hp94, hl94, hR94, hrg94⟩ := hw.extA (k) (r := [.v (.int .i64 ((k : Int) + 1)), .l 2 ((chunkI its n k).map itD)]) (wrD_get (hwk k hk))
  cases hp94; clear hl94
  rcases hR94 with _ | ⟨hd94_0, _ | ⟨hd94_1, _ | _⟩⟩
  obtain rfl := hd94_0.v_out
  clear hd94_0
  obtain ⟨p95, c95, hv95, hw95⟩ := hd94_1.l_shape; subst hv95
  have m96 : MemOk _ _ [(9, _)] _ := m82.only [9]; clear m82
  refine region_p 14 (B := [(9, _)]) (m96.to ⟨il, trivial⟩) m96 (by kernel_rfl) (fun w97 hP97 m97 => ?_); clear m96
  refine goR hP97 [0, 1, 2, 3, 4, 5, 6, 7, 8, 9, 10, 11] [4, 6, 11] 12 0 4095 Hz (m97.to ⟨il, trivial⟩) (.move rfl <| .move rfl <| .p (fun _ _ h => y_idx h rfl rfl U31 fct3 ((k + 1)) rfl (show k + 1 < cs.length by omega)) <| .fieldAddrQ 9 rfl U57 rfl (s := 0) (by kernel_rfl) rfl <| .loadAt1 (fun _ h => (hrg90 h rfl)) (q := 9) rfl rfl rfl U22 rfl <| .fa 10 rfl U49 <| .lb hh 9 U47 rfl rfl rfl <| .move rfl <| .sub rfl rfl (r := (k : Int)) (by rw [IntWalk.i64_in _ (by omega)]; omega) <| .p (fun _ _ h => y_idx h rfl rfl U47 fct30 (k) rfl hk) <| .fieldAddrQ 1 rfl U86 rfl (s := 0) (by kernel_rfl) rfl <| .loadAt1 (fun _ h => (hrg94 h rfl)) (q := 1) rfl rfl rfl U22 rfl <| .nil) ?_
  clear Hz Az; intro Az Hz
  refine stepE_only 12 rfl (by kernel_rfl) rfl (fun K hK => ?_)
  refine e_call Hz Try.func38 rfl rfl rfl rfl (sitems_any (chunkI its n k) _ _ _ _ _ _ _ ((hd90_9.now' m97 rfl).any) ((hd94_1.now' m97 rfl).any) (hil k hk)) ?_
  rintro e w110 ⟨rfl, hb110⟩
  have m111 := m97.later hb110
  clear m97
  clear hb110
  refine ⟨_, rfl, ?_⟩; clear Hz Az; intro Az Hz
  refine hK _ _ (m111.to ⟨il, trivial⟩) ?_; clear hK K
  refine goA hP97 [13] 1 8191 16383 Hz (m111.to ⟨il, trivial⟩) (.not rfl <| .nil) ?_
  clear Hz Az; intro Az Hz
  refine wpAnyE_done (by kernel_rfl) ?_ _
  refine hK6 _ _ ?_; clear hK6
  refine wp_cond_false (Hz.ev (x := .tmp 72) rfl) ?_
  refine ss (hK5 _ _ ?_); clear hK5
  replace Hz : Has 73 [(0, _), (3, _), (5, _)] Az := Hz.only [0, 3, 5]
  refine wp_region_lit ?_
  refine goCh Hz (.move rfl <| .add rfl rfl (r := ((k + 1 + 1 : Nat) : Int)) (by rw [IntWalk.i64_in _ (by omega)]; omega) <| .assign rfl <| .nil) ?_
  clear Hz Az; intro Az Hz
  refine wpList_nil ?_
  show ∃ n', n' < _ ∧ _
  exact ⟨T - (k + 1), by omega, k + 1, _, by omega, rfl, Hz.only [0, 3, 5], m111.ren [(9, 9)] (by decide)⟩
 clear Hz; intro hb88 Hz; try simp only [QQ, Qax] at hb88
 refine wp_cond_false (Hz.ev (x := .tmp 56) rfl) ?_
 refine wp_exit ?_
 refine hK3 _ _ ?_; clear hK3
 refine regS Hz (.assign rfl <| .nil) ?_
 clear Hz Az; intro Az Hz
 refine wp_ret ?_
 try dsimp only [Exit.then, Exit.inBlock]
 refine (ret1 (fn := Try.f17) Hz rfl rfl ?_)
 exact ⟨by first | rfl | (simp; done), m82.below⟩
end Go.Proofs.Ytkdnhndjjfjppaa.K
