/- Equal ints, items, calls are found equal. -/
import Derived.Test.YtkdnhndjjfjppaaInt2
namespace Go.Proofs.Ytkdnhndjjfjppaa.K
open Go.ChangeShapes Go.WideShapes Go.ChangeAt Go.RowKit
set_option linter.unusedVariables false
set_option linter.unusedSimpArgs false
set_option maxRecDepth 100000
set_option maxHeartbeats 4000000
theorem s6_any (xs : List Int) (p1 p2 : Option Addr) (c1 c2 : Nat) (w0 : World) (hx : xs.length ≤ 1000000) (h1 : Rd (fun _ => True) w0 (.slice p1 xs.length c1) (.ns .i64 xs)) (h2 : Rd (fun _ => True) w0 (.slice p2 xs.length c2) (.ns .i64 xs)) :
   Calls Try.prog 74 #[.slice p1 xs.length c1, .slice p2 xs.length c2] w0 fun e w' => e = .returned (.bool true) ∧ Below w0.heap.size w0 w' := by
 refine ent2 Try.func74 rfl Try.ntmps74 fun Az Hz => ?_
 have m0 := MemOk.start (fun _ => False) w0
 refine regS Hz (.assign rfl <| .nil) ?_
 clear Hz Az; intro Az Hz
 refine wp_seq_k (fun K0 hK0 => ?_)
 refine regS Hz (.move rfl <| .len rfl U26 <| .move rfl <| .len rfl U26 <| .neq rfl rfl <| .nil) ?_
 clear Hz Az; intro Az Hz
 refine bool_cases Hz (t := 10) rfl ?_ ?_
 · intro hb _; exact absurd hb (by simp)
 clear Hz; intro _ Hz
 refine wp_cond_false (Hz.ev (x := .tmp 10) rfl) ?_
 refine zss (hK0 _ _ ?_); clear hK0
 refine wp_seq_k (fun K1 hK1 => ?_)
 refine regS Hz (.assign rfl <| .nil) ?_
 clear Hz Az; intro Az Hz
 refine wp_block ?_
 refine wp_loop_ghost (fun g a w => ∃ k : Nat, k ≤ xs.length ∧ g = xs.length - k ∧ Has 26 [(0, .slice p1 xs.length c1), (1, .slice p2 xs.length c2), (5, .int .i64 k)] a ∧ MemOk (cn w0) w0 [] w) (xs.length) ?_ ?_
 · exact ⟨0, Nat.zero_le _, rfl, Hz.only [0, 1, 5], m0.only []⟩
 clear Hz m0
 rintro g Az w9 ⟨k, hkl, hg, Hz, m9⟩
 refine wp_seq_k (fun K2 hK2 => ?_)
 refine regS Hz (.move rfl <| .move rfl <| .len rfl U26 <| .lss rfl rfl <| .nil) ?_
 clear Hz Az; intro Az Hz
 refine bool_cases Hz (t := 14) rfl ?_ ?_
 ·
  clear Hz; intro hb14 Hz; try simp only [QQ, Qax] at hb14
  have hk : k < xs.length := by omega
  refine wp_cond_true (Hz.ev (x := .tmp 14) rfl) ?_
  refine zss (hK2 _ _ ?_); clear hK2
  refine wp_seq_k (fun K3 hK3 => ?_)
  refine wp_block ?_
  refine wp_seq_k (fun K4 hK4 => ?_)
  obtain ⟨gx16, ox16, hp16, hl16, hrg16⟩ := h1.extN (k) hk
  cases hp16; clear hl16
  obtain ⟨gx18, ox18, hp18, hl18, hrg18⟩ := h2.extN (k) hk
  cases hp18; clear hl18
  have m19 : MemOk _ _ [] _ := m9.only []; clear m9
  refine region_p 9 (B := []) (m19.to trivial) m19 (by kernel_rfl) (fun w20 hP20 m20 => ?_); clear m19
  refine goR hP20 [0, 1, 2, 3, 4, 5, 6, 7, 8] [3, 7] 9 0 511 Hz (m20.to trivial) (.move rfl <| .move rfl <| .p (fun _ _ h => y_idx h rfl rfl U26 fct0 (k) rfl hk) <| .loadAt1 (fun _ h => (hrg16 h rfl)) (q := 0) rfl rfl rfl U3 rfl <| .move rfl <| .move rfl <| .p (fun _ _ h => y_idx h rfl rfl U26 fct0 (k) rfl hk) <| .loadAt1 (fun _ h => (hrg18 h rfl)) (q := 0) rfl rfl rfl U3 rfl <| .neq rfl rfl <| .nil) ?_
  clear Hz Az; intro Az Hz
  refine wpAnyE_done (by kernel_rfl) ?_ _
  refine hK4 _ _ ?_; clear hK4
  refine bool_cases Hz (t := 25) rfl ?_ ?_
  · intro hb _; exact absurd hb (by simp)
  clear Hz; intro _ Hz
  refine wp_cond_false (Hz.ev (x := .tmp 25) rfl) ?_
  refine zss (hK3 _ _ ?_); clear hK3
  replace Hz : Has 26 [(0, _), (1, _), (5, _)] Az := Hz.only [0, 1, 5]
  refine wp_region_lit ?_
  refine goCh Hz (.move rfl <| .add rfl rfl (r := ((k + 1 : Nat) : Int)) (by rw [IntWalk.i64_in _ (by omega)]; omega) <| .assign rfl <| .nil) ?_
  clear Hz Az; intro Az Hz
  refine wpList_nil ?_
  show ∃ n', n' < _ ∧ _
  exact ⟨xs.length - (k + 1), by omega, k + 1, by omega, rfl, Hz.only [0, 1, 5], m20.only []⟩
 clear Hz; intro hb14 Hz; try simp only [QQ, Qax] at hb14
 obtain rfl : k = xs.length := by omega
 refine wp_cond_false (Hz.ev (x := .tmp 14) rfl) ?_
 refine wp_exit ?_
 refine hK1 _ _ ?_; clear hK1
 refine regS Hz (.assign rfl <| .nil) ?_
 clear Hz Az; intro Az Hz
 refine wp_ret ?_
 try dsimp only [Exit.then, Exit.inBlock]
 refine (ret1 (fn := Try.f74) Hz rfl rfl ?_)
 exact ⟨by simp, m9.below⟩
theorem hints_any (xs : List Int) (p1 p2 : Option Addr) (c1 c2 : Nat) (w0 : World) (hx : xs.length ≤ 1000000) (h1 : Rd (fun _ => True) w0 (.slice p1 xs.length c1) (.ns .i64 xs)) (h2 : Rd (fun _ => True) w0 (.slice p2 xs.length c2) (.ns .i64 xs)) :
   Calls Try.prog 56 #[.slice p1 xs.length c1, .slice p2 xs.length c2] w0 fun e w' => e = .returned (.bool true) ∧ Below w0.heap.size w0 w' := by
 refine ent2 Try.func56 rfl Try.ntmps56 fun Az Hz => ?_
 have m0 := MemOk.start (fun _ => False) w0
 refine regS Hz (.assign rfl <| .nil) ?_
 clear Hz Az; intro Az Hz
 refine zsr fun K0 hK0 => ?_
 refine goCh Hz (.move rfl <| .move rfl <| .nil) ?_
 clear Hz Az; intro Az Hz
 refine wpList_plain rfl (fun K hK => ?_)
 refine e_call Hz Try.func74 rfl rfl rfl rfl (s6_any xs _ _ _ _ _ hx ((h1.now' m0 rfl).any) ((h2.now' m0 rfl).any)) ?_
 rintro e w6 ⟨rfl, hb6⟩
 have m7 := m0.later hb6
 clear m0
 clear hb6
 refine ⟨_, rfl, ?_⟩; clear Hz Az; intro Az Hz
 refine hK _ _ ?_; clear hK
 refine goCh Hz (.assign rfl .nil) ?_
 clear Hz Az; intro Az Hz
 refine znl (hK0 _ _ ?_); clear hK0
 refine wp_ret ?_
 try dsimp only [Exit.then, Exit.inBlock]
 refine (ret1 (fn := Try.f56) Hz rfl rfl ?_)
 exact ⟨rfl, m7.below⟩
theorem hcmd_any (c9 : RC) (p1 i1 p2 i2 : Option Addr) (c1 n1 d1 c2 n2 d2 : Nat) (w0 : World) (h1 : Rd (fun _ => True) w0 (.slice p1 c9.pl.length c1) (.ns .i64 c9.pl)) (h2 : Rd (fun _ => True) w0 (.slice i1 n1 d1) (.l 2 (c9.its.map itD))) (h3 : Rd (fun _ => True) w0 (.slice p2 c9.pl.length c2) (.ns .i64 c9.pl)) (h4 : Rd (fun _ => True) w0 (.slice i2 n2 d2) (.l 2 (c9.its.map itD))) (hp : c9.pl.length ≤ 1000000) (hi : c9.its.length ≤ 1000000) :
   Calls Try.prog 32 #[.agg #[.int .i64 c9.kd, .int .i64 c9.vo, .int .i64 c9.bl, .int .i64 c9.sz, .int .i64 c9.pe, .slice p1 c9.pl.length c1, .int .i64 c9.to, .int .i64 c9.at0, .int .i64 c9.ix, .slice i1 n1 d1], .agg #[.int .i64 c9.kd, .int .i64 c9.vo, .int .i64 c9.bl, .int .i64 c9.sz, .int .i64 c9.pe, .slice p2 c9.pl.length c2, .int .i64 c9.to, .int .i64 c9.at0, .int .i64 c9.ix, .slice i2 n2 d2]] w0 fun e w' => e = .returned (.bool true) ∧ Below w0.heap.size w0 w' := by
 refine ent2 Try.func32 rfl Try.ntmps32 fun Az Hz => ?_
 have m0 := MemOk.start (fun _ => False) w0
 refine zsr fun K0 hK0 => ?_
 refine wpList_plain rfl (fun K hK => ?_)
 refine e_box Hz m0 20 (cs := [_, _, _, _, _, _, _, _, _, _]) rfl rfl rfl ?_
 clear Hz Az m0; intro g1 Az w2 Hz m2 hB2 hg2
 clear hB2 hg2
 refine hK _ _ ?_; clear hK
 refine wpList_plain rfl (fun K hK => ?_)
 refine e_box Hz m2 21 (cs := [_, _, _, _, _, _, _, _, _, _]) rfl rfl rfl ?_
 clear Hz Az m2; intro g3 Az w4 Hz m4 hB4 hg4
 clear hB4 hg4
 refine hK _ _ ?_; clear hK
 refine goCh Hz (.assign rfl .nil) ?_
 clear Hz Az; intro Az Hz
 refine znl (hK0 _ _ ?_); clear hK0
 refine zsr fun K1 hK1 => ?_
 refine goCh Hz (.fa 0 rfl U57 <| .lb m4 20 U3 rfl rfl rfl <| .fa 0 rfl U57 <| .lb m4 21 U3 rfl rfl rfl <| .eql rfl rfl <| .move rfl <| .nil) ?_
 clear Hz Az; intro Az Hz
 refine bool_cases Hz (t := 10) rfl ?_ ?_
 rotate_left
 · intro hb _; exact absurd hb (by simp)
 clear Hz; intro _ Hz
 refine goCh Hz (.faZ 1 rfl U57 <| .loadB1Z m4 (i := 20) rfl rfl rfl U3 rfl <| .faZ 1 rfl U57 <| .loadB1Z m4 (i := 21) rfl rfl rfl U3 rfl <| .eqlZ rfl rfl <| .pickT rfl rfl <| .move rfl <| .nil) ?_
 clear Hz Az; intro Az Hz
 refine bool_cases Hz (t := 17) rfl ?_ ?_
 rotate_left
 · intro hb _; exact absurd hb (by simp)
 clear Hz; intro _ Hz
 refine goCh Hz (.faZ 2 rfl U57 <| .loadB1Z m4 (i := 20) rfl rfl rfl U3 rfl <| .faZ 2 rfl U57 <| .loadB1Z m4 (i := 21) rfl rfl rfl U3 rfl <| .eqlZ rfl rfl <| .pickT rfl rfl <| .move rfl <| .nil) ?_
 clear Hz Az; intro Az Hz
 refine bool_cases Hz (t := 24) rfl ?_ ?_
 rotate_left
 · intro hb _; exact absurd hb (by simp)
 clear Hz; intro _ Hz
 refine goCh Hz (.faZ 3 rfl U57 <| .loadB1Z m4 (i := 20) rfl rfl rfl U3 rfl <| .faZ 3 rfl U57 <| .loadB1Z m4 (i := 21) rfl rfl rfl U3 rfl <| .eqlZ rfl rfl <| .pickT rfl rfl <| .move rfl <| .nil) ?_
 clear Hz Az; intro Az Hz
 refine bool_cases Hz (t := 31) rfl ?_ ?_
 rotate_left
 · intro hb _; exact absurd hb (by simp)
 clear Hz; intro _ Hz
 refine goCh Hz (.faZ 4 rfl U57 <| .loadB1Z m4 (i := 20) rfl rfl rfl U3 rfl <| .faZ 4 rfl U57 <| .loadB1Z m4 (i := 21) rfl rfl rfl U3 rfl <| .eqlZ rfl rfl <| .pickT rfl rfl <| .move rfl <| .nil) ?_
 clear Hz Az; intro Az Hz
 refine bool_cases Hz (t := 38) rfl ?_ ?_
 rotate_left
 · intro hb _; exact absurd hb (by simp)
 clear Hz; intro _ Hz
 refine goCh Hz (.faZ 5 rfl U57 <| .loadB1Z m4 (i := 20) rfl rfl rfl U26 rfl <| .faZ 5 rfl U57 <| .loadB1Z m4 (i := 21) rfl rfl rfl U26 rfl <| .nil) ?_
 clear Hz Az; intro Az Hz
 refine st_ge Hz rfl rfl rfl rfl (fun K hK => ?_)
 refine e_call Hz Try.func56 rfl rfl rfl rfl (hints_any c9.pl _ _ _ _ _ hp ((h1.now' m4 rfl).any) ((h3.now' m4 rfl).any)) ?_
 rintro e w55 ⟨rfl, hb55⟩
 have m56 := m4.later hb55
 clear m4
 clear hb55
 refine ⟨_, rfl, ?_⟩; clear Hz Az; intro Az Hz
 refine hK _ _ ?_; clear hK
 refine goCh Hz (.pickT rfl rfl <| .move rfl <| .faZ 6 rfl U57 <| .loadB1Z m56 (i := 20) rfl rfl rfl U3 rfl <| .faZ 6 rfl U57 <| .loadB1Z m56 (i := 21) rfl rfl rfl U3 rfl <| .eqlZ rfl rfl <| .pickT rfl rfl <| .move rfl <| .nil) ?_
 clear Hz Az; intro Az Hz
 refine bool_cases Hz (t := 52) rfl ?_ ?_
 rotate_left
 · intro hb _; exact absurd hb (by simp)
 clear Hz; intro _ Hz
 refine goCh Hz (.faZ 7 rfl U57 <| .loadB1Z m56 (i := 20) rfl rfl rfl U2 rfl <| .faZ 7 rfl U57 <| .loadB1Z m56 (i := 21) rfl rfl rfl U2 rfl <| .eqlZ rfl rfl <| .pickT rfl rfl <| .move rfl <| .nil) ?_
 clear Hz Az; intro Az Hz
 refine bool_cases Hz (t := 59) rfl ?_ ?_
 rotate_left
 · intro hb _; exact absurd hb (by simp)
 clear Hz; intro _ Hz
 refine goCh Hz (.faZ 8 rfl U57 <| .loadB1Z m56 (i := 20) rfl rfl rfl U3 rfl <| .faZ 8 rfl U57 <| .loadB1Z m56 (i := 21) rfl rfl rfl U3 rfl <| .eqlZ rfl rfl <| .pickT rfl rfl <| .move rfl <| .nil) ?_
 clear Hz Az; intro Az Hz
 refine bool_cases Hz (t := 66) rfl ?_ ?_
 rotate_left
 · intro hb _; exact absurd hb (by simp)
 clear Hz; intro _ Hz
 refine goCh Hz (.faZ 9 rfl U57 <| .loadB1Z m56 (i := 20) rfl rfl rfl U22 rfl <| .faZ 9 rfl U57 <| .loadB1Z m56 (i := 21) rfl rfl rfl U22 rfl <| .nil) ?_
 clear Hz Az; intro Az Hz
 refine st_ge Hz rfl rfl rfl rfl (fun K hK => ?_)
 refine e_call Hz Try.func38 rfl rfl rfl rfl (sitems_any c9.its _ _ _ _ _ _ _ ((h2.now' m56 rfl).any) ((h4.now' m56 rfl).any) hi) ?_
 rintro e w88 ⟨rfl, hb88⟩
 have m89 := m56.later hb88
 clear m56
 clear hb88
 refine ⟨_, rfl, ?_⟩; clear Hz Az; intro Az Hz
 refine hK _ _ ?_; clear hK
 refine goCh Hz (.pickT rfl rfl <| .assign rfl <| .nil) ?_
 clear Hz Az; intro Az Hz
 refine znl (hK1 _ _ ?_); clear hK1
 refine wp_ret ?_
 try dsimp only [Exit.then, Exit.inBlock]
 refine (ret1 (fn := Try.f32) Hz rfl rfl ?_)
 exact ⟨by simp, m89.below⟩
theorem hcmds_any (cs : List RC) (p1 p2 : Option Addr) (n1 n2 c1 c2 : Nat) (w0 : World) (h1 : Rd (fun _ => True) w0 (.slice p1 n1 c1) (.l 10 (cs.map cmdD))) (h2 : Rd (fun _ => True) w0 (.slice p2 n2 c2) (.l 10 (cs.map cmdD))) (hl : cs.length ≤ 1000000) (hok : ∀ c ∈ cs, c.pl.length ≤ 1000000 ∧ c.its.length ≤ 1000000 ∧ ItsOk c.its) :
   Calls Try.prog 12 #[.slice p1 n1 c1, .slice p2 n2 c2] w0 fun e w' => e = .returned (.bool true) ∧ Below w0.heap.size w0 w' := by
 obtain rfl : n1 = cs.length := by obtain ⟨pq, cq, hv, _⟩ := h1.l_shape; injection hv with _ e2 _; rw [List.length_map] at e2; exact e2
 obtain rfl : n2 = cs.length := by obtain ⟨pq, cq, hv, _⟩ := h2.l_shape; injection hv with _ e2 _; rw [List.length_map] at e2; exact e2
 refine ent2 Try.func12 rfl Try.ntmps12 fun Az Hz => ?_
 have m0 := MemOk.start (fun _ => False) w0
 refine regS Hz (.assign rfl <| .nil) ?_
 clear Hz Az; intro Az Hz
 refine wp_seq_k (fun K0 hK0 => ?_)
 refine regS Hz (.move rfl <| .len rfl U31 <| .move rfl <| .len rfl U31 <| .neq rfl rfl <| .nil) ?_
 clear Hz Az; intro Az Hz
 refine bool_cases Hz (t := 10) rfl ?_ ?_
 · intro hb _; exact absurd hb (by simp)
 clear Hz; intro _ Hz
 refine wp_cond_false (Hz.ev (x := .tmp 10) rfl) ?_
 refine zss (hK0 _ _ ?_); clear hK0
 refine wp_seq_k (fun K1 hK1 => ?_)
 refine regS Hz (.assign rfl <| .nil) ?_
 clear Hz Az; intro Az Hz
 refine wp_block ?_
 refine wp_loop_ghost (fun g a w => ∃ k : Nat, k ≤ cs.length ∧ g = cs.length - k ∧ Has 27 [(0, .slice p1 cs.length c1), (1, .slice p2 cs.length c2), (5, .int .i64 k)] a ∧ MemOk (cn w0) w0 [] w) (cs.length) ?_ ?_
 · exact ⟨0, Nat.zero_le _, rfl, Hz.only [0, 1, 5], m0.only []⟩
 clear Hz m0
 rintro g Az w9 ⟨k, hkl, hg, Hz, m9⟩
 refine wp_seq_k (fun K2 hK2 => ?_)
 refine regS Hz (.move rfl <| .move rfl <| .len rfl U31 <| .lss rfl rfl <| .nil) ?_
 clear Hz Az; intro Az Hz
 refine bool_cases Hz (t := 14) rfl ?_ ?_
 ·
  clear Hz; intro hb14 Hz; try simp only [QQ, Qax] at hb14
  have hk : k < cs.length := by omega
  obtain ⟨c9, hes⟩ : ∃ e, cs[k]? = some e := ⟨_, List.getElem?_eq_getElem hk⟩
  have hc9 := hok _ (List.mem_of_getElem? hes)
  refine wp_cond_true (Hz.ev (x := .tmp 14) rfl) ?_
  refine zss (hK2 _ _ ?_); clear hK2
  refine wp_seq_k (fun K3 hK3 => ?_)
  refine wp_block ?_
  refine wp_seq_k (fun K4 hK4 => ?_)
  obtain ⟨gx16, ox16, vx16, hp16, hl16, hR16, hrg16⟩ := h1.extA (k) (r := [.v (.int .i64 c9.kd), .v (.int .i64 c9.vo), .v (.int .i64 c9.bl), .v (.int .i64 c9.sz), .v (.int .i64 c9.pe), .ns .i64 c9.pl, .v (.int .i64 c9.to), .v (.int .i64 c9.at0), .v (.int .i64 c9.ix), .l 2 (c9.its.map itD)]) (cmdD_get hes)
  cases hp16; clear hl16
  rcases hR16 with _ | ⟨hd16_0, _ | ⟨hd16_1, _ | ⟨hd16_2, _ | ⟨hd16_3, _ | ⟨hd16_4, _ | ⟨hd16_5, _ | ⟨hd16_6, _ | ⟨hd16_7, _ | ⟨hd16_8, _ | ⟨hd16_9, _ | _⟩⟩⟩⟩⟩⟩⟩⟩⟩⟩
  obtain rfl := hd16_0.v_out
  clear hd16_0
  obtain rfl := hd16_1.v_out
  clear hd16_1
  obtain rfl := hd16_2.v_out
  clear hd16_2
  obtain rfl := hd16_3.v_out
  clear hd16_3
  obtain rfl := hd16_4.v_out
  clear hd16_4
  obtain ⟨p17, c17, hv17, hw17⟩ := hd16_5.ns_shape; subst hv17
  obtain rfl := hd16_6.v_out
  clear hd16_6
  obtain rfl := hd16_7.v_out
  clear hd16_7
  obtain rfl := hd16_8.v_out
  clear hd16_8
  obtain ⟨p18, c18, hv18, hw18⟩ := hd16_9.l_shape; subst hv18
  obtain ⟨gx20, ox20, vx20, hp20, hl20, hR20, hrg20⟩ := h2.extA (k) (r := [.v (.int .i64 c9.kd), .v (.int .i64 c9.vo), .v (.int .i64 c9.bl), .v (.int .i64 c9.sz), .v (.int .i64 c9.pe), .ns .i64 c9.pl, .v (.int .i64 c9.to), .v (.int .i64 c9.at0), .v (.int .i64 c9.ix), .l 2 (c9.its.map itD)]) (cmdD_get hes)
  cases hp20; clear hl20
  rcases hR20 with _ | ⟨hd20_0, _ | ⟨hd20_1, _ | ⟨hd20_2, _ | ⟨hd20_3, _ | ⟨hd20_4, _ | ⟨hd20_5, _ | ⟨hd20_6, _ | ⟨hd20_7, _ | ⟨hd20_8, _ | ⟨hd20_9, _ | _⟩⟩⟩⟩⟩⟩⟩⟩⟩⟩
  obtain rfl := hd20_0.v_out
  clear hd20_0
  obtain rfl := hd20_1.v_out
  clear hd20_1
  obtain rfl := hd20_2.v_out
  clear hd20_2
  obtain rfl := hd20_3.v_out
  clear hd20_3
  obtain rfl := hd20_4.v_out
  clear hd20_4
  obtain ⟨p21, c21, hv21, hw21⟩ := hd20_5.ns_shape; subst hv21
  obtain rfl := hd20_6.v_out
  clear hd20_6
  obtain rfl := hd20_7.v_out
  clear hd20_7
  obtain rfl := hd20_8.v_out
  clear hd20_8
  obtain ⟨p22, c22, hv22, hw22⟩ := hd20_9.l_shape; subst hv22
  have m23 : MemOk _ _ [] _ := m9.only []; clear m9
  refine region_p 10 (B := []) (m23.to trivial) m23 (by kernel_rfl) (fun w24 hP24 m24 => ?_); clear m23
  refine goR hP24 [0, 1, 2, 3, 4, 5, 6, 7] [3, 7] 8 0 255 Hz (m24.to trivial) (.move rfl <| .move rfl <| .p (fun _ _ h => y_idx h rfl rfl U31 fct1 (k) rfl hk) <| .loadAt (fun _ h => (hrg16 h rfl)) rfl U57 rfl fct1 <| .move rfl <| .move rfl <| .p (fun _ _ h => y_idx h rfl rfl U31 fct1 (k) rfl hk) <| .loadAt (fun _ h => (hrg20 h rfl)) rfl U57 rfl fct1 <| .nil) ?_
  clear Hz Az; intro Az Hz
  refine stepE_only 8 rfl (by kernel_rfl) rfl (fun K hK => ?_)
  refine e_call Hz Try.func32 rfl rfl rfl rfl (hcmd_any c9 _ _ _ _ _ _ _ _ _ _ _ ((hd16_5.now' m24 rfl).any) ((hd16_9.now' m24 rfl).any) ((hd20_5.now' m24 rfl).any) ((hd20_9.now' m24 rfl).any) hc9.1 hc9.2.1) ?_
  rintro e w33 ⟨rfl, hb33⟩
  have m34 := m24.later hb33
  clear m24
  clear hb33
  refine ⟨_, rfl, ?_⟩; clear Hz Az; intro Az Hz
  refine hK _ _ (m34.to trivial) ?_; clear hK K
  refine goA hP24 [9] 1 511 1023 Hz (m34.to trivial) (.not rfl <| .nil) ?_
  clear Hz Az; intro Az Hz
  refine wpAnyE_done (by kernel_rfl) ?_ _
  refine hK4 _ _ ?_; clear hK4
  refine wp_cond_false (Hz.ev (x := .tmp 26) rfl) ?_
  refine zss (hK3 _ _ ?_); clear hK3
  replace Hz : Has 27 [(0, _), (1, _), (5, _)] Az := Hz.only [0, 1, 5]
  refine wp_region_lit ?_
  refine goCh Hz (.move rfl <| .add rfl rfl (r := ((k + 1 : Nat) : Int)) (by rw [IntWalk.i64_in _ (by omega)]; omega) <| .assign rfl <| .nil) ?_
  clear Hz Az; intro Az Hz
  refine wpList_nil ?_
  show ∃ n', n' < _ ∧ _
  exact ⟨cs.length - (k + 1), by omega, k + 1, by omega, rfl, Hz.only [0, 1, 5], m34.only []⟩
 clear Hz; intro hb14 Hz; try simp only [QQ, Qax] at hb14
 obtain rfl : k = cs.length := by omega
 refine wp_cond_false (Hz.ev (x := .tmp 14) rfl) ?_
 refine wp_exit ?_
 refine hK1 _ _ ?_; clear hK1
 refine regS Hz (.assign rfl <| .nil) ?_
 clear Hz Az; intro Az Hz
 refine wp_ret ?_
 try dsimp only [Exit.then, Exit.inBlock]
 refine (ret1 (fn := Try.f12) Hz rfl rfl ?_)
 exact ⟨rfl, m9.below⟩
end Go.Proofs.Ytkdnhndjjfjppaa.K
