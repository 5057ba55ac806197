/- The reference's Need and Append. -/
import Derived.Test.YtogjhjiapinmcaaDoorWalR3
namespace Go.Proofs.YtogjhjiapinmcaaDoor.K
open Go.ChangeShapes Go.WideShapes Go.ChangeAt Go.RowKit
set_option linter.unusedVariables false
set_option linter.unusedSimpArgs false

theorem sz24rne : (Tryd.prog.info? 24).map (·.size) = some 1 := by kernel_rfl
theorem inf24rao : (Tryd.prog.info? 24).map (fun i => (i.zero, i.size, i.bytes)) = some (some (.slice none 0 0), 1, 24) := by kernel_rfl
theorem sz24rao : (Tryd.prog.info? 24).map (·.size) = some 1 := by kernel_rfl
theorem inf24rap : (Tryd.prog.info? 24).map (fun i => (i.zero, i.size, i.bytes)) = some (some (.slice none 0 0), 1, 24) := by kernel_rfl
theorem sz24rap : (Tryd.prog.info? 24).map (·.size) = some 1 := by kernel_rfl
theorem inf24rax : (Tryd.prog.info? 24).map (fun i => (i.zero, i.size, i.bytes)) = some (some (.slice none 0 0), 1, 24) := by kernel_rfl

set_option maxRecDepth 100000
set_option maxHeartbeats 4000000
theorem rneed_x (ls : List (List Int)) (q : Option Addr) (cq : Nat) (w0 : World) (h0 : Rd (fun _ => True) w0 (.slice q ls.length cq) (.l 1 (ls.map bD))) (hl : ls.length ≤ 1000) (hb : ∀ l ∈ ls, BytesL l ∧ l.length ≤ 9000) :
   Calls Tryd.prog 14 #[.slice q ls.length cq] w0 fun e w' => e = .returned (.int .i64 (needN ls : Int)) ∧ Below w0.heap.size w0 w' := by
 refine enter (fn := Tryd.f14) Tryd.func14 rfl Tryd.ntmps14 rfl (fun Az Hz => ?_)
 simp only [List.zipIdx_cons, List.zipIdx_nil, List.map_cons, List.map_nil, Nat.reduceAdd, Nat.zero_add] at Hz
 have m0 := MemOk.start (fun _ => False) w0
 refine regS Hz (.assign rfl <| .nil) ?_
 clear Hz Az; intro Az Hz
 refine regS Hz (.assign rfl <| .nil) ?_
 clear Hz Az; intro Az Hz
 refine wp_seq_k (fun K0 hK0 => ?_)
 refine regS Hz (.assign rfl <| .nil) ?_
 clear Hz Az; intro Az Hz
 refine wp_block ?_
 refine wp_loop_ghost (fun g a w => ∃ (k : Nat), k ≤ ls.length ∧ g = ls.length - k ∧ Has 20 [(0, .slice q ls.length cq), (3, .int .i64 (needN (ls.take k) : Nat)), (4, .int .i64 k)] a ∧ MemOk (cn w0) w0 [] w) (ls.length) ?_ ?_
 · exact ⟨0, Nat.zero_le _, rfl, Hz.only [0, 3, 4], m0.only []⟩
 ·
  clear Hz m0
  rintro g Az w4 ⟨k, hkl, hg, Hz, m4⟩
  refine wp_seq_k (fun K1 hK1 => ?_)
  refine regS Hz (.move rfl <| .move rfl <| .len rfl Tryd.underlying22 <| .lss rfl rfl <| .nil) ?_
  clear Hz Az; intro Az Hz
  refine bool_cases Hz (t := 8) rfl ?_ ?_
  ·
   clear Hz; intro hb9 Hz
   try simp only [Q1x, Q2x, Q3x, Q4x, Q5x, Q6x, Q7x, Q8x, Q9x, Q0x, Qax, Qbx] at hb9
   have hk : k < ls.length := by have := hb9; first | omega | (simp at this; omega)
   have hlm : (ls.getD k []) ∈ ls := by rw [List.getD, List.getElem?_eq_getElem hk]; exact List.getElem_mem hk
   have hlk := (hb _ hlm).2
   have hlb := (hb _ hlm).1
   have hNt := needN_take hk
   have hNl := needN_le (B := 9000) (ls := ls.take k) (fun l hl => (hb l (List.mem_of_mem_take hl)).2)
   rw [List.length_take] at hNl
   have hr := recN_le (n := (ls.getD k []).length)
   have hs : secN (recN (ls.getD k []).length) ≤ recN (ls.getD k []).length + 47 := by unfold secN; omega
   refine wp_cond_true (Hz.ev (x := .tmp 8) rfl) ?_
   refine wp_skip ?_
   refine hK1 _ _ ?_; clear hK1; try clear K1
   refine wp_seq_k (fun K2 hK2 => ?_)
   refine wp_block ?_
   refine wp_region_lit ?_
   refine goCh Hz (.move rfl <| .move rfl <| .move rfl <| .nil) ?_
   clear Hz Az; intro Az Hz
   obtain ⟨gx13, ox13, vx13, hp13, hl13, hR13, hrg13⟩ := h0.extA (k) (r := bD (ls.getD k [])) (bD_at hk)
   cases hp13; clear hl13
   rcases hR13 with _ | ⟨hd13_0, _ | _⟩
   obtain ⟨p14, c14, hv14, hw14⟩ := hd13_0.ns_shape; subst hv14
   refine goCh Hz (.c rfl (fun _ h => y_idx h rfl rfl Tryd.underlying22 sz24rne (k) rfl hk) <| .loadAt1 (hrg13 m4 rfl) (q := 0) rfl rfl rfl Tryd.underlying24 rfl <| .nil) ?_
   clear Hz Az; intro Az Hz
   refine wpList_plain rfl (fun K hK => ?_)
   refine e_call Hz Tryd.func28 rfl rfl rfl rfl (record_x 0 (ls.getD k []) _ _ _ ((hd13_0.now' m4 rfl).any) hlb hlk) ?_
   rintro e w17 ⟨p17, c17, rfl, hd17, hb17⟩
   have m18 := m4.callF 101 rfl hb17 hd17
   clear m4
   clear hb17 hd17
   refine ⟨_, rfl, ?_⟩; clear Hz Az; intro Az Hz
   refine hK _ _ ?_; clear hK K
   refine goCh Hz (.len rfl Tryd.underlying22 <| .add rfl rfl (r := ((needN (ls.take (k + 1)) : Nat) : Int)) (by rw [hNt, List.length_map, List.length_range, IntWalk.i64_in _ (by omega)]; omega) <| .assign rfl <| .nil) ?_
   clear Hz Az; intro Az Hz
   refine wpList_nil ?_
   refine hK2 _ _ ?_; clear hK2; try clear K2
   replace Hz : Has 20 [(0, _), (3, _), (4, _)] Az := Hz.only [0, 3, 4]
   refine wp_region_lit ?_
   refine goCh Hz (.move rfl <| .add rfl rfl (r := ((k + 1 : Nat) : Int)) (by rw [IntWalk.i64_in _ (by omega)]; omega) <| .assign rfl <| .nil) ?_
   clear Hz Az; intro Az Hz
   refine wpList_nil ?_
   show ∃ n', n' < _ ∧ _
   exact ⟨ls.length - (k + 1), by omega, k + 1, by omega, rfl, Hz.only [0, 3, 4], m18.only []⟩
  ·
   clear Hz; intro hb9 Hz
   try simp only [Q1x, Q2x, Q3x, Q4x, Q5x, Q6x, Q7x, Q8x, Q9x, Q0x, Qax, Qbx] at hb9
   obtain rfl : k = ls.length := by have := hb9; first | omega | (simp at this; omega)
   refine wp_cond_false (Hz.ev (x := .tmp 8) rfl) ?_
   refine wp_exit ?_
   refine hK0 _ _ ?_; clear hK0; try clear K0
   refine regS Hz (.move rfl <| .assign rfl <| .nil) ?_
   clear Hz Az; intro Az Hz
   refine wp_ret ?_
   try dsimp only [Exit.then, Exit.inBlock]
   refine (ret1 (fn := Tryd.f14) Hz rfl rfl ?_)
   rw [List.take_length]
   exact ⟨rfl, m4.below⟩
def wlK (f : Nat) (gn : Int) (r : List Int) (k : Nat) : List (Int × List Int) := (List.range k).map fun q => (((f + q : Nat) : Int), chunkP gn r q)
theorem wlK_len {f : Nat} {gn : Int} {r : List Int} {k : Nat} : (wlK f gn r k).length = k := by unfold wlK; rw [List.length_map, List.length_range]
theorem wlK_snoc {wl : List (Int × List Int)} {f : Nat} {gn : Int} {r : List Int} {k : Nat} : (wl ++ wlK f gn r k) ++ [(((f + k : Nat) : Int), pad (chunkP gn r k))] = wl ++ wlK f gn r (k + 1) := by
 unfold wlK
 rw [List.range_succ, List.map_append, List.append_assoc, pad_chunk]; rfl
theorem chs_at {gn : Int} {r : List Int} {N k : Nat} (hk : k < N) : (((List.range N).map (chunkP gn r)).map bD)[k]? = some (bD (chunkP gn r k)) := by
 rw [List.getElem?_map, List.getElem?_map, List.getElem?_range hk]; rfl
theorem rappend_v (X : Cx) (B : Nat) (secs : List (List Int)) (wl : List (Int × List Int)) (f to : Nat) (gn : Int) (b : List Int) (pS pl pb : Option Addr) (cS cl cb : Nat) (w0 : World) (hbb : BytesL b) (hbl : b.length ≤ 9000) (hto : to ≤ 1000000) (hwl : wl.length ≤ 100000) (hft : f + (secN (recN b.length)) ≤ to) (hts : f + (secN (recN b.length)) ≤ secs.length) (m0 : MemOk X w0 [(1, .box B 60 [.slice pS secs.length cS, .slice pl wl.length cl, .int .i64 (-1)]), (2, .dat (.slice pS secs.length cS) (.l 1 (secs.map bD))), (3, .dat (.slice pl wl.length cl) (.l 2 (wl.map wD))), (4, .dat (.slice pb b.length cb) (.ns .u8 b))] w0) :
   Calls Tryd.prog 12 #[.pointer (some ⟨B, 0, none⟩), .int .i64 f, .int .i64 to, .int .u64 gn, .slice pb b.length cb] w0 fun e w' => e = .returned (.tuple #[.int .i64 (f + (secN (recN b.length)) : Nat), .int .i64 0]) ∧ ∃ (p' : Option Addr) (c' : Nat), MemOk X w0 [(1, .box B 60 [.slice pS secs.length cS, .slice p' (wl ++ wlK f gn (recV b) (secN (recN b.length))).length c', .int .i64 (-1)]), (2, .dat (.slice pS secs.length cS) (.l 1 (secs.map bD))), (3, .dat (.slice p' (wl ++ wlK f gn (recV b) (secN (recN b.length))).length c') (.l 2 ((wl ++ wlK f gn (recV b) (secN (recN b.length))).map wD))), (4, .dat (.slice pb b.length cb) (.ns .u8 b))] w' := by
 have hrn := recN_le (n := b.length)
 have hrs : secN (recN b.length) ≤ 10000 := by unfold secN; omega
 refine enter (fn := Tryd.f12) Tryd.func12 rfl Tryd.ntmps12 rfl (fun Az Hz => ?_)
 simp only [List.zipIdx_cons, List.zipIdx_nil, List.map_cons, List.map_nil, Nat.reduceAdd, Nat.zero_add] at Hz
 refine regS Hz (.assign rfl <| .assign rfl <| .nil) ?_
 clear Hz Az; intro Az Hz
 refine wp_seq_k (fun K0 hK0 => ?_)
 refine regS Hz (.move rfl <| .len rfl Tryd.underlying24 <| .gtr rfl rfl <| .nil) ?_
 clear Hz Az; intro Az Hz
 refine bool_cases Hz (t := 18) rfl ?_ ?_
 · intro hb _; exact absurd hb (by rw [decide_eq_true_eq]; omega)
 clear Hz; intro _ Hz
 refine wp_cond_false (Hz.ev (x := .tmp 18) rfl) ?_
 refine wp_skip ?_
 refine hK0 _ _ ?_; clear hK0; try clear K0
 refine wp_seq_k (fun K1 hK1 => ?_)
 refine wp_region_lit ?_
 refine goCh Hz (.move rfl .nil) ?_
 clear Hz Az; intro Az Hz
 refine wpList_plain rfl (fun K hK => ?_)
 refine e_litR Hz m0 20 (mm := 1) rfl (.cons rfl rfl (.cons (m0.rd (i := 4) rfl) .nil) <| .nil) Tryd.underlying22 inf24rao rfl rfl rfl rfl rfl ?_
 clear Hz Az m0; intro g9 Az w10 Hz m10
 refine hK _ _ ?_; clear hK K
 have m11 := m10.freezeR 20 rfl; clear m10
 refine wpList_plain rfl (fun K hK => ?_)
 refine e_call Hz Tryd.func14 rfl rfl rfl rfl (rneed_x [b] _ _ _ (m11.rd (i := 20) rfl).any (by simp) (fun l hl => by rw [List.mem_singleton] at hl; rw [hl]; exact ⟨hbb, hbl⟩)) ?_
 rintro e w12 ⟨rfl, hb12⟩
 have m13 := m11.later hb12
 clear m11
 clear hb12
 refine ⟨_, rfl, ?_⟩; clear Hz Az; intro Az Hz
 refine hK _ _ ?_; clear hK K
 refine goCh Hz (.assign rfl .nil) ?_
 clear Hz Az; intro Az Hz
 refine wpList_nil ?_
 refine hK1 _ _ ?_; clear hK1; try clear K1
 refine wp_seq_k (fun K2 hK2 => ?_)
 replace Hz : Has 59 [(0, _), (1, _), (2, _), (3, _), (4, _), (10, _), (11, _), (12, _)] Az := Hz.only [0, 1, 2, 3, 4, 10, 11, 12]
 refine wp_seq_k (fun K3 hK3 => ?_)
 refine wp_region_lit ?_
 refine goCh Hz (.move rfl <| .lss rfl rfl <| .move rfl <| .nil) ?_
 clear Hz Az; intro Az Hz
 refine bool_cases Hz (t := 24) rfl ?_ ?_
 · intro hb _; exact absurd hb (by rw [decide_eq_true_eq]; omega)
 clear Hz; intro _ Hz
 refine goCh Hz (.moveZ rfl <| .moveZ rfl <| .gtrZ rfl rfl <| .pickF rfl rfl <| .move rfl <| .nil) ?_
 clear Hz Az; intro Az Hz
 refine bool_cases Hz (t := 29) rfl ?_ ?_
 · intro hb _; exact absurd hb (by rw [decide_eq_true_eq]; omega)
 clear Hz; intro _ Hz
 refine goCh Hz (.moveZ rfl <| .moveZ rfl <| .moveZ rfl <| .subZ rfl rfl (r := (to : Int) - f) (IntWalk.i64_in _ (by omega)) <| .gtrZ rfl rfl <| .pickF rfl rfl <| .nil) ?_
 clear Hz Az; intro Az Hz
 refine wpList_nil ?_
 refine hK3 _ _ ?_; clear hK3; try clear K3
 refine bool_cases Hz (t := 35) rfl ?_ ?_
 · intro hb _; exact absurd hb (by rw [decide_eq_true_eq]; simp only [needN]; omega)
 clear Hz; intro _ Hz
 refine wp_cond_false (Hz.ev (x := .tmp 35) rfl) ?_
 refine wp_skip ?_
 refine hK2 _ _ ?_; clear hK2; try clear K2
 replace Hz : Has 59 [(0, _), (1, _), (3, _), (4, _), (10, _), (11, _), (12, _)] Az := Hz.only [0, 1, 3, 4, 10, 11, 12]
 refine wp_seq_k (fun K4 hK4 => ?_)
 refine wp_region_lit ?_
 refine goCh Hz (.move rfl <| .move rfl <| .nil) ?_
 clear Hz Az; intro Az Hz
 refine wpList_plain rfl (fun K hK => ?_)
 refine e_call Hz Tryd.func28 rfl rfl rfl rfl (record_x gn b _ _ _ (m13.rd (i := 4) rfl).any hbb hbl) ?_
 rintro e w42 ⟨p42, c42, rfl, hd42, hb42⟩
 have m43 := m13.callF 21 rfl hb42 hd42
 clear m13
 clear hb42 hd42
 refine ⟨_, rfl, ?_⟩; clear Hz Az; intro Az Hz
 refine hK _ _ ?_; clear hK K
 refine goCh Hz (.assign rfl .nil) ?_
 clear Hz Az; intro Az Hz
 refine wpList_nil ?_
 refine hK4 _ _ ?_; clear hK4; try clear K4
 refine wp_seq_k (fun K5 hK5 => ?_)
 refine regS Hz (.assign rfl <| .nil) ?_
 clear Hz Az; intro Az Hz
 refine wp_block ?_
 refine wp_loop_ghost (fun g a w => ∃ (k : Nat) (p9 : Option Addr) (c9 : Nat), k ≤ (secN (recN b.length)) ∧ g = (secN (recN b.length)) - k ∧ Has 59 [(0, .pointer (some ⟨B, 0, none⟩)), (1, .int .i64 (f : Nat)), (12, .int .i64 ((secN (recN b.length)) : Nat)), (13, .slice p42 ((List.range (secN (recN b.length))).map (chunkP gn (recV b))).length c42), (14, .int .i64 k)] a ∧ MemOk X w0 [(1, .box B 60 [.slice pS secs.length cS, .slice p9 (wl ++ wlK f gn (recV b) k).length c9, .int .i64 (-1)]), (2, .dat (.slice pS secs.length cS) (.l 1 (secs.map bD))), (3, .dat (.slice p9 (wl ++ wlK f gn (recV b) k).length c9) (.l 2 ((wl ++ wlK f gn (recV b) k).map wD))), (4, .dat (.slice pb b.length cb) (.ns .u8 b)), (5, .dat (.slice p42 ((List.range (secN (recN b.length))).map (chunkP gn (recV b))).length c42) (.l 1 (((List.range (secN (recN b.length))).map (chunkP gn (recV b))).map bD)))] w) ((secN (recN b.length))) ?_ ?_
 · have e9 : (wl ++ wlK f gn (recV b) 0) = wl := by simp [wlK]
   exact ⟨0, pl, cl, Nat.zero_le _, rfl, Hz.only [0, 1, 12, 13, 14], by rw [e9]; exact m43.ren [(1, 1), (2, 2), (3, 3), (4, 4), (5, 21)] (by decide)⟩
 ·
  clear Hz m43
  rintro g Az w47 ⟨k, p9, c9, hkN, hg, Hz, m47⟩
  refine wp_seq_k (fun K6 hK6 => ?_)
  refine regS Hz (.move rfl <| .move rfl <| .lss rfl rfl <| .nil) ?_
  clear Hz Az; intro Az Hz
  refine bool_cases Hz (t := 41) rfl ?_ ?_
  ·
   clear Hz; intro hb51 Hz
   try simp only [Q1x, Q2x, Q3x, Q4x, Q5x, Q6x, Q7x, Q8x, Q9x, Q0x, Qax, Qbx] at hb51
   have hk : k < (secN (recN b.length)) := by have := hb51; first | omega | (simp only [needN, Nat.add_zero] at this; omega)
   refine wp_cond_true (Hz.ev (x := .tmp 41) rfl) ?_
   refine wp_skip ?_
   refine hK6 _ _ ?_; clear hK6; try clear K6
   refine wp_seq_k (fun K7 hK7 => ?_)
   refine wp_block ?_
   refine wp_seq_k (fun K8 hK8 => ?_)
   refine wp_region_lit ?_
   refine goCh Hz (.move rfl <| .move rfl <| .move rfl <| .add rfl rfl (r := ((f + k : Nat) : Int)) (by rw [IntWalk.i64_in _ (by omega)]; omega) <| .move rfl <| .move rfl <| .nil) ?_
   clear Hz Az; intro Az Hz
   obtain ⟨b65, o65, vs65, hp65, hR65, ho65, m65⟩ := m47.openR (i := 5) rfl (k) (r := bD (chunkP gn (recV b) k)) (chs_at (by omega)) 100 rfl
   cases hp65; clear m47 ho65
   rcases hR65 with _ | ⟨hd65_0, _ | _⟩
   obtain ⟨p66, c66, hv66, hc66⟩ := hd65_0.ns_shape; subst hv66
   have m66 := m65.dat 101 rfl (hd65_0.cast (fun _ h => (free_add rfl h))); clear m65 hd65_0
   refine goCh Hz (.c rfl (fun _ h => y_idx h rfl rfl Tryd.underlying22 sz24rao (k) rfl (show k < ((List.range (secN (recN b.length))).map (chunkP gn (recV b))).length by rw [List.length_map, List.length_range]; omega)) <| .loadC0 m66 (i := 100) rfl rfl Tryd.underlying24 rfl <| .nil) ?_
   clear Hz Az; intro Az Hz
   refine wpList_plain rfl (fun K hK => ?_)
   refine e_call Hz Tryd.func19 rfl rfl rfl rfl (rwrite_x _ _ secs (wl ++ wlK f gn (recV b) k) _ (chunkP gn (recV b) k) _ _ _ _ _ _ _ (by omega) (by rw [chunkP_len]; omega) (by rw [List.length_append, wlK_len]; omega) (m66.into [(1, 1), (2, 2), (3, 3), (4, 101)] (by decide) rfl)) ?_
   rintro e w69 ⟨rfl, pn69, cn69, hm69⟩
   have mx69 := m66.back hm69 [(1, 1), (2, 2), (3, 3), (101, 4)] (by decide); clear hm69 m66
   have m69 : MemOk _ _ [(1, _), (2, _), (3, _), (101, _), (4, _), (5, _), (100, _)] _ := mx69.only [1, 2, 3, 101, 4, 5, 100]; clear mx69
   refine ⟨_, rfl, ?_⟩; clear Hz Az; intro Az Hz
   refine hK _ _ ?_; clear hK K
   refine goCh Hz (.assign rfl .nil) ?_
   clear Hz Az; intro Az Hz
   refine wpList_nil ?_
   refine hK8 _ _ ?_; clear hK8; try clear K8
   replace Hz : Has 59 [(0, _), (1, _), (12, _), (13, _), (14, _), (15, _)] Az := Hz.only [0, 1, 12, 13, 14, 15]
   refine regS Hz (.move rfl <| .neq rfl rfl <| .nil) ?_
   clear Hz Az; intro Az Hz
   refine bool_cases Hz (t := 54) rfl ?_ ?_
   · intro hb _; exact absurd hb (by simp)
   clear Hz; intro _ Hz
   refine wp_cond_false (Hz.ev (x := .tmp 54) rfl) ?_
   refine wp_skip ?_
   refine hK7 _ _ ?_; clear hK7; try clear K7
   refine wp_region_lit ?_
   refine goCh Hz (.move rfl <| .add rfl rfl (r := ((k + 1 : Nat) : Int)) (by rw [IntWalk.i64_in _ (by omega)]; omega) <| .assign rfl <| .nil) ?_
   clear Hz Az; intro Az Hz
   refine wpList_nil ?_
   show ∃ n', n' < _ ∧ _
   have e9 : (wl ++ wlK f gn (recV b) k) ++ [(((f + k : Nat) : Int), pad (chunkP gn (recV b) k))] = (wl ++ wlK f gn (recV b) (k + 1)) := wlK_snoc
   rw [e9] at m69
   exact ⟨(secN (recN b.length)) - (k + 1), by omega, k + 1, _, _, by omega, rfl, Hz.only [0, 1, 12, 13, 14], m69.ren [(1, 1), (2, 2), (3, 3), (4, 4), (5, 5)] (by decide)⟩
  ·
   clear Hz; intro hb51 Hz
   try simp only [Q1x, Q2x, Q3x, Q4x, Q5x, Q6x, Q7x, Q8x, Q9x, Q0x, Qax, Qbx] at hb51
   obtain rfl : k = (secN (recN b.length)) := by have := hb51; first | omega | (simp only [needN, Nat.add_zero] at this; omega)
   refine wp_cond_false (Hz.ev (x := .tmp 41) rfl) ?_
   refine wp_exit ?_
   refine hK5 _ _ ?_; clear hK5; try clear K5
   refine regS Hz (.move rfl <| .move rfl <| .add rfl rfl (r := ((f + (secN (recN b.length)) : Nat) : Int)) (by rw [IntWalk.i64_in _ (by omega)]; omega) <| .assign rfl <| .assign rfl <| .nil) ?_
   clear Hz Az; intro Az Hz
   refine wp_ret ?_
   try dsimp only [Exit.then, Exit.inBlock]
   refine (ret2 (fn := Tryd.f12) Hz rfl rfl rfl ?_)
   exact ⟨rfl, _, _, m47.ren [(1, 1), (2, 2), (3, 3), (4, 4)] (by decide)⟩
theorem rappend_p (X : Cx) (B : Nat) (secs : List (List Int)) (wl : List (Int × List Int)) (f to : Nat) (gn : Int) (b : List Int) (pS pl pb : Option Addr) (cS cl cb : Nat) (w0 : World) (hbb : BytesL b) (hbl : b.length ≤ 9000) (hto : to ≤ 1000000) (hwl : wl.length ≤ 100000) (hft : f + (secN (recN b.length)) ≤ to) (hfl : f ≤ secs.length) (hts : secs.length < f + (secN (recN b.length))) (m0 : MemOk X w0 [(1, .box B 60 [.slice pS secs.length cS, .slice pl wl.length cl, .int .i64 (-1)]), (2, .dat (.slice pS secs.length cS) (.l 1 (secs.map bD))), (3, .dat (.slice pl wl.length cl) (.l 2 (wl.map wD))), (4, .dat (.slice pb b.length cb) (.ns .u8 b))] w0) :
   Calls Tryd.prog 12 #[.pointer (some ⟨B, 0, none⟩), .int .i64 f, .int .i64 to, .int .u64 gn, .slice pb b.length cb] w0 fun e w' => e = .returned (.tuple #[.int .i64 0, .int .i64 25]) ∧ ∃ (p' : Option Addr) (c' : Nat), MemOk X w0 [(1, .box B 60 [.slice pS secs.length cS, .slice p' (wl ++ wlK f gn (recV b) (secs.length - f)).length c', .int .i64 (-1)]), (2, .dat (.slice pS secs.length cS) (.l 1 (secs.map bD))), (3, .dat (.slice p' (wl ++ wlK f gn (recV b) (secs.length - f)).length c') (.l 2 ((wl ++ wlK f gn (recV b) (secs.length - f)).map wD))), (4, .dat (.slice pb b.length cb) (.ns .u8 b))] w' := by
 have hrn := recN_le (n := b.length)
 have hrs : secN (recN b.length) ≤ 10000 := by unfold secN; omega
 refine enter (fn := Tryd.f12) Tryd.func12 rfl Tryd.ntmps12 rfl (fun Az Hz => ?_)
 simp only [List.zipIdx_cons, List.zipIdx_nil, List.map_cons, List.map_nil, Nat.reduceAdd, Nat.zero_add] at Hz
 refine regS Hz (.assign rfl <| .assign rfl <| .nil) ?_
 clear Hz Az; intro Az Hz
 refine wp_seq_k (fun K0 hK0 => ?_)
 refine regS Hz (.move rfl <| .len rfl Tryd.underlying24 <| .gtr rfl rfl <| .nil) ?_
 clear Hz Az; intro Az Hz
 refine bool_cases Hz (t := 18) rfl ?_ ?_
 · intro hb _; exact absurd hb (by rw [decide_eq_true_eq]; omega)
 clear Hz; intro _ Hz
 refine wp_cond_false (Hz.ev (x := .tmp 18) rfl) ?_
 refine wp_skip ?_
 refine hK0 _ _ ?_; clear hK0; try clear K0
 refine wp_seq_k (fun K1 hK1 => ?_)
 refine wp_region_lit ?_
 refine goCh Hz (.move rfl .nil) ?_
 clear Hz Az; intro Az Hz
 refine wpList_plain rfl (fun K hK => ?_)
 refine e_litR Hz m0 20 (mm := 1) rfl (.cons rfl rfl (.cons (m0.rd (i := 4) rfl) .nil) <| .nil) Tryd.underlying22 inf24rap rfl rfl rfl rfl rfl ?_
 clear Hz Az m0; intro g9 Az w10 Hz m10
 refine hK _ _ ?_; clear hK K
 have m11 := m10.freezeR 20 rfl; clear m10
 refine wpList_plain rfl (fun K hK => ?_)
 refine e_call Hz Tryd.func14 rfl rfl rfl rfl (rneed_x [b] _ _ _ (m11.rd (i := 20) rfl).any (by simp) (fun l hl => by rw [List.mem_singleton] at hl; rw [hl]; exact ⟨hbb, hbl⟩)) ?_
 rintro e w12 ⟨rfl, hb12⟩
 have m13 := m11.later hb12
 clear m11
 clear hb12
 refine ⟨_, rfl, ?_⟩; clear Hz Az; intro Az Hz
 refine hK _ _ ?_; clear hK K
 refine goCh Hz (.assign rfl .nil) ?_
 clear Hz Az; intro Az Hz
 refine wpList_nil ?_
 refine hK1 _ _ ?_; clear hK1; try clear K1
 refine wp_seq_k (fun K2 hK2 => ?_)
 replace Hz : Has 59 [(0, _), (1, _), (2, _), (3, _), (4, _), (10, _), (11, _), (12, _)] Az := Hz.only [0, 1, 2, 3, 4, 10, 11, 12]
 refine wp_seq_k (fun K3 hK3 => ?_)
 refine wp_region_lit ?_
 refine goCh Hz (.move rfl <| .lss rfl rfl <| .move rfl <| .nil) ?_
 clear Hz Az; intro Az Hz
 refine bool_cases Hz (t := 24) rfl ?_ ?_
 · intro hb _; exact absurd hb (by rw [decide_eq_true_eq]; omega)
 clear Hz; intro _ Hz
 refine goCh Hz (.moveZ rfl <| .moveZ rfl <| .gtrZ rfl rfl <| .pickF rfl rfl <| .move rfl <| .nil) ?_
 clear Hz Az; intro Az Hz
 refine bool_cases Hz (t := 29) rfl ?_ ?_
 · intro hb _; exact absurd hb (by rw [decide_eq_true_eq]; omega)
 clear Hz; intro _ Hz
 refine goCh Hz (.moveZ rfl <| .moveZ rfl <| .moveZ rfl <| .subZ rfl rfl (r := (to : Int) - f) (IntWalk.i64_in _ (by omega)) <| .gtrZ rfl rfl <| .pickF rfl rfl <| .nil) ?_
 clear Hz Az; intro Az Hz
 refine wpList_nil ?_
 refine hK3 _ _ ?_; clear hK3; try clear K3
 refine bool_cases Hz (t := 35) rfl ?_ ?_
 · intro hb _; exact absurd hb (by rw [decide_eq_true_eq]; simp only [needN]; omega)
 clear Hz; intro _ Hz
 refine wp_cond_false (Hz.ev (x := .tmp 35) rfl) ?_
 refine wp_skip ?_
 refine hK2 _ _ ?_; clear hK2; try clear K2
 replace Hz : Has 59 [(0, _), (1, _), (3, _), (4, _), (10, _), (11, _), (12, _)] Az := Hz.only [0, 1, 3, 4, 10, 11, 12]
 refine wp_seq_k (fun K4 hK4 => ?_)
 refine wp_region_lit ?_
 refine goCh Hz (.move rfl <| .move rfl <| .nil) ?_
 clear Hz Az; intro Az Hz
 refine wpList_plain rfl (fun K hK => ?_)
 refine e_call Hz Tryd.func28 rfl rfl rfl rfl (record_x gn b _ _ _ (m13.rd (i := 4) rfl).any hbb hbl) ?_
 rintro e w42 ⟨p42, c42, rfl, hd42, hb42⟩
 have m43 := m13.callF 21 rfl hb42 hd42
 clear m13
 clear hb42 hd42
 refine ⟨_, rfl, ?_⟩; clear Hz Az; intro Az Hz
 refine hK _ _ ?_; clear hK K
 refine goCh Hz (.assign rfl .nil) ?_
 clear Hz Az; intro Az Hz
 refine wpList_nil ?_
 refine hK4 _ _ ?_; clear hK4; try clear K4
 refine wp_seq_k (fun K5 hK5 => ?_)
 refine regS Hz (.assign rfl <| .nil) ?_
 clear Hz Az; intro Az Hz
 refine wp_block ?_
 refine wp_loop_ghost (fun g a w => ∃ (k : Nat) (p9 : Option Addr) (c9 : Nat), k ≤ (secs.length - f) ∧ g = (secN (recN b.length)) - k ∧ Has 59 [(0, .pointer (some ⟨B, 0, none⟩)), (1, .int .i64 (f : Nat)), (12, .int .i64 ((secN (recN b.length)) : Nat)), (13, .slice p42 ((List.range (secN (recN b.length))).map (chunkP gn (recV b))).length c42), (14, .int .i64 k)] a ∧ MemOk X w0 [(1, .box B 60 [.slice pS secs.length cS, .slice p9 (wl ++ wlK f gn (recV b) k).length c9, .int .i64 (-1)]), (2, .dat (.slice pS secs.length cS) (.l 1 (secs.map bD))), (3, .dat (.slice p9 (wl ++ wlK f gn (recV b) k).length c9) (.l 2 ((wl ++ wlK f gn (recV b) k).map wD))), (4, .dat (.slice pb b.length cb) (.ns .u8 b)), (5, .dat (.slice p42 ((List.range (secN (recN b.length))).map (chunkP gn (recV b))).length c42) (.l 1 (((List.range (secN (recN b.length))).map (chunkP gn (recV b))).map bD)))] w) ((secN (recN b.length))) ?_ ?_
 · have e9 : (wl ++ wlK f gn (recV b) 0) = wl := by simp [wlK]
   exact ⟨0, pl, cl, Nat.zero_le _, rfl, Hz.only [0, 1, 12, 13, 14], by rw [e9]; exact m43.ren [(1, 1), (2, 2), (3, 3), (4, 4), (5, 21)] (by decide)⟩
 ·
  clear Hz m43
  rintro g Az w47 ⟨k, p9, c9, hkN, hg, Hz, m47⟩
  refine wp_seq_k (fun K6 hK6 => ?_)
  refine regS Hz (.move rfl <| .move rfl <| .lss rfl rfl <| .nil) ?_
  clear Hz Az; intro Az Hz
  refine bool_cases Hz (t := 41) rfl ?_ ?_
  rotate_left
  · intro hb _; exact absurd hb (by rw [decide_eq_false_iff_not, Decidable.not_not]; omega)
  clear Hz; intro _ Hz
  refine wp_cond_true (Hz.ev (x := .tmp 41) rfl) ?_
  refine wp_skip ?_
  refine hK6 _ _ ?_; clear hK6; try clear K6
  refine wp_seq_k (fun K7 hK7 => ?_)
  refine wp_block ?_
  refine wp_seq_k (fun K8 hK8 => ?_)
  by_cases hkL : f + k < secs.length
  ·
   refine wp_region_lit ?_
   refine goCh Hz (.move rfl <| .move rfl <| .move rfl <| .add rfl rfl (r := ((f + k : Nat) : Int)) (by rw [IntWalk.i64_in _ (by omega)]; omega) <| .move rfl <| .move rfl <| .nil) ?_
   clear Hz Az; intro Az Hz
   obtain ⟨b58, o58, vs58, hp58, hR58, ho58, m58⟩ := m47.openR (i := 5) rfl (k) (r := bD (chunkP gn (recV b) k)) (chs_at (by omega)) 100 rfl
   cases hp58; clear m47 ho58
   rcases hR58 with _ | ⟨hd58_0, _ | _⟩
   obtain ⟨p59, c59, hv59, hc59⟩ := hd58_0.ns_shape; subst hv59
   have m59 := m58.dat 101 rfl (hd58_0.cast (fun _ h => (free_add rfl h))); clear m58 hd58_0
   refine goCh Hz (.c rfl (fun _ h => y_idx h rfl rfl Tryd.underlying22 sz24rap (k) rfl (show k < ((List.range (secN (recN b.length))).map (chunkP gn (recV b))).length by rw [List.length_map, List.length_range]; omega)) <| .loadC0 m59 (i := 100) rfl rfl Tryd.underlying24 rfl <| .nil) ?_
   clear Hz Az; intro Az Hz
   refine wpList_plain rfl (fun K hK => ?_)
   refine e_call Hz Tryd.func19 rfl rfl rfl rfl (rwrite_x _ _ secs (wl ++ wlK f gn (recV b) k) _ (chunkP gn (recV b) k) _ _ _ _ _ _ _ (by omega) (by rw [chunkP_len]; omega) (by rw [List.length_append, wlK_len]; omega) (m59.into [(1, 1), (2, 2), (3, 3), (4, 101)] (by decide) rfl)) ?_
   rintro e w62 ⟨rfl, pn62, cn62, hm62⟩
   have mx62 := m59.back hm62 [(1, 1), (2, 2), (3, 3), (101, 4)] (by decide); clear hm62 m59
   have m62 : MemOk _ _ [(1, _), (2, _), (3, _), (101, _), (4, _), (5, _), (100, _)] _ := mx62.only [1, 2, 3, 101, 4, 5, 100]; clear mx62
   refine ⟨_, rfl, ?_⟩; clear Hz Az; intro Az Hz
   refine hK _ _ ?_; clear hK K
   refine goCh Hz (.assign rfl .nil) ?_
   clear Hz Az; intro Az Hz
   refine wpList_nil ?_
   refine hK8 _ _ ?_; clear hK8; try clear K8
   replace Hz : Has 59 [(0, _), (1, _), (12, _), (13, _), (14, _), (15, _)] Az := Hz.only [0, 1, 12, 13, 14, 15]
   refine regS Hz (.move rfl <| .neq rfl rfl <| .nil) ?_
   clear Hz Az; intro Az Hz
   refine bool_cases Hz (t := 54) rfl ?_ ?_
   · intro hb _; exact absurd hb (by simp)
   clear Hz; intro _ Hz
   refine wp_cond_false (Hz.ev (x := .tmp 54) rfl) ?_
   refine wp_skip ?_
   refine hK7 _ _ ?_; clear hK7; try clear K7
   refine wp_region_lit ?_
   refine goCh Hz (.move rfl <| .add rfl rfl (r := ((k + 1 : Nat) : Int)) (by rw [IntWalk.i64_in _ (by omega)]; omega) <| .assign rfl <| .nil) ?_
   clear Hz Az; intro Az Hz
   refine wpList_nil ?_
   show ∃ n', n' < _ ∧ _
   have e9 : (wl ++ wlK f gn (recV b) k) ++ [(((f + k : Nat) : Int), pad (chunkP gn (recV b) k))] = (wl ++ wlK f gn (recV b) (k + 1)) := wlK_snoc
   rw [e9] at m62
   exact ⟨(secN (recN b.length)) - (k + 1), by omega, k + 1, _, _, by omega, rfl, Hz.only [0, 1, 12, 13, 14], m62.ren [(1, 1), (2, 2), (3, 3), (4, 4), (5, 5)] (by decide)⟩
  ·
   refine wp_region_lit ?_
   refine goCh Hz (.move rfl <| .move rfl <| .move rfl <| .add rfl rfl (r := ((f + k : Nat) : Int)) (by rw [IntWalk.i64_in _ (by omega)]; omega) <| .move rfl <| .move rfl <| .nil) ?_
   clear Hz Az; intro Az Hz
   obtain ⟨b78, o78, vs78, hp78, hR78, ho78, m78⟩ := m47.openR (i := 5) rfl (k) (r := bD (chunkP gn (recV b) k)) (chs_at (by omega)) 100 rfl
   cases hp78; clear m47 ho78
   rcases hR78 with _ | ⟨hd78_0, _ | _⟩
   obtain ⟨p79, c79, hv79, hc79⟩ := hd78_0.ns_shape; subst hv79
   have m79 := m78.dat 101 rfl (hd78_0.cast (fun _ h => (free_add rfl h))); clear m78 hd78_0
   refine goCh Hz (.c rfl (fun _ h => y_idx h rfl rfl Tryd.underlying22 sz24rap (k) rfl (show k < ((List.range (secN (recN b.length))).map (chunkP gn (recV b))).length by rw [List.length_map, List.length_range]; omega)) <| .loadC0 m79 (i := 100) rfl rfl Tryd.underlying24 rfl <| .nil) ?_
   clear Hz Az; intro Az Hz
   refine wpList_plain rfl (fun K hK => ?_)
   refine e_call Hz Tryd.func19 rfl rfl rfl rfl (rwrite_no _ _ secs (wl ++ wlK f gn (recV b) k) _ (chunkP gn (recV b) k) _ _ _ _ _ _ _ (by omega) (m79.into [(1, 1), (2, 2), (3, 3), (4, 101)] (by decide) rfl)) ?_
   rintro e w82 ⟨rfl, hm82⟩
   have mx82 := m79.back hm82 [(1, 1), (2, 2), (3, 3), (101, 4)] (by decide); clear hm82 m79
   have m82 : MemOk _ _ [(1, _), (2, _), (3, _), (101, _), (4, _), (5, _), (100, _)] _ := mx82.only [1, 2, 3, 101, 4, 5, 100]; clear mx82
   refine ⟨_, rfl, ?_⟩; clear Hz Az; intro Az Hz
   refine hK _ _ ?_; clear hK K
   refine goCh Hz (.assign rfl .nil) ?_
   clear Hz Az; intro Az Hz
   refine wpList_nil ?_
   refine hK8 _ _ ?_; clear hK8; try clear K8
   replace Hz : Has 59 [(0, _), (1, _), (12, _), (13, _), (14, _), (15, _)] Az := Hz.only [0, 1, 12, 13, 14, 15]
   refine regS Hz (.move rfl <| .neq rfl rfl <| .nil) ?_
   clear Hz Az; intro Az Hz
   refine bool_cases Hz (t := 54) rfl ?_ ?_
   rotate_left
   · intro hb _; exact absurd hb (by simp)
   clear Hz; intro _ Hz
   refine wp_cond_true (Hz.ev (x := .tmp 54) rfl) ?_
   refine regS Hz (.move rfl <| .assign rfl <| .assign rfl <| .nil) ?_
   clear Hz Az; intro Az Hz
   refine wp_ret ?_
   try dsimp only [Exit.then, Exit.inBlock]
   refine (ret2 (fn := Tryd.f12) Hz rfl rfl rfl ?_)
   obtain rfl : k = secs.length - f := by omega
   exact ⟨rfl, _, _, m82.ren [(1, 1), (2, 2), (3, 3), (4, 4)] (by decide)⟩
theorem rappend_no (X : Cx) (B : Nat) (secs : List (List Int)) (wl : List (Int × List Int)) (f to : Nat) (gn : Int) (b : List Int) (pS pl pb : Option Addr) (cS cl cb : Nat) (w0 : World) (hbb : BytesL b) (hbl : b.length ≤ 9000) (hto : to ≤ 1000000) (hwl : wl.length ≤ 100000) (hft : f ≤ to) (hno : to < f + (secN (recN b.length))) (m0 : MemOk X w0 [(1, .box B 60 [.slice pS secs.length cS, .slice pl wl.length cl, .int .i64 (-1)]), (2, .dat (.slice pS secs.length cS) (.l 1 (secs.map bD))), (3, .dat (.slice pl wl.length cl) (.l 2 (wl.map wD))), (4, .dat (.slice pb b.length cb) (.ns .u8 b))] w0) :
   Calls Tryd.prog 12 #[.pointer (some ⟨B, 0, none⟩), .int .i64 f, .int .i64 to, .int .u64 gn, .slice pb b.length cb] w0 fun e w' => e = .returned (.tuple #[.int .i64 0, .int .i64 27]) ∧ MemOk X w0 [(1, .box B 60 [.slice pS secs.length cS, .slice pl wl.length cl, .int .i64 (-1)]), (2, .dat (.slice pS secs.length cS) (.l 1 (secs.map bD))), (3, .dat (.slice pl wl.length cl) (.l 2 (wl.map wD))), (4, .dat (.slice pb b.length cb) (.ns .u8 b))] w' := by
 have hrn := recN_le (n := b.length)
 have hrs : secN (recN b.length) ≤ 10000 := by unfold secN; omega
 refine enter (fn := Tryd.f12) Tryd.func12 rfl Tryd.ntmps12 rfl (fun Az Hz => ?_)
 simp only [List.zipIdx_cons, List.zipIdx_nil, List.map_cons, List.map_nil, Nat.reduceAdd, Nat.zero_add] at Hz
 refine regS Hz (.assign rfl <| .assign rfl <| .nil) ?_
 clear Hz Az; intro Az Hz
 refine wp_seq_k (fun K0 hK0 => ?_)
 refine regS Hz (.move rfl <| .len rfl Tryd.underlying24 <| .gtr rfl rfl <| .nil) ?_
 clear Hz Az; intro Az Hz
 refine bool_cases Hz (t := 18) rfl ?_ ?_
 · intro hb _; exact absurd hb (by rw [decide_eq_true_eq]; omega)
 clear Hz; intro _ Hz
 refine wp_cond_false (Hz.ev (x := .tmp 18) rfl) ?_
 refine wp_skip ?_
 refine hK0 _ _ ?_; clear hK0; try clear K0
 refine wp_seq_k (fun K1 hK1 => ?_)
 refine wp_region_lit ?_
 refine goCh Hz (.move rfl .nil) ?_
 clear Hz Az; intro Az Hz
 refine wpList_plain rfl (fun K hK => ?_)
 refine e_litR Hz m0 20 (mm := 1) rfl (.cons rfl rfl (.cons (m0.rd (i := 4) rfl) .nil) <| .nil) Tryd.underlying22 inf24rax rfl rfl rfl rfl rfl ?_
 clear Hz Az m0; intro g9 Az w10 Hz m10
 refine hK _ _ ?_; clear hK K
 have m11 := m10.freezeR 20 rfl; clear m10
 refine wpList_plain rfl (fun K hK => ?_)
 refine e_call Hz Tryd.func14 rfl rfl rfl rfl (rneed_x [b] _ _ _ (m11.rd (i := 20) rfl).any (by simp) (fun l hl => by rw [List.mem_singleton] at hl; rw [hl]; exact ⟨hbb, hbl⟩)) ?_
 rintro e w12 ⟨rfl, hb12⟩
 have m13 := m11.later hb12
 clear m11
 clear hb12
 refine ⟨_, rfl, ?_⟩; clear Hz Az; intro Az Hz
 refine hK _ _ ?_; clear hK K
 refine goCh Hz (.assign rfl .nil) ?_
 clear Hz Az; intro Az Hz
 refine wpList_nil ?_
 refine hK1 _ _ ?_; clear hK1; try clear K1
 refine wp_seq_k (fun K2 hK2 => ?_)
 replace Hz : Has 59 [(0, _), (1, _), (2, _), (3, _), (4, _), (10, _), (11, _), (12, _)] Az := Hz.only [0, 1, 2, 3, 4, 10, 11, 12]
 refine wp_seq_k (fun K3 hK3 => ?_)
 refine wp_region_lit ?_
 refine goCh Hz (.move rfl <| .lss rfl rfl <| .move rfl <| .nil) ?_
 clear Hz Az; intro Az Hz
 refine bool_cases Hz (t := 24) rfl ?_ ?_
 · intro hb _; exact absurd hb (by rw [decide_eq_true_eq]; omega)
 clear Hz; intro _ Hz
 refine goCh Hz (.moveZ rfl <| .moveZ rfl <| .gtrZ rfl rfl <| .pickF rfl rfl <| .move rfl <| .nil) ?_
 clear Hz Az; intro Az Hz
 refine bool_cases Hz (t := 29) rfl ?_ ?_
 · intro hb _; exact absurd hb (by rw [decide_eq_true_eq]; omega)
 clear Hz; intro _ Hz
 refine goCh Hz (.moveZ rfl <| .moveZ rfl <| .moveZ rfl <| .subZ rfl rfl (r := (to : Int) - f) (IntWalk.i64_in _ (by omega)) <| .gtrZ rfl rfl <| .pickF rfl rfl <| .nil) ?_
 clear Hz Az; intro Az Hz
 refine wpList_nil ?_
 refine hK3 _ _ ?_; clear hK3; try clear K3
 refine bool_cases Hz (t := 35) rfl ?_ ?_
 rotate_left
 · intro hb _; exact absurd hb (by rw [decide_eq_false_iff_not, Decidable.not_not]; simp only [needN]; omega)
 clear Hz; intro _ Hz
 refine wp_cond_true (Hz.ev (x := .tmp 35) rfl) ?_
 replace Hz : Has 59 [(0, _), (1, _), (3, _), (4, _), (10, _), (11, _), (12, _)] Az := Hz.only [0, 1, 3, 4, 10, 11, 12]
 refine regS Hz (.assign rfl <| .assign rfl <| .nil) ?_
 clear Hz Az; intro Az Hz
 refine wp_ret ?_
 try dsimp only [Exit.then, Exit.inBlock]
 refine (ret2 (fn := Tryd.f12) Hz rfl rfl rfl ?_)
 exact ⟨rfl, m13.only [1, 2, 3, 4]⟩
end Go.Proofs.YtogjhjiapinmcaaDoor.K
