/- WalSizes. -/
import Derived.Test.YtogjhjiapinmcaaDoorWal6
namespace Go.Proofs.YtogjhjiapinmcaaDoor.K
open Go.ChangeShapes Go.WideShapes Go.ChangeAt Go.RowKit
set_option linter.unusedVariables false
set_option linter.unusedSimpArgs false

theorem inf5wsz : (Tryd.prog.info? 5).map (fun i => (i.zero, i.size, i.bytes)) = some (some (.int .u8 0), 1, 1) := by kernel_rfl
theorem inf24wsz : (Tryd.prog.info? 24).map (fun i => (i.zero, i.size, i.bytes)) = some (some (.slice none 0 0), 1, 24) := by kernel_rfl
theorem sz24wsz : (Tryd.prog.info? 24).map (·.size) = some 1 := by kernel_rfl

set_option maxRecDepth 100000
set_option maxHeartbeats 4000000
theorem recN_one {n : Nat} (h : n < 128) : recN n = n + 1 + 4 := by
 have e : (enc (n : Int)).length = 1 := by unfold enc; rw [Int.toNat_natCast, encF, if_pos h]; rfl
 unfold recN; omega
theorem recN_two {n : Nat} (h : 128 ≤ n) (h2 : n < 16384) : recN n = n + 2 + 4 := by
 have e : (enc (n : Int)).length = 2 := by unfold enc; rw [Int.toNat_natCast, encF, if_neg (by omega), encF, if_pos (by omega)]; rfl
 unfold recN; omega
theorem sizes_walk (ls : List (List Int)) (nv : Nat) (q : Option Addr) (cq : Nat) (w0 : World) (hT : TabOk w0) (h01 : 1 ≤ w0.heap.size) (h0 : Rd (fun _ => True) w0 (.slice q ls.length cq) (.l 1 (ls.map bD))) (hnv : nv ≤ 65535) :
   Calls Tryd.prog 5 #[.slice q ls.length cq, .int .u16 nv] w0 fun e w' => e = .returned (.bool true) ∧ Below w0.heap.size w0 w' := by
 refine enter (fn := Tryd.f5) Tryd.func5 rfl Tryd.ntmps5 rfl (fun Az Hz => ?_)
 simp only [List.zipIdx_cons, List.zipIdx_nil, List.map_cons, List.map_nil, Nat.reduceAdd, Nat.zero_add] at Hz
 have m0 := MemOk.start (fun _ => True) w0
 refine regS Hz (.assign rfl <| .nil) ?_
 clear Hz Az; intro Az Hz
 refine wp_seq_k (fun K0 hK0 => ?_)
 refine wp_seq_k (fun K1 hK1 => ?_)
 refine wp_region_lit ?_
 refine wpList_plain rfl (fun K hK => ?_)
 refine e_call Hz Tryd.func7 rfl rfl rfl rfl (known_x _ (hT.below m0.below h01) (Nat.le_trans h01 m0.below.size)) ?_
 rintro e w2 ⟨rfl, hb2⟩
 have m3 := m0.later hb2
 clear m0
 clear hb2
 refine ⟨_, rfl, ?_⟩; clear Hz Az; intro Az Hz
 refine hK _ _ ?_; clear hK K
 refine goCh Hz (.not rfl .nil) ?_
 clear Hz Az; intro Az Hz
 refine wpList_nil ?_
 refine hK1 _ _ ?_; clear hK1; try clear K1
 refine wp_cond_false (Hz.ev (x := .tmp 10) rfl) ?_
 refine wp_skip ?_
 refine hK0 _ _ ?_; clear hK0; try clear K0
 refine wp_seq_k (fun K2 hK2 => ?_)
 refine regS Hz (.move rfl <| .len rfl Tryd.underlying22 <| .gtr rfl rfl <| .nil) ?_
 clear Hz Az; intro Az Hz
 refine bool_cases Hz (t := 13) rfl ?_ ?_
 ·
  clear Hz; intro hb9 Hz
  try simp only [Q1x, Q2x, Q3x, Q4x, Q5x, Q6x, Q7x, Q8x, Q9x, Q0x, Qax, Qbx] at hb9
  refine wp_cond_true (Hz.ev (x := .tmp 13) rfl) ?_
  refine regS Hz (.assign rfl <| .nil) ?_
  clear Hz Az; intro Az Hz
  refine wp_ret ?_
  try dsimp only [Exit.then, Exit.inBlock]
  refine (ret1 (fn := Tryd.f5) Hz rfl rfl ?_)
  exact ⟨by first | rfl | simp [needN], m3.below⟩
 ·
  clear Hz; intro hb9 Hz
  try simp only [Q1x, Q2x, Q3x, Q4x, Q5x, Q6x, Q7x, Q8x, Q9x, Q0x, Qax, Qbx] at hb9
  have hl8 : ls.length ≤ 8 := by have := hb9; first | omega | (simp at this; omega)
  refine wp_cond_false (Hz.ev (x := .tmp 13) rfl) ?_
  refine wp_skip ?_
  refine hK2 _ _ ?_; clear hK2; try clear K2
  refine regS Hz (.assign rfl <| .nil) ?_
  clear Hz Az; intro Az Hz
  refine wp_seq_k (fun K3 hK3 => ?_)
  refine regS Hz (.assign rfl <| .nil) ?_
  clear Hz Az; intro Az Hz
  refine wp_block ?_
  refine wp_loop_ghost (fun g a w => ∃ (k : Nat), k ≤ ls.length ∧ g = ls.length - k ∧ (∀ j, j < k → (ls.getD j []).length ≤ 60) ∧ Has 60 [(0, .slice q ls.length cq), (1, .int .u16 nv), (5, .int .i64 (needN (ls.take k) : Nat)), (6, .int .i64 k)] a ∧ MemOk (cxt w0) w0 [] w) (ls.length) ?_ ?_
  · exact ⟨0, Nat.zero_le _, rfl, fun j hj => by omega, Hz.only [0, 1, 5, 6], m3.only []⟩
  ·
   clear Hz m3
   rintro g Az w13 ⟨k, hkl, hg, hsm, Hz, m13⟩
   refine wp_seq_k (fun K4 hK4 => ?_)
   refine regS Hz (.move rfl <| .move rfl <| .len rfl Tryd.underlying22 <| .lss rfl rfl <| .nil) ?_
   clear Hz Az; intro Az Hz
   refine bool_cases Hz (t := 17) rfl ?_ ?_
   ·
    clear Hz; intro hb18 Hz
    try simp only [Q1x, Q2x, Q3x, Q4x, Q5x, Q6x, Q7x, Q8x, Q9x, Q0x, Qax, Qbx] at hb18
    have hk : k < ls.length := by have := hb18; first | omega | (simp at this; omega)
    refine wp_cond_true (Hz.ev (x := .tmp 17) rfl) ?_
    refine wp_skip ?_
    refine hK4 _ _ ?_; clear hK4; try clear K4
    refine wp_seq_k (fun K5 hK5 => ?_)
    refine wp_block ?_
    refine wp_seq_k (fun K6 hK6 => ?_)
    refine wp_seq_k (fun K7 hK7 => ?_)
    refine wp_region_lit ?_
    refine goCh Hz (.move rfl <| .move rfl <| .nil) ?_
    clear Hz Az; intro Az Hz
    obtain ⟨gx24, ox24, vx24, hp24, hl24, hR24, hrg24⟩ := h0.extA (k) (r := bD (ls.getD k [])) (bD_at hk)
    cases hp24; clear hl24
    rcases hR24 with _ | ⟨hd24_0, _ | _⟩
    obtain ⟨p25, c25, hv25, hw25⟩ := hd24_0.ns_shape; subst hv25
    refine goCh Hz (.c rfl (fun _ h => y_idx h rfl rfl Tryd.underlying22 sz24wsz (k) rfl hk) <| .loadAt1 (hrg24 m13 rfl) (q := 0) rfl rfl rfl Tryd.underlying24 rfl <| .len rfl Tryd.underlying24 <| .gtr rfl rfl <| .nil) ?_
    clear Hz Az; intro Az Hz
    refine wpList_nil ?_
    refine hK7 _ _ ?_; clear hK7; try clear K7
    refine bool_cases Hz (t := 25) rfl ?_ ?_
    ·
     clear Hz; intro hb30 Hz
     try simp only [Q1x, Q2x, Q3x, Q4x, Q5x, Q6x, Q7x, Q8x, Q9x, Q0x, Qax, Qbx] at hb30
     refine wp_cond_true (Hz.ev (x := .tmp 25) rfl) ?_
     replace Hz : Has 60 [(0, _), (1, _), (5, _), (6, _)] Az := Hz.only [0, 1, 5, 6]
     refine regS Hz (.assign rfl <| .nil) ?_
     clear Hz Az; intro Az Hz
     refine wp_ret ?_
     try dsimp only [Exit.then, Exit.inBlock]
     refine (ret1 (fn := Tryd.f5) Hz rfl rfl ?_)
     exact ⟨by first | rfl | simp [needN], m13.below⟩
    ·
     clear Hz; intro hb30 Hz
     try simp only [Q1x, Q2x, Q3x, Q4x, Q5x, Q6x, Q7x, Q8x, Q9x, Q0x, Qax, Qbx] at hb30
     have hlk : (ls.getD k []).length ≤ 60 := by have := hb30; first | omega | (simp at this; omega)
     have hNt := needN_take hk
     have hNl := needN_le (B := 60) (ls := ls.take k) (fun l hl => by
       obtain ⟨j, hj, rfl⟩ := List.getElem_of_mem hl
       rw [List.length_take] at hj
       have := hsm j (by omega)
       rw [List.getD, List.getElem?_eq_getElem (by omega)] at this
       rw [List.getElem_take]; exact this)
     rw [List.length_take] at hNl
     have hr := recN_le (n := (ls.getD k []).length)
     have hs : secN (recN (ls.getD k []).length) ≤ recN (ls.getD k []).length + 47 := by unfold secN; omega
     refine wp_cond_false (Hz.ev (x := .tmp 25) rfl) ?_
     refine wp_skip ?_
     refine hK6 _ _ ?_; clear hK6; try clear K6
     replace Hz : Has 60 [(0, _), (1, _), (5, _), (6, _)] Az := Hz.only [0, 1, 5, 6]
     refine wp_region_lit ?_
     refine goCh Hz (.move rfl <| .move rfl <| .move rfl <| .nil) ?_
     clear Hz Az; intro Az Hz
     obtain ⟨gx37, ox37, vx37, hp37, hl37, hR37, hrg37⟩ := h0.extA (k) (r := bD (ls.getD k [])) (bD_at hk)
     cases hp37; clear hl37
     rcases hR37 with _ | ⟨hd37_0, _ | _⟩
     obtain ⟨p38, c38, hv38, hw38⟩ := hd37_0.ns_shape; subst hv38
     refine goCh Hz (.c rfl (fun _ h => y_idx h rfl rfl Tryd.underlying22 sz24wsz (k) rfl hk) <| .loadAt1 (hrg37 m13 rfl) (q := 0) rfl rfl rfl Tryd.underlying24 rfl <| .nil) ?_
     clear Hz Az; intro Az Hz
     refine wpList_plain rfl (fun K hK => ?_)
     refine e_litR Hz m13 102 (mm := 1) rfl (.cons rfl rfl (.cons (m13.old hd37_0) .nil) <| .nil) Tryd.underlying22 inf24wsz rfl rfl rfl rfl rfl ?_
     clear Hz Az m13; intro g41 Az w42 Hz m42
     refine hK _ _ ?_; clear hK K
     have m43 := m42.freezeR 102 rfl; clear m42
     refine wpList_plain rfl (fun K hK => ?_)
     refine e_call Hz Tryd.func13 rfl rfl rfl rfl (need_x [(ls.getD k [])] _ _ _ (m43.rd (i := 102) rfl).any (by simp) (fun l hl => by rw [List.mem_singleton] at hl; rw [hl]; omega)) ?_
     rintro e w44 ⟨rfl, hb44⟩
     have m45 := m43.later hb44
     clear m43
     clear hb44
     refine ⟨_, rfl, ?_⟩; clear Hz Az; intro Az Hz
     refine hK _ _ ?_; clear hK K
     refine goCh Hz (.add rfl rfl (r := ((needN (ls.take (k + 1)) : Nat) : Int)) (by rw [hNt, IntWalk.i64_in _ (by simp only [needN]; omega)]; simp only [needN]; omega) <| .assign rfl <| .nil) ?_
     clear Hz Az; intro Az Hz
     refine wpList_nil ?_
     refine hK5 _ _ ?_; clear hK5; try clear K5
     replace Hz : Has 60 [(0, _), (1, _), (5, _), (6, _)] Az := Hz.only [0, 1, 5, 6]
     refine wp_region_lit ?_
     refine goCh Hz (.move rfl <| .add rfl rfl (r := ((k + 1 : Nat) : Int)) (by rw [IntWalk.i64_in _ (by omega)]; omega) <| .assign rfl <| .nil) ?_
     clear Hz Az; intro Az Hz
     refine wpList_nil ?_
     show ∃ n', n' < _ ∧ _
     have hsm2 : ∀ j, j < k + 1 → (ls.getD j []).length ≤ 60 := fun j hj => (Nat.lt_or_ge j k).elim (hsm j) (fun h => by rw [show j = k by omega]; exact hlk)
     exact ⟨ls.length - (k + 1), by omega, k + 1, by omega, rfl, hsm2, Hz.only [0, 1, 5, 6], m45.only []⟩
   ·
    clear Hz; intro hb18 Hz
    try simp only [Q1x, Q2x, Q3x, Q4x, Q5x, Q6x, Q7x, Q8x, Q9x, Q0x, Qax, Qbx] at hb18
    obtain rfl : k = ls.length := by have := hb18; first | omega | (simp at this; omega)
    have hall : ∀ l ∈ ls, l.length ≤ 60 := fun l hl => by
      obtain ⟨j, hj, rfl⟩ := List.getElem_of_mem hl
      have := hsm j hj
      rw [List.getD, List.getElem?_eq_getElem hj] at this; exact this
    refine wp_cond_false (Hz.ev (x := .tmp 17) rfl) ?_
    refine wp_exit ?_
    refine hK3 _ _ ?_; clear hK3; try clear K3
    refine regS Hz (.move rfl <| .rem rfl rfl (by decide) (r := (((nv % 3000) : Nat) : Int)) (by rw [Int.tmod_eq_emod_of_nonneg (by omega)]; omega) <| .conv rfl Tryd.underlying25 Tryd.underlying3 (r := (((nv % 3000) : Nat) : Int)) (IntWalk.i64_in _ (by omega)) <| .assign rfl <| .nil) ?_
    clear Hz Az; intro Az Hz
    replace Hz : Has 60 [(0, _), (1, _), (5, _), (6, _), (7, _)] Az := Hz.only [0, 1, 5, 6, 7]
    refine regS Hz (.assign rfl <| .nil) ?_
    clear Hz Az; intro Az Hz
    refine wp_seq_k (fun K8 hK8 => ?_)
    refine regS Hz (.move rfl <| .gtr rfl rfl <| .nil) ?_
    clear Hz Az; intro Az Hz
    refine bool_cases Hz (t := 38) rfl ?_ ?_
    ·
     clear Hz; intro hb61 Hz
     try simp only [Q1x, Q2x, Q3x, Q4x, Q5x, Q6x, Q7x, Q8x, Q9x, Q0x, Qax, Qbx] at hb61
     have hrec : recN (nv % 3000) = (nv % 3000) + 2 + 4 := by have := hb61; exact recN_two (by first | omega | (simp at this; omega)) (by omega)
     refine wp_cond_true (Hz.ev (x := .tmp 38) rfl) ?_
     refine wp_region_lit ?_
     refine goCh Hz (.assign rfl .nil) ?_
     clear Hz Az; intro Az Hz
     refine wpList_nil ?_
     refine hK8 _ _ ?_; clear hK8; try clear K8
     refine wp_seq_k (fun K9 hK9 => ?_)
     refine wp_region_lit ?_
     refine goCh Hz (.move rfl .nil) ?_
     clear Hz Az; intro Az Hz
     refine wpList_plain rfl (fun K hK => ?_)
     refine e_call Hz Tryd.func13 rfl rfl rfl rfl (need_x ls q cq _ ((h0.now' m13 rfl).any) (by omega) (fun l hl => by have := hall l hl; omega)) ?_
     rintro e w65 ⟨rfl, hb65⟩
     have m66 := m13.later hb65
     clear m13
     clear hb65
     refine ⟨_, rfl, ?_⟩; clear Hz Az; intro Az Hz
     refine hK _ _ ?_; clear hK K
     refine goCh Hz (.move rfl <| .eql rfl rfl <| .move rfl <| .nil) ?_
     clear Hz Az; intro Az Hz
     refine bool_cases Hz (t := 43) rfl ?_ ?_
     rotate_left
     · intro hb _; exact absurd hb (by simp)
     clear Hz; intro _ Hz
     refine st_ge Hz rfl rfl rfl rfl (fun K hK => ?_)
     refine e_call Hz Tryd.func13 rfl rfl rfl rfl (need_x [] none 0 _ (.l0 _ _ _) (by simp) (by simp)) ?_
     rintro e w72 ⟨rfl, hb72⟩
     have m73 := m66.later hb72
     clear m66
     clear hb72
     refine ⟨_, rfl, ?_⟩; clear Hz Az; intro Az Hz
     refine hK _ _ ?_; clear hK K
     refine goCh Hz (.eqlZ rfl rfl <| .pickT rfl rfl <| .move rfl <| .nil) ?_
     clear Hz Az; intro Az Hz
     refine bool_cases Hz (t := 47) rfl ?_ ?_
     rotate_left
     · intro hb _; exact absurd hb (by simp [needN])
     clear Hz; intro _ Hz
     refine goCh Hz (.moveZ rfl .nil) ?_
     clear Hz Az; intro Az Hz
     refine st_ge Hz rfl rfl rfl rfl (fun K hK => ?_)
     refine e_makeN Hz m73 100 ((nv % 3000)) rfl rfl rfl rfl Tryd.underlying24 inf5wsz (by decide) (by omega) rfl ?_
     clear Hz Az m73; intro p80 c80 Az w81 Hz m81
     refine hK _ _ ?_; clear hK K
     have m83 := m81.freezeN 100 rfl; clear m81
     refine st_ge Hz rfl rfl rfl rfl (fun K hK => ?_)
     refine e_litR Hz m83 101 (mm := 1) rfl (.cons rfl rfl (.cons (m83.rd (i := 100) rfl) .nil) <| .nil) Tryd.underlying22 inf24wsz rfl rfl rfl rfl rfl ?_
     clear Hz Az m83; intro g82 Az w84 Hz m84
     refine hK _ _ ?_; clear hK K
     have m85 := m84.freezeR 101 rfl; clear m84
     refine st_ge Hz rfl rfl rfl rfl (fun K hK => ?_)
     refine e_call Hz Tryd.func13 rfl rfl rfl rfl (need_x [(List.replicate (nv % 3000) (0 : Int))] _ _ _ (m85.rd (i := 101) rfl).any (by simp) (by simp; omega)) ?_
     rintro e w86 ⟨rfl, hb86⟩
     have m87 := m85.later hb86
     clear m85
     clear hb86
     refine ⟨_, rfl, ?_⟩; clear Hz Az; intro Az Hz
     refine hK _ _ ?_; clear hK K
     refine goCh Hz (.moveZ rfl <| .moveZ rfl <| .addZ rfl rfl (IntWalk.i64_in _ (by omega)) <| .addZ rfl rfl (IntWalk.i64_in _ (by omega)) <| .addZ rfl rfl (IntWalk.i64_in _ (by omega)) <| .quoZ rfl rfl (by decide) (r := ((secN (recN (nv % 3000)) : Nat) : Int)) (by rw [Int.tdiv_eq_ediv_of_nonneg (by omega), IntWalk.i64_in _ (by omega)]; unfold secN; omega) <| .eqlZ rfl rfl <| .pickT rfl rfl <| .assign rfl <| .nil) ?_
     clear Hz Az; intro Az Hz
     refine wpList_nil ?_
     refine hK9 _ _ ?_; clear hK9; try clear K9
     refine wp_ret ?_
     try dsimp only [Exit.then, Exit.inBlock]
     refine (ret1 (fn := Tryd.f5) Hz rfl rfl ?_)
     exact ⟨by first | rfl | simp [needN], m87.below⟩
    ·
     clear Hz; intro hb61 Hz
     try simp only [Q1x, Q2x, Q3x, Q4x, Q5x, Q6x, Q7x, Q8x, Q9x, Q0x, Qax, Qbx] at hb61
     have hrec : recN (nv % 3000) = (nv % 3000) + 1 + 4 := by have := hb61; exact recN_one (by first | omega | (simp at this; omega))
     refine wp_cond_false (Hz.ev (x := .tmp 38) rfl) ?_
     refine wp_skip ?_
     refine hK8 _ _ ?_; clear hK8; try clear K8
     refine wp_seq_k (fun K10 hK10 => ?_)
     refine wp_region_lit ?_
     refine goCh Hz (.move rfl .nil) ?_
     clear Hz Az; intro Az Hz
     refine wpList_plain rfl (fun K hK => ?_)
     refine e_call Hz Tryd.func13 rfl rfl rfl rfl (need_x ls q cq _ ((h0.now' m13 rfl).any) (by omega) (fun l hl => by have := hall l hl; omega)) ?_
     rintro e w100 ⟨rfl, hb100⟩
     have m101 := m13.later hb100
     clear m13
     clear hb100
     refine ⟨_, rfl, ?_⟩; clear Hz Az; intro Az Hz
     refine hK _ _ ?_; clear hK K
     refine goCh Hz (.move rfl <| .eql rfl rfl <| .move rfl <| .nil) ?_
     clear Hz Az; intro Az Hz
     refine bool_cases Hz (t := 43) rfl ?_ ?_
     rotate_left
     · intro hb _; exact absurd hb (by simp)
     clear Hz; intro _ Hz
     refine st_ge Hz rfl rfl rfl rfl (fun K hK => ?_)
     refine e_call Hz Tryd.func13 rfl rfl rfl rfl (need_x [] none 0 _ (.l0 _ _ _) (by simp) (by simp)) ?_
     rintro e w107 ⟨rfl, hb107⟩
     have m108 := m101.later hb107
     clear m101
     clear hb107
     refine ⟨_, rfl, ?_⟩; clear Hz Az; intro Az Hz
     refine hK _ _ ?_; clear hK K
     refine goCh Hz (.eqlZ rfl rfl <| .pickT rfl rfl <| .move rfl <| .nil) ?_
     clear Hz Az; intro Az Hz
     refine bool_cases Hz (t := 47) rfl ?_ ?_
     rotate_left
     · intro hb _; exact absurd hb (by simp [needN])
     clear Hz; intro _ Hz
     refine goCh Hz (.moveZ rfl .nil) ?_
     clear Hz Az; intro Az Hz
     refine st_ge Hz rfl rfl rfl rfl (fun K hK => ?_)
     refine e_makeN Hz m108 100 ((nv % 3000)) rfl rfl rfl rfl Tryd.underlying24 inf5wsz (by decide) (by omega) rfl ?_
     clear Hz Az m108; intro p115 c115 Az w116 Hz m116
     refine hK _ _ ?_; clear hK K
     have m118 := m116.freezeN 100 rfl; clear m116
     refine st_ge Hz rfl rfl rfl rfl (fun K hK => ?_)
     refine e_litR Hz m118 101 (mm := 1) rfl (.cons rfl rfl (.cons (m118.rd (i := 100) rfl) .nil) <| .nil) Tryd.underlying22 inf24wsz rfl rfl rfl rfl rfl ?_
     clear Hz Az m118; intro g117 Az w119 Hz m119
     refine hK _ _ ?_; clear hK K
     have m120 := m119.freezeR 101 rfl; clear m119
     refine st_ge Hz rfl rfl rfl rfl (fun K hK => ?_)
     refine e_call Hz Tryd.func13 rfl rfl rfl rfl (need_x [(List.replicate (nv % 3000) (0 : Int))] _ _ _ (m120.rd (i := 101) rfl).any (by simp) (by simp; omega)) ?_
     rintro e w121 ⟨rfl, hb121⟩
     have m122 := m120.later hb121
     clear m120
     clear hb121
     refine ⟨_, rfl, ?_⟩; clear Hz Az; intro Az Hz
     refine hK _ _ ?_; clear hK K
     refine goCh Hz (.moveZ rfl <| .moveZ rfl <| .addZ rfl rfl (IntWalk.i64_in _ (by omega)) <| .addZ rfl rfl (IntWalk.i64_in _ (by omega)) <| .addZ rfl rfl (IntWalk.i64_in _ (by omega)) <| .quoZ rfl rfl (by decide) (r := ((secN (recN (nv % 3000)) : Nat) : Int)) (by rw [Int.tdiv_eq_ediv_of_nonneg (by omega), IntWalk.i64_in _ (by omega)]; unfold secN; omega) <| .eqlZ rfl rfl <| .pickT rfl rfl <| .assign rfl <| .nil) ?_
     clear Hz Az; intro Az Hz
     refine wpList_nil ?_
     refine hK10 _ _ ?_; clear hK10; try clear K10
     refine wp_ret ?_
     try dsimp only [Exit.then, Exit.inBlock]
     refine (ret1 (fn := Tryd.f5) Hz rfl rfl ?_)
     exact ⟨by first | rfl | simp [needN], m122.below⟩
end Go.Proofs.YtogjhjiapinmcaaDoor.K
