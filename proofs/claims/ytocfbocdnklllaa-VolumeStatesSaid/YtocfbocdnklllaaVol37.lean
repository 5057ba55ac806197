/- VolumeStates' walk. -/
import Derived.Test.YtocfbocdnklllaaVolSm
namespace Go.Proofs.Ytocfbocdnklllaa.K
open Go.ChangeShapes Go.WideShapes Go.ChangeAt Go.RowKit
set_option linter.unusedVariables false
set_option linter.unusedSimpArgs false

theorem fl25vt : flatS Try.prog 25 [.int .i64 0, .int .i64 0, .int .i64 0, .int .i64 0, .int .i64 0, .slice none 0 0, .int .i64 0, .int .i64 0, .int .i64 0, .slice none 0 0] = true := by kernel_rfl
theorem sz34vt : (Try.prog.info? 34).map (·.size) = some 11 := by kernel_rfl
theorem sz43vt : (Try.prog.info? 43).map (·.size) = some 1 := by kernel_rfl
theorem sz45vt : (Try.prog.info? 45).map (·.size) = some 5 := by kernel_rfl
theorem sz67vt : (Try.prog.info? 67).map (·.size) = some 2 := by kernel_rfl
theorem zc25vt : ((Try.prog.info? 25).bind (·.zero)).map (·.cells.toList) = some [.int .i64 0, .int .i64 0, .int .i64 0, .int .i64 0, .int .i64 0, .slice none 0 0, .int .i64 0, .int .i64 0, .int .i64 0, .slice none 0 0] := by kernel_rfl
theorem zc34vt : ((Try.prog.info? 34).bind (·.zero)).map (·.cells.toList) = some [.int .i64 0, .int .i64 0, .int .i64 0, .int .i64 0, .slice none 0 0, .int .i64 0, .int .i64 0, .bool false, .int .i64 0, .slice none 0 0, .slice none 0 0] := by kernel_rfl
theorem zc45vt : ((Try.prog.info? 45).bind (·.zero)).map (·.cells.toList) = some [.int .i64 0, .int .i64 0, .int .i64 0, .int .i64 0, .slice none 0 0] := by kernel_rfl

set_option maxRecDepth 100000
set_option maxHeartbeats 4000000
theorem states_walk (l : List Int) (pl : Option Addr) (cl : Nat) (xs : List Int) (px : Option Addr) (cx9 : Nat) (w0 : World) (h1 : Rd (fun _ => True) w0 (.slice pl l.length cl) (.ns .u8 l)) (hlb : ∀ j, j < l.length → 0 ≤ l.getD j 0 ∧ l.getD j 0 ≤ 255) (h2 : Rd (fun _ => True) w0 (.slice px xs.length cx9) (.ns .u8 xs)) (hxb : ∀ j, j < xs.length → 0 ≤ xs.getD j 0 ∧ xs.getD j 0 ≤ 255) :
   Calls Try.prog 7 #[.slice pl l.length cl, .slice px xs.length cx9] w0 fun e w' => e = .returned (.bool true) ∧ Below w0.heap.size w0 w' := by
 refine enter (fn := Try.f7) Try.func7 rfl Try.ntmps7 rfl (fun Az Hz => ?_)
 simp only [List.zipIdx_cons, List.zipIdx_nil, List.map_cons, List.map_nil, Nat.reduceAdd, Nat.zero_add] at Hz
 have m0 := MemOk.start (fun _ => False) w0
 refine regS Hz (.assign rfl <| .nil) ?_
 clear Hz Az; intro Az Hz
 refine wp_seq_k (fun K0 hK0 => ?_)
 refine wp_seq_k (fun K1 hK1 => ?_)
 refine wp_region_lit ?_
 refine wpList_plain rfl (fun K hK => ?_)
 refine e_call Hz Try.func9 rfl rfl rfl rfl (vknown_any _) ?_
 rintro e w2 ⟨rfl, hb2⟩
 have m3 := m0.later hb2
 clear m0
 clear hb2
 refine ⟨_, rfl, ?_⟩; clear Hz Az; intro Az Hz
 refine hK _ _ ?_; clear hK K
 refine goCh Hz (.not rfl .nil) ?_
 clear Hz Az; intro Az Hz
 refine wpList_nil ?_
 refine hK1 _ _ ?_; clear hK1; try clear K1
 refine wp_cond_false (Hz.ev (x := .tmp 20) rfl) ?_
 refine wp_skip ?_
 refine hK0 _ _ ?_; clear hK0; try clear K0
 refine wp_seq_k (fun K2 hK2 => ?_)
 refine wp_seq_k (fun K3 hK3 => ?_)
 refine wp_region_lit ?_
 refine goCh Hz (.move rfl <| .len rfl Try.underlying43 <| .gtr rfl rfl <| .move rfl <| .nil) ?_
 clear Hz Az; intro Az Hz
 refine bool_cases Hz (t := 24) rfl ?_ ?_
 ·
  clear Hz; intro hb14 Hz
  try simp only [Q1x, Q2x, Q3x, Q4x, Q5x, Q6x, Q7x, Q8x, Q9x, Q0x, Qax, Qbx] at hb14
  refine goCh Hz (.sk <| .sk <| .sk <| .pickT rfl rfl <| .move rfl <| .sk <| .sk <| .sk <| .pickT rfl rfl <| .nil) ?_
  clear Hz Az; intro Az Hz
  refine wpList_nil ?_
  refine hK3 _ _ ?_; clear hK3; try clear K3
  refine wp_cond_true (Hz.ev (x := .tmp 33) rfl) ?_
  replace Hz : Has 136 [(0, _), (1, _), (4, _)] Az := Hz.only [0, 1, 4]
  refine regS Hz (.assign rfl <| .nil) ?_
  clear Hz Az; intro Az Hz
  refine wp_ret ?_
  try dsimp only [Exit.then, Exit.inBlock]
  refine (ret1 (fn := Try.f7) Hz rfl rfl ?_)
  exact ⟨by first | rfl | simp, m3.below⟩
 ·
  clear Hz; intro hb14 Hz
  try simp only [Q1x, Q2x, Q3x, Q4x, Q5x, Q6x, Q7x, Q8x, Q9x, Q0x, Qax, Qbx] at hb14
  have hl60 : l.length ≤ 60 := by have := hb14; first | omega | (simp at this; omega)
  refine goCh Hz (.moveZ rfl <| .lenZ rfl Try.underlying43 <| .gtrZ rfl rfl <| .pickF rfl rfl <| .move rfl <| .nil) ?_
  clear Hz Az; intro Az Hz
  refine bool_cases Hz (t := 29) rfl ?_ ?_
  ·
   clear Hz; intro hb31 Hz
   try simp only [Q1x, Q2x, Q3x, Q4x, Q5x, Q6x, Q7x, Q8x, Q9x, Q0x, Qax, Qbx] at hb31
   refine goCh Hz (.sk <| .sk <| .sk <| .pickT rfl rfl <| .nil) ?_
   clear Hz Az; intro Az Hz
   refine wpList_nil ?_
   refine hK3 _ _ ?_; clear hK3; try clear K3
   refine wp_cond_true (Hz.ev (x := .tmp 33) rfl) ?_
   replace Hz : Has 136 [(0, _), (1, _), (4, _)] Az := Hz.only [0, 1, 4]
   refine regS Hz (.assign rfl <| .nil) ?_
   clear Hz Az; intro Az Hz
   refine wp_ret ?_
   try dsimp only [Exit.then, Exit.inBlock]
   refine (ret1 (fn := Try.f7) Hz rfl rfl ?_)
   exact ⟨by first | rfl | simp, m3.below⟩
  ·
   clear Hz; intro hb31 Hz
   try simp only [Q1x, Q2x, Q3x, Q4x, Q5x, Q6x, Q7x, Q8x, Q9x, Q0x, Qax, Qbx] at hb31
   have hx8 : xs.length ≤ 8 := by have := hb31; first | omega | (simp at this; omega)
   refine goCh Hz (.moveZ rfl <| .lenZ rfl Try.underlying43 <| .eqlZ rfl rfl <| .pickF rfl rfl <| .nil) ?_
   clear Hz Az; intro Az Hz
   refine wpList_nil ?_
   refine hK3 _ _ ?_; clear hK3; try clear K3
   refine bool_cases Hz (t := 33) rfl ?_ ?_
   ·
    clear Hz; intro hb42 Hz
    try simp only [Q1x, Q2x, Q3x, Q4x, Q5x, Q6x, Q7x, Q8x, Q9x, Q0x, Qax, Qbx] at hb42
    refine wp_cond_true (Hz.ev (x := .tmp 33) rfl) ?_
    replace Hz : Has 136 [(0, _), (1, _), (4, _)] Az := Hz.only [0, 1, 4]
    refine regS Hz (.assign rfl <| .nil) ?_
    clear Hz Az; intro Az Hz
    refine wp_ret ?_
    try dsimp only [Exit.then, Exit.inBlock]
    refine (ret1 (fn := Try.f7) Hz rfl rfl ?_)
    exact ⟨by first | rfl | simp, m3.below⟩
   ·
    clear Hz; intro hb42 Hz
    try simp only [Q1x, Q2x, Q3x, Q4x, Q5x, Q6x, Q7x, Q8x, Q9x, Q0x, Qax, Qbx] at hb42
    have hxn : xs ≠ [] := by rintro rfl; have := hb42; simp at this
    refine wp_cond_false (Hz.ev (x := .tmp 33) rfl) ?_
    refine wp_skip ?_
    refine hK2 _ _ ?_; clear hK2; try clear K2
    replace Hz : Has 136 [(0, _), (1, _), (4, _)] Az := Hz.only [0, 1, 4]
    refine wp_seq_k (fun K4 hK4 => ?_)
    refine wp_region_lit ?_
    refine goCh Hz (.move rfl .nil) ?_
    clear Hz Az; intro Az Hz
    refine wpList_plain rfl (fun K hK => ?_)
    refine e_call Hz Try.func26 rfl rfl rfl rfl (svol_any l _ _ _ ((h1.now' m3 rfl).any) (by omega) hlb) ?_
    rintro e w48 ⟨y, p148, p248, p348, d148, d248, d348, rfl, hS, hd48, he48, hf48, hb48⟩
    have m49 := m3.callF3 70 71 72 rfl rfl rfl hb48 hd48 he48 hf48
    clear m3
    clear hb48 hd48 he48 hf48
    obtain ⟨hpl, hpn, hws, hwi⟩ := hS.sm
    obtain ⟨hV, hh0, hpn9, hws9⟩ := hS
    have hV9 := hV
    obtain ⟨v1, v2, v3, v4, v5, v6, v7, v8, v9⟩ := hV9
    have v0 := v1
    obtain ⟨n1, n2, n3, n4, n5, n6, n7, n8, n9, n10, n11⟩ := v0
    have hwo := hV.its
    refine ⟨_, rfl, ?_⟩; clear Hz Az; intro Az Hz
    refine hK _ _ ?_; clear hK K
    refine wpList_plain rfl (fun K hK => ?_)
    refine e_alloc Hz m49 73 zc34vt rfl ?_
    clear Hz Az m49; intro g51 Az w52 Hz m52 hB52 hg52
    clear hB52 hg52
    refine hK _ _ ?_; clear hK K
    refine wpList_plain rfl (fun K hK => ?_)
    refine e_storeW Hz m52 73 rfl rfl rfl rfl rfl sz34vt ?_
    clear m52; intro w53 m53 hB53
    clear hB53
    refine hK _ _ ?_; clear hK K
    refine wpList_nil ?_
    refine hK4 _ _ ?_; clear hK4; try clear K4
    refine wp_seq_k (fun K5 hK5 => ?_)
    refine regS Hz (.fieldAddr (off := 7) rfl Try.underlying34 rfl (s := 0) (by kernel_rfl) rfl <| .loadB1 m53 (i := 73) rfl rfl rfl Try.underlying4 rfl <| .nil) ?_
    clear Hz Az; intro Az Hz
    refine bool_cases Hz (t := 37) rfl ?_ ?_
    ·
     clear Hz; intro hb56 Hz
     try simp only [Q1x, Q2x, Q3x, Q4x, Q5x, Q6x, Q7x, Q8x, Q9x, Q0x, Qax, Qbx] at hb56
     refine wp_cond_true (Hz.ev (x := .tmp 37) rfl) ?_
     refine regS Hz (.assign rfl <| .nil) ?_
     clear Hz Az; intro Az Hz
     refine wp_ret ?_
     try dsimp only [Exit.then, Exit.inBlock]
     refine (ret1 (fn := Try.f7) Hz rfl rfl ?_)
     exact ⟨by first | rfl | simp, m53.below⟩
    ·
     clear Hz; intro hb56 Hz
     try simp only [Q1x, Q2x, Q3x, Q4x, Q5x, Q6x, Q7x, Q8x, Q9x, Q0x, Qax, Qbx] at hb56
     have hh9 : y.hi = false := hb56
     refine wp_cond_false (Hz.ev (x := .tmp 37) rfl) ?_
     refine wp_skip ?_
     refine hK5 _ _ ?_; clear hK5; try clear K5
     refine wp_seq_k (fun K6 hK6 => ?_)
     refine wp_region_lit ?_
     refine goCh Hz (.loadBR m53 (i := 73) rfl rfl Try.underlying34 rfl sz34vt (by simp) (by dsimp only [List.drop, List.take] <;> rfl) .nil) ?_
     clear Hz Az; intro Az Hz
     refine wpList_plain rfl (fun K hK => ?_)
     refine e_call Hz Try.func21 rfl rfl rfl rfl (rlen_any _ _ _ _ _ _ _ _ _ _ _ _ _ _ _ _ _ _) ?_
     rintro e w60 ⟨rfl, hb60⟩
     rw [List.length_map]
     have m61 := m53.later hb60
     clear m53
     clear hb60
     refine ⟨_, rfl, ?_⟩; clear Hz Az; intro Az Hz
     refine hK _ _ ?_; clear hK K
     refine goCh Hz (.assign rfl .nil) ?_
     clear Hz Az; intro Az Hz
     refine wpList_nil ?_
     refine hK6 _ _ ?_; clear hK6; try clear K6
     replace Hz : Has 136 [(1, _), (4, _), (5, _), (6, _)] Az := Hz.only [1, 4, 5, 6]
     refine wp_seq_k (fun K7 hK7 => ?_)
     refine wp_region_lit ?_
     refine goCh Hz (.fieldAddr (off := 1) rfl Try.underlying34 rfl (s := 0) (by kernel_rfl) rfl <| .loadB1 m61 (i := 73) rfl rfl rfl Try.underlying3 rfl <| .fieldAddr (off := 2) rfl Try.underlying34 rfl (s := 0) (by kernel_rfl) rfl <| .loadB1 m61 (i := 73) rfl rfl rfl Try.underlying3 rfl <| .move rfl <| .nil) ?_
     clear Hz Az; intro Az Hz
     refine wpList_plain rfl (fun K hK => ?_)
     refine e_call Hz Try.func30 rfl rfl rfl rfl (sitem_q y.bl y.sz xs _ _ _ ((h2.now' m61 rfl).any) (by omega) hxb (by omega) (by omega) hxn) ?_
     rintro e w75 ⟨it, p75, c75, rfl, hil, hI, hitb, hd75, hb75⟩
     have m76 := m61.callF 74 rfl hb75 hd75
     clear m61
     clear hb75 hd75
     refine ⟨_, rfl, ?_⟩; clear Hz Az; intro Az Hz
     refine hK _ _ ?_; clear hK K
     refine goCh Hz (.assign rfl .nil) ?_
     clear Hz Az; intro Az Hz
     refine wpList_nil ?_
     refine hK7 _ _ ?_; clear hK7; try clear K7
     replace Hz : Has 136 [(4, _), (5, _), (6, _), (7, _)] Az := Hz.only [4, 5, 6, 7]
     refine wp_seq_k (fun K8 hK8 => ?_)
     refine wp_region_lit ?_
     refine goCh Hz (.loadBR m76 (i := 73) rfl rfl Try.underlying34 rfl sz34vt (by simp) (by dsimp only [List.drop, List.take] <;> rfl) <| .move rfl <| .build rfl zc25vt fl25vt rfl (by dsimp only [setL, List.set] <;> rfl) <| .nil) ?_
     clear Hz Az; intro Az Hz
     refine wpList_plain rfl (fun K hK => ?_)
     refine e_call Hz Try.func16 rfl rfl rfl rfl (xDo _ y.vo y.bl y.sz y.pe y.to y.ne y.fl y.hi y.place y.pins y.ws it _ _ _ _ _ _ _ _ 2 _ _ _ _ _ _ _ _ _ _ _ (by omega) (by decide) (by decide) (by omega) (by omega) (by omega) (by omega) hitb.ok hwo.1 (m76.into [(1, 70), (2, 71), (3, 72), (4, 74)] (by decide) rfl)) ?_
     rintro e w86 ⟨ne1, hi1, fl1, ws1, e1, rl1, rf1, rn1, p186, d186, p286, d286, p386, d386, rfl, hR1, hr1, hm86⟩
     have mx86 := m76.back hm86 [(70, 1), (71, 2), (72, 3), (74, 4), (75, 5), (76, 6), (77, 7)] (by decide); clear hm86 m76
     have m86 : MemOk _ _ [(70, _), (71, _), (72, _), (74, _), (75, _), (76, _), (77, _), (73, _)] _ := mx86.only [70, 71, 72, 74, 75, 76, 77, 73]; clear mx86
     refine ⟨_, rfl, ?_⟩; clear Hz Az; intro Az Hz
     refine hK _ _ ?_; clear hK K
     rw [doR_put_yes hh9 hI] at hR1; simp only [Prod.mk.injEq] at hR1; obtain ⟨rfl, rfl, rfl, hw1, rfl⟩ := hR1
     obtain ⟨-, rfl, rfl, rfl⟩ := hr1.resolve_left (fun h => h.1 rfl)
     have hw1l : ws1.length = y.ws.length + 1 := by rw [← hw1]; simp
     have hwo1 : WrsOk ws1 := hw1 ▸ wrs_app hwo.1 hil hitb.ok
     obtain ⟨S0, hS0⟩ : ∃ S, stL y.bl y.sz y.ws y.ws.length = S := ⟨_, rfl⟩
     have hS0' : stL y.bl y.sz ws1 y.ws.length = S0 := by rw [← hw1, stL_app _ _ _ _ _ (Nat.le_refl _)]; exact hS0
     obtain ⟨S1, hS1⟩ : ∃ S, stL y.bl y.sz ws1 (y.ws.length + 1) = S := ⟨_, rfl⟩
     have hSl : (S0.length : Int) = y.bl := by rw [← hS0, stL_len]; omega
     have hSl1 : S1.length = S0.length := by rw [← hS1, ← hS0, stL_len, stL_len]
     have hget : ∀ i, i < S0.length → S1.getD i [] = it.foldl (wantF i) (S0.getD i []) := fun i hi => by
       rw [← hS1, ← hw1, stL_snoc, hS0]; exact stSteps_get it i S0 hi
     have m88 := m86.freezeS 77 rfl (by simp [cx]); clear m86
     refine goCh Hz (.move rfl <| .extract rfl rfl <| .extract rfl rfl <| .nil) ?_
     clear Hz Az; intro Az Hz
     refine wpList_plain rfl (fun K hK => ?_)
     refine e_alloc Hz m88 78 zc34vt rfl ?_
     clear Hz Az m88; intro g92 Az w93 Hz m93 hB93 hg93
     clear hB93 hg93
     refine hK _ _ ?_; clear hK K
     refine wpList_plain rfl (fun K hK => ?_)
     refine e_alloc Hz m93 79 zc45vt rfl ?_
     clear Hz Az m93; intro g94 Az w95 Hz m95 hB95 hg95
     clear hB95 hg95
     refine hK _ _ ?_; clear hK K
     refine wpList_plain rfl (fun K hK => ?_)
     refine e_storeW Hz m95 78 rfl rfl rfl rfl rfl sz34vt ?_
     clear m95; intro w96 m96 hB96
     clear hB96
     refine hK _ _ ?_; clear hK K
     refine wpList_plain rfl (fun K hK => ?_)
     refine e_storeW Hz m96 79 rfl rfl rfl rfl rfl sz45vt ?_
     clear m96; intro w97 m97 hB97
     clear hB97
     refine hK _ _ ?_; clear hK K
     refine wpList_nil ?_
     refine hK8 _ _ ?_; clear hK8; try clear K8
     replace Hz : Has 136 [(4, _), (5, _), (6, _), (7, _), (8, _), (9, _)] Az := Hz.only [4, 5, 6, 7, 8, 9]
     refine wp_seq_k (fun K9 hK9 => ?_)
     refine wp_region_lit ?_
     refine goCh Hz (.loadBR m97 (i := 78) rfl rfl Try.underlying34 rfl sz34vt (by simp) (by dsimp only [List.drop, List.take] <;> rfl) <| .move rfl <| .nil) ?_
     clear Hz Az; intro Az Hz
     refine wpList_plain rfl (fun K hK => ?_)
     refine e_call Hz Try.func31 rfl rfl rfl rfl (state_q _ y.bl y.sz _ _ _ y.fl _ _ _ _ _ _ _ _ _ _ ws1 _ (y.ws.length) S0 _ ((m97.rd (i := 77) rfl).any) (by omega) hwo1 rfl (by omega) (by omega) (by omega) (by omega) hS0') ?_
     rintro e w103 ⟨p103, c103, rfl, hd103, hb103⟩
     have m104 := m97.callF 80 rfl hb103 hd103
     clear m97
     clear hb103 hd103
     refine ⟨_, rfl, ?_⟩; clear Hz Az; intro Az Hz
     refine hK _ _ ?_; clear hK K
     refine goCh Hz (.move rfl <| .extract rfl rfl <| .extract rfl rfl <| .assign rfl <| .assign rfl <| .nil) ?_
     clear Hz Az; intro Az Hz
     refine wpList_nil ?_
     refine hK9 _ _ ?_; clear hK9; try clear K9
     replace Hz : Has 136 [(4, _), (5, _), (6, _), (7, _), (8, _), (9, _), (10, _), (11, _)] Az := Hz.only [4, 5, 6, 7, 8, 9, 10, 11]
     refine wp_seq_k (fun K10 hK10 => ?_)
     refine wp_region_lit ?_
     refine goCh Hz (.loadBR m104 (i := 78) rfl rfl Try.underlying34 rfl sz34vt (by simp) (by dsimp only [List.drop, List.take] <;> rfl) <| .move rfl <| .add rfl rfl (IntWalk.i64_in _ (by omega)) <| .nil) ?_
     clear Hz Az; intro Az Hz
     refine wpList_plain rfl (fun K hK => ?_)
     refine e_call Hz Try.func31 rfl rfl rfl rfl (state_q _ y.bl y.sz _ _ _ y.fl _ _ _ _ _ _ _ _ _ _ ws1 ((y.ws.length : Int) + 1) (y.ws.length + 1) S1 _ ((m104.rd (i := 77) rfl).any) (by omega) hwo1 (by omega) (by omega) (by omega) (by omega) (by omega) hS1) ?_
     rintro e w118 ⟨p118, c118, rfl, hd118, hb118⟩
     have m119 := m104.callF 81 rfl hb118 hd118
     clear m104
     clear hb118 hd118
     refine ⟨_, rfl, ?_⟩; clear Hz Az; intro Az Hz
     refine hK _ _ ?_; clear hK K
     refine goCh Hz (.move rfl <| .extract rfl rfl <| .extract rfl rfl <| .assign rfl <| .assign rfl <| .nil) ?_
     clear Hz Az; intro Az Hz
     refine wpList_nil ?_
     refine hK10 _ _ ?_; clear hK10; try clear K10
     replace Hz : Has 136 [(4, _), (5, _), (6, _), (7, _), (9, _), (10, _), (11, _), (12, _), (13, _)] Az := Hz.only [4, 5, 6, 7, 9, 10, 11, 12, 13]
     refine wp_seq_k (fun K11 hK11 => ?_)
     refine wp_region_lit ?_
     refine goCh Hz (.loadBR m119 (i := 73) rfl rfl Try.underlying34 rfl sz34vt (by simp) (by dsimp only [List.drop, List.take] <;> rfl) <| .move rfl <| .nil) ?_
     clear Hz Az; intro Az Hz
     refine wpList_plain rfl (fun K hK => ?_)
     refine e_call Hz Try.func31 rfl rfl rfl rfl (state_q _ y.bl y.sz _ _ _ y.fl _ _ _ _ _ _ _ _ _ _ y.ws _ (y.ws.length) S0 _ ((m119.rd (i := 72) rfl).any) (by omega) hwo.1 rfl (by omega) (by omega) (by omega) (by omega) hS0) ?_
     rintro e w131 ⟨p131, c131, rfl, hd131, hb131⟩
     have m132 := m119.callF 82 rfl hb131 hd131
     clear m119
     clear hb131 hd131
     refine ⟨_, rfl, ?_⟩; clear Hz Az; intro Az Hz
     refine hK _ _ ?_; clear hK K
     refine goCh Hz (.move rfl <| .extract rfl rfl <| .extract rfl rfl <| .assign rfl <| .assign rfl <| .nil) ?_
     clear Hz Az; intro Az Hz
     refine wpList_nil ?_
     refine hK11 _ _ ?_; clear hK11; try clear K11
     refine wp_seq_k (fun K12 hK12 => ?_)
     replace Hz : Has 136 [(4, _), (5, _), (6, _), (7, _), (9, _), (10, _), (11, _), (12, _), (13, _), (14, _), (15, _)] Az := Hz.only [4, 5, 6, 7, 9, 10, 11, 12, 13, 14, 15]
     refine wp_seq_k (fun K13 hK13 => ?_)
     refine wp_region_lit ?_
     refine goCh Hz (.fieldAddr (off := 0) rfl Try.underlying45 rfl (s := 0) (by kernel_rfl) rfl <| .loadB1 m132 (i := 79) rfl rfl rfl Try.underlying35 rfl <| .neq rfl rfl <| .move rfl <| .nil) ?_
     clear Hz Az; intro Az Hz
     refine bool_cases Hz (t := 75) rfl ?_ ?_
     · intro hb _; exact absurd hb (by simp)
     clear Hz; intro _ Hz
     refine goCh Hz (.fieldAddrZ (off := 1) rfl Try.underlying45 rfl (s := 0) (by kernel_rfl) rfl <| .loadB1Z m132 (i := 79) rfl rfl rfl Try.underlying2 rfl <| .moveZ rfl <| .addZ rfl rfl (IntWalk.i64_in _ (by omega)) <| .neqZ rfl rfl <| .pickF rfl rfl <| .move rfl <| .nil) ?_
     clear Hz Az; intro Az Hz
     refine bool_cases Hz (t := 82) rfl ?_ ?_
     · intro hb _; exact absurd hb (by simp [hw1l])
     clear Hz; intro _ Hz
     refine goCh Hz (.moveZ rfl <| .neqZ rfl rfl <| .pickF rfl rfl <| .move rfl <| .nil) ?_
     clear Hz Az; intro Az Hz
     refine bool_cases Hz (t := 86) rfl ?_ ?_
     · intro hb _; exact absurd hb (by simp)
     clear Hz; intro _ Hz
     refine goCh Hz (.moveZ rfl <| .neqZ rfl rfl <| .pickF rfl rfl <| .move rfl <| .nil) ?_
     clear Hz Az; intro Az Hz
     refine bool_cases Hz (t := 90) rfl ?_ ?_
     · intro hb _; exact absurd hb (by simp)
     clear Hz; intro _ Hz
     refine goCh Hz (.moveZ rfl <| .neqZ rfl rfl <| .pickF rfl rfl <| .move rfl <| .nil) ?_
     clear Hz Az; intro Az Hz
     refine bool_cases Hz (t := 94) rfl ?_ ?_
     · intro hb _; exact absurd hb (by simp)
     clear Hz; intro _ Hz
     refine goCh Hz (.moveZ rfl <| .moveZ rfl <| .nil) ?_
     clear Hz Az; intro Az Hz
     refine st_ge Hz rfl rfl rfl rfl (fun K hK => ?_)
     refine e_call Hz Try.func32 rfl rfl rfl rfl (bodies_any S0 _ _ _ _ _ _ _ ((m132.rd (i := 80) rfl).any) ((m132.rd (i := 82) rfl).any) (by omega)) ?_
     rintro e w174 ⟨rfl, hb174⟩
     have m175 := m132.later hb174
     clear m132
     clear hb174
     refine ⟨_, rfl, ?_⟩; clear Hz Az; intro Az Hz
     refine hK _ _ ?_; clear hK K
     refine goCh Hz (.notZ rfl <| .pickF rfl rfl <| .nil) ?_
     clear Hz Az; intro Az Hz
     refine wpList_nil ?_
     refine hK13 _ _ ?_; clear hK13; try clear K13
     refine wp_cond_false (Hz.ev (x := .tmp 99) rfl) ?_
     refine wp_skip ?_
     refine hK12 _ _ ?_; clear hK12; try clear K12
     refine wp_seq_k (fun K14 hK14 => ?_)
     replace Hz : Has 136 [(4, _), (5, _), (7, _), (10, _), (12, _)] Az := Hz.only [4, 5, 7, 10, 12]
     refine regS Hz (.assign rfl <| .nil) ?_
     clear Hz Az; intro Az Hz
     refine wp_block ?_
     refine wp_loop_ghost (fun g a w => ∃ (i : Nat) (B5 : Nat) (x1 x2 x3 : Value) (pi pa pb : Option Addr) (ci ca cb : Nat), i ≤ S0.length ∧ g = S0.length - i ∧ Has 136 [(5, .pointer (some ⟨B5, 0, none⟩)), (7, .slice pi it.length ci), (10, .slice pa (S0.map bD).length ca), (12, .slice pb (S1.map bD).length cb), (16, .int .i64 i)] a ∧ MemOk (cn w0) w0 [(5, .box B5 34 [.int .i64 y.vo, .int .i64 y.bl, .int .i64 y.sz, .int .i64 y.pe, x1, .int .i64 y.to, .int .i64 y.ne, .bool y.hi, .int .i64 y.fl, x2, x3]), (20, .dat (.slice pi it.length ci) (.l 2 (it.map itD))), (21, .dat (.slice pa (S0.map bD).length ca) (.l 1 (S0.map bD))), (22, .dat (.slice pb (S1.map bD).length cb) (.l 1 (S1.map bD)))] w) (S0.length) ?_ ?_
     · exact ⟨0, _, _, _, _, _, _, _, _, _, _, Nat.zero_le _, rfl, Hz.only [5, 7, 10, 12, 16], m175.ren [(5, 73), (20, 74), (21, 80), (22, 81)] (by decide)⟩
     ·
      clear Hz m175
      rintro g Az w181 ⟨i, B5, x1, x2, x3, pi, pa, pb, ci, ca, cb, hil2, hg, Hz, m181⟩
      refine wp_seq_k (fun K15 hK15 => ?_)
      refine regS Hz (.move rfl <| .fieldAddr (off := 1) rfl Try.underlying34 rfl (s := 0) (by kernel_rfl) rfl <| .loadB1 m181 (i := 5) rfl rfl rfl Try.underlying3 rfl <| .lss rfl rfl <| .nil) ?_
      clear Hz Az; intro Az Hz
      refine bool_cases Hz (t := 103) rfl ?_ ?_
      ·
       clear Hz; intro hb186 Hz
       try simp only [Q1x, Q2x, Q3x, Q4x, Q5x, Q6x, Q7x, Q8x, Q9x, Q0x, Qax, Qbx] at hb186
       have hi9 : i < S0.length := by have := hb186; first | omega | (simp at this; omega)
       refine wp_cond_true (Hz.ev (x := .tmp 103) rfl) ?_
       refine wp_skip ?_
       refine hK15 _ _ ?_; clear hK15; try clear K15
       refine wp_seq_k (fun K16 hK16 => ?_)
       refine wp_block ?_
       refine wp_seq_k (fun K17 hK17 => ?_)
       refine wp_region_lit ?_
       refine goCh Hz (.move rfl <| .move rfl <| .nil) ?_
       clear Hz Az; intro Az Hz
       obtain ⟨b192, o192, vs192, hp192, hR192, ho192, m192⟩ := m181.openR (i := 21) rfl (i) (r := [.ns .u8 (S0.getD i [])]) (bD_get (by omega)) 100 rfl
       cases hp192; clear m181 ho192
       rcases hR192 with _ | ⟨hd192_0, _ | _⟩
       obtain ⟨p193, c193, hv193, hc193⟩ := hd192_0.ns_shape; subst hv193
       have m193 := m192.dat 101 rfl (hd192_0.cast (fun _ h => (free_add rfl h))); clear m192 hd192_0
       refine goCh Hz (.c rfl (fun _ h => y_idx h rfl rfl Try.underlying62 sz43vt (i) rfl (by rw [List.length_map]; omega)) <| .loadC0 m193 (i := 100) rfl rfl Try.underlying43 rfl <| .assign rfl <| .nil) ?_
       clear Hz Az; intro Az Hz
       refine wpList_nil ?_
       refine hK17 _ _ ?_; clear hK17; try clear K17
       refine wp_seq_k (fun K18 hK18 => ?_)
       replace Hz : Has 136 [(5, _), (7, _), (10, _), (12, _), (16, _), (17, _)] Az := Hz.only [5, 7, 10, 12, 16, 17]
       refine regS Hz (.assign rfl <| .nil) ?_
       clear Hz Az; intro Az Hz
       refine wp_block ?_
       refine wp_loop_ghost (fun g a w => ∃ (k : Nat) (wd : List Int) (B5 : Nat) (x1 x2 x3 : Value) (pi pa pb : Option Addr) (ci ca cb : Nat) (pq : Option Addr) (cq : Nat), k ≤ it.length ∧ g = it.length - k ∧ wd = (it.take k).foldl (wantF i) (S0.getD i []) ∧ Has 136 [(5, .pointer (some ⟨B5, 0, none⟩)), (7, .slice pi it.length ci), (10, .slice pa (S0.map bD).length ca), (12, .slice pb (S1.map bD).length cb), (16, .int .i64 i), (17, .slice pq wd.length cq), (18, .int .i64 k)] a ∧ MemOk (cn w0) w0 [(5, .box B5 34 [.int .i64 y.vo, .int .i64 y.bl, .int .i64 y.sz, .int .i64 y.pe, x1, .int .i64 y.to, .int .i64 y.ne, .bool y.hi, .int .i64 y.fl, x2, x3]), (20, .dat (.slice pi it.length ci) (.l 2 (it.map itD))), (21, .dat (.slice pa (S0.map bD).length ca) (.l 1 (S0.map bD))), (22, .dat (.slice pb (S1.map bD).length cb) (.l 1 (S1.map bD))), (30, .dat (.slice pq wd.length cq) (.ns .u8 wd))] w) (it.length) ?_ ?_
       · exact ⟨0, _, _, _, _, _, _, _, _, _, _, _, _, _, Nat.zero_le _, rfl, rfl, Hz.only [5, 7, 10, 12, 16, 17, 18], m193.ren [(5, 5), (20, 20), (21, 21), (22, 22), (30, 101)] (by decide)⟩
       ·
        clear Hz m193
        rintro g Az w199 ⟨k, wd, B5, x1, x2, x3, pi, pa, pb, ci, ca, cb, pq, cq, hkl, hg2, hwd, Hz, m199⟩
        refine wp_seq_k (fun K19 hK19 => ?_)
        refine regS Hz (.move rfl <| .move rfl <| .len rfl Try.underlying23 <| .lss rfl rfl <| .nil) ?_
        clear Hz Az; intro Az Hz
        refine bool_cases Hz (t := 113) rfl ?_ ?_
        ·
         clear Hz; intro hb204 Hz
         try simp only [Q1x, Q2x, Q3x, Q4x, Q5x, Q6x, Q7x, Q8x, Q9x, Q0x, Qax, Qbx] at hb204
         have hk : k < it.length := by have := hb204; first | omega | (simp at this; omega)
         obtain ⟨⟨xb, xd⟩, hes⟩ : ∃ e, it[k]? = some e := ⟨_, List.getElem?_eq_getElem hk⟩
         refine wp_cond_true (Hz.ev (x := .tmp 113) rfl) ?_
         refine wp_skip ?_
         refine hK19 _ _ ?_; clear hK19; try clear K19
         refine wp_seq_k (fun K20 hK20 => ?_)
         refine wp_block ?_
         refine wp_seq_k (fun K21 hK21 => ?_)
         refine wp_region_lit ?_
         refine goCh Hz (.move rfl <| .move rfl <| .nil) ?_
         clear Hz Az; intro Az Hz
         obtain ⟨b210, o210, vs210, hp210, hR210, ho210, m210⟩ := m199.openR (i := 20) rfl (k) (r := [.v (.int .i64 xb), .ns .u8 xd]) (itD_get hes) 200 rfl
         cases hp210; clear m199 ho210
         rcases hR210 with _ | ⟨hd210_0, _ | ⟨hd210_1, _ | _⟩⟩
         obtain rfl := hd210_0.v_out
         clear hd210_0
         obtain ⟨p211, c211, hv211, hc211⟩ := hd210_1.ns_shape; subst hv211
         have m211 := m210.dat 201 rfl (hd210_1.cast (fun _ h => (free_add rfl h))); clear m210 hd210_1
         refine goCh Hz (.c rfl (fun _ h => y_idx h rfl rfl Try.underlying23 sz67vt (k) rfl (by simpa using hk)) <| .fieldAddrQ 0 rfl Try.underlying67 rfl (s := 0) (by kernel_rfl) rfl <| .loadC0 m211 (i := 200) rfl rfl Try.underlying3 rfl <| .move rfl <| .eql rfl rfl <| .nil) ?_
         clear Hz Az; intro Az Hz
         refine wpList_nil ?_
         refine hK21 _ _ ?_; clear hK21; try clear K21
         refine bool_cases Hz (t := 122) rfl ?_ ?_
         ·
          clear Hz; intro hb217 Hz
          try simp only [Q1x, Q2x, Q3x, Q4x, Q5x, Q6x, Q7x, Q8x, Q9x, Q0x, Qax, Qbx] at hb217
          refine wp_cond_true (Hz.ev (x := .tmp 122) rfl) ?_
          replace Hz : Has 136 [(5, _), (7, _), (10, _), (12, _), (16, _), (17, _), (18, _), (122, _)] Az := Hz.only [5, 7, 10, 12, 16, 17, 18, 122]
          refine wp_region_lit ?_
          refine goCh Hz (.move rfl <| .move rfl <| .nil) ?_
          clear Hz Az; intro Az Hz
          obtain ⟨b221, o221, vs221, hp221, hR221, ho221, m221⟩ := m211.openR (i := 20) rfl (k) (r := [.v (.int .i64 xb), .ns .u8 xd]) (itD_get hes) 202 rfl
          cases hp221; clear m211 ho221
          rcases hR221 with _ | ⟨hd221_0, _ | ⟨hd221_1, _ | _⟩⟩
          obtain rfl := hd221_0.v_out
          clear hd221_0
          obtain ⟨p222, c222, hv222, hc222⟩ := hd221_1.ns_shape; subst hv222
          have m222 := m221.dat 203 rfl (hd221_1.cast (fun _ h => (free_add rfl h))); clear m221 hd221_1
          refine goCh Hz (.c rfl (fun _ h => y_idx h rfl rfl Try.underlying23 sz67vt (k) rfl (by simpa using hk)) <| .fieldAddrQ 1 rfl Try.underlying67 rfl (s := 0) (by kernel_rfl) rfl <| .loadC1 m222 (i := 202) (q := 1) rfl rfl rfl Try.underlying43 rfl <| .assign rfl <| .nil) ?_
          clear Hz Az; intro Az Hz
          refine wpList_nil ?_
          refine hK20 _ _ ?_; clear hK20; try clear K20
          refine wp_region_lit ?_
          refine goCh Hz (.move rfl <| .add rfl rfl (r := ((k + 1 : Nat) : Int)) (by rw [IntWalk.i64_in _ (by omega)]; omega) <| .assign rfl <| .nil) ?_
          clear Hz Az; intro Az Hz
          refine wpList_nil ?_
          show ∃ n', n' < _ ∧ _
          exact ⟨it.length - (k + 1), by omega, k + 1, _, _, _, _, _, _, _, _, _, _, _, _, _, by omega, rfl, (wantF_yes hes hwd (by simp_all)), Hz.only [5, 7, 10, 12, 16, 17, 18], m222.ren [(5, 5), (20, 20), (21, 21), (22, 22), (30, 203)] (by decide)⟩
         ·
          clear Hz; intro hb217 Hz
          try simp only [Q1x, Q2x, Q3x, Q4x, Q5x, Q6x, Q7x, Q8x, Q9x, Q0x, Qax, Qbx] at hb217
          refine wp_cond_false (Hz.ev (x := .tmp 122) rfl) ?_
          refine wp_skip ?_
          refine hK20 _ _ ?_; clear hK20; try clear K20
          replace Hz : Has 136 [(5, _), (7, _), (10, _), (12, _), (16, _), (17, _), (18, _), (122, _)] Az := Hz.only [5, 7, 10, 12, 16, 17, 18, 122]
          refine wp_region_lit ?_
          refine goCh Hz (.move rfl <| .add rfl rfl (r := ((k + 1 : Nat) : Int)) (by rw [IntWalk.i64_in _ (by omega)]; omega) <| .assign rfl <| .nil) ?_
          clear Hz Az; intro Az Hz
          refine wpList_nil ?_
          show ∃ n', n' < _ ∧ _
          exact ⟨it.length - (k + 1), by omega, k + 1, _, _, _, _, _, _, _, _, _, _, _, _, _, by omega, rfl, (wantF_no hes hwd (by simp_all)), Hz.only [5, 7, 10, 12, 16, 17, 18], m211.ren [(5, 5), (20, 20), (21, 21), (22, 22), (30, 30)] (by decide)⟩
        ·
         clear Hz; intro hb204 Hz
         try simp only [Q1x, Q2x, Q3x, Q4x, Q5x, Q6x, Q7x, Q8x, Q9x, Q0x, Qax, Qbx] at hb204
         have hke : k = it.length := by have := hb204; first | omega | (simp at this; omega)
         have hwe : S1.getD i [] = wd := by rw [hwd, hke, List.take_length]; exact hget i hi9
         refine wp_cond_false (Hz.ev (x := .tmp 113) rfl) ?_
         refine wp_exit ?_
         refine hK18 _ _ ?_; clear hK18; try clear K18
         refine wp_seq_k (fun K22 hK22 => ?_)
         obtain ⟨b234, o234, vs234, hp234, hR234, ho234, m234⟩ := m199.openR (i := 22) rfl (i) (r := [.ns .u8 (S1.getD i [])]) (bD_get (by omega)) 200 rfl
         cases hp234; clear m199 ho234
         rcases hR234 with _ | ⟨hd234_0, _ | _⟩
         obtain ⟨p235, c235, hv235, hc235⟩ := hd234_0.ns_shape; subst hv235
         have m235 := m234.dat 201 rfl (hd234_0.cast (fun _ h => (free_add rfl h))); clear m234 hd234_0
         have m236 : MemOk _ _ [(5, _), (20, _), (21, _), (22, _), (30, _), (200, _), (201, _)] _ := m235.only [5, 20, 21, 22, 30, 200, 201]; clear m235
         refine region_p 8 (B := [(5, _), (20, _), (21, _), (22, _), (30, _), (200, _), (201, _)]) (m236.to ⟨il, il, il, il, il, il, il, trivial⟩) m236 (by kernel_rfl) (fun w237 hP237 m237 => ?_); clear m236
         refine goR hP237 [0, 1, 2, 3, 4, 5, 6, 7] [3, 4, 6] 8 0 255 Hz (m237.to ⟨il, il, il, il, il, il, il, trivial⟩) (.move rfl <| .move rfl <| .p (fun _ _ h => y_idx h rfl rfl Try.underlying62 sz43vt (i) rfl (by rw [List.length_map]; omega)) <| .loadC0 hh (i := 200) rfl rfl Try.underlying43 rfl <| .str rfl (fun _ h => (h.nums (i := 201) rfl)) Try.underlying43 Try.underlying5 Try.underlying9 <| .move rfl <| .str rfl (fun _ h => (h.nums (i := 30) rfl)) Try.underlying43 Try.underlying5 Try.underlying9 <| .neqS rfl rfl <| .nil) ?_
         clear Hz Az; intro Az Hz
         refine wpAnyE_done (by kernel_rfl) ?_ _
         refine hK22 _ _ ?_; clear hK22; try clear K22
         refine bool_cases Hz (t := 135) rfl ?_ ?_
         · intro hb _; exact absurd hb (by rw [hwe]; simp)
         clear Hz; intro _ Hz
         refine wp_cond_false (Hz.ev (x := .tmp 135) rfl) ?_
         refine wp_skip ?_
         refine hK16 _ _ ?_; clear hK16; try clear K16
         replace Hz : Has 136 [(5, _), (7, _), (10, _), (12, _), (16, _), (17, _), (18, _)] Az := Hz.only [5, 7, 10, 12, 16, 17, 18]
         refine wp_region_lit ?_
         refine goCh Hz (.move rfl <| .add rfl rfl (r := ((i + 1 : Nat) : Int)) (by rw [IntWalk.i64_in _ (by omega)]; omega) <| .assign rfl <| .nil) ?_
         clear Hz Az; intro Az Hz
         refine wpList_nil ?_
         show ∃ n', n' < _ ∧ _
         exact ⟨S0.length - (i + 1), by omega, i + 1, _, _, _, _, _, _, _, _, _, _, by omega, rfl, Hz.only [5, 7, 10, 12, 16], m237.ren [(5, 5), (20, 20), (21, 21), (22, 22)] (by decide)⟩
      ·
       clear Hz; intro hb186 Hz
       try simp only [Q1x, Q2x, Q3x, Q4x, Q5x, Q6x, Q7x, Q8x, Q9x, Q0x, Qax, Qbx] at hb186
       refine wp_cond_false (Hz.ev (x := .tmp 103) rfl) ?_
       refine wp_exit ?_
       refine hK14 _ _ ?_; clear hK14; try clear K14
       refine regS Hz (.assign rfl <| .nil) ?_
       clear Hz Az; intro Az Hz
       refine wp_ret ?_
       try dsimp only [Exit.then, Exit.inBlock]
       refine (ret1 (fn := Try.f7) Hz rfl rfl ?_)
       exact ⟨by first | rfl | simp, m181.below⟩
end Go.Proofs.Ytocfbocdnklllaa.K
