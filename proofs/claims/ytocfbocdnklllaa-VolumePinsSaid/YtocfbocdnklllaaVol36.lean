/- VolumePins' walk. -/
import Derived.Test.YtocfbocdnklllaaVolSm
import Derived.Test.YtocfbocdnklllaaVol13
namespace Go.Proofs.Ytocfbocdnklllaa.K
open Go.ChangeShapes Go.WideShapes Go.ChangeAt Go.RowKit
set_option linter.unusedVariables false
set_option linter.unusedSimpArgs false

theorem fl25vpn : flatS Try.prog 25 [.int .i64 0, .int .i64 0, .int .i64 0, .int .i64 0, .int .i64 0, .slice none 0 0, .int .i64 0, .int .i64 0, .int .i64 0, .slice none 0 0] = true := by kernel_rfl
theorem sz5vpn : (Try.prog.info? 5).map (·.size) = some 1 := by kernel_rfl
theorem sz34vpn : (Try.prog.info? 34).map (·.size) = some 11 := by kernel_rfl
theorem sz45vpn : (Try.prog.info? 45).map (·.size) = some 5 := by kernel_rfl
theorem zc25vpn : ((Try.prog.info? 25).bind (·.zero)).map (·.cells.toList) = some [.int .i64 0, .int .i64 0, .int .i64 0, .int .i64 0, .int .i64 0, .slice none 0 0, .int .i64 0, .int .i64 0, .int .i64 0, .slice none 0 0] := by kernel_rfl
theorem zc34vpn : ((Try.prog.info? 34).bind (·.zero)).map (·.cells.toList) = some [.int .i64 0, .int .i64 0, .int .i64 0, .int .i64 0, .slice none 0 0, .int .i64 0, .int .i64 0, .bool false, .int .i64 0, .slice none 0 0, .slice none 0 0] := by kernel_rfl
theorem zc45vpn : ((Try.prog.info? 45).bind (·.zero)).map (·.cells.toList) = some [.int .i64 0, .int .i64 0, .int .i64 0, .int .i64 0, .slice none 0 0] := by kernel_rfl

set_option maxRecDepth 100000
set_option maxHeartbeats 4000000
theorem pins_walk (l : List Int) (pl : Option Addr) (cl : Nat) (ps : List Int) (pp : Option Addr) (cp : Nat) (w0 : World) (h1 : Rd (fun _ => True) w0 (.slice pl l.length cl) (.ns .u8 l)) (hlb : ∀ j, j < l.length → 0 ≤ l.getD j 0 ∧ l.getD j 0 ≤ 255) (h2 : Rd (fun _ => True) w0 (.slice pp ps.length cp) (.ns .u8 ps)) (hpb : ∀ j, j < ps.length → 0 ≤ ps.getD j 0 ∧ ps.getD j 0 ≤ 255) :
   Calls Try.prog 5 #[.slice pl l.length cl, .slice pp ps.length cp] w0 fun e w' => e = .returned (.bool true) ∧ Below w0.heap.size w0 w' := by
 refine enter (fn := Try.f5) Try.func5 rfl Try.ntmps5 rfl (fun Az Hz => ?_)
 simp only [List.zipIdx_cons, List.zipIdx_nil, List.map_cons, List.map_nil, Nat.reduceAdd, Nat.zero_add] at Hz
 have m0 := MemOk.start (fun _ => False) w0
 refine regS Hz (.assign rfl <| .nil) ?_
 clear Hz Az; intro Az Hz
 refine wp_seq_k (fun K0 hK0 => ?_)
 refine wp_seq_k (fun K1 hK1 => ?_)
 refine wp_region_lit ?_
 refine wpList_plain rfl (fun K hK => ?_)
 refine e_call Hz Try.func9 rfl rfl rfl rfl (vknown_any _) ?_
 rintro e w2 ⟨rfl, hb2⟩
 have m3 := m0.later hb2
 clear m0
 clear hb2
 refine ⟨_, rfl, ?_⟩; clear Hz Az; intro Az Hz
 refine hK _ _ ?_; clear hK K
 refine goCh Hz (.not rfl .nil) ?_
 clear Hz Az; intro Az Hz
 refine wpList_nil ?_
 refine hK1 _ _ ?_; clear hK1; try clear K1
 refine wp_cond_false (Hz.ev (x := .tmp 18) rfl) ?_
 refine wp_skip ?_
 refine hK0 _ _ ?_; clear hK0; try clear K0
 refine wp_seq_k (fun K2 hK2 => ?_)
 refine wp_seq_k (fun K3 hK3 => ?_)
 refine wp_region_lit ?_
 refine goCh Hz (.move rfl <| .len rfl Try.underlying43 <| .gtr rfl rfl <| .move rfl <| .nil) ?_
 clear Hz Az; intro Az Hz
 refine bool_cases Hz (t := 22) rfl ?_ ?_
 ·
  clear Hz; intro hb14 Hz
  try simp only [Q1x, Q2x, Q3x, Q4x, Q5x, Q6x, Q7x, Q8x, Q9x, Q0x, Qax, Qbx] at hb14
  refine goCh Hz (.sk <| .sk <| .sk <| .pickT rfl rfl <| .nil) ?_
  clear Hz Az; intro Az Hz
  refine wpList_nil ?_
  refine hK3 _ _ ?_; clear hK3; try clear K3
  refine wp_cond_true (Hz.ev (x := .tmp 26) rfl) ?_
  replace Hz : Has 123 [(0, _), (1, _), (4, _)] Az := Hz.only [0, 1, 4]
  refine regS Hz (.assign rfl <| .nil) ?_
  clear Hz Az; intro Az Hz
  refine wp_ret ?_
  try dsimp only [Exit.then, Exit.inBlock]
  refine (ret1 (fn := Try.f5) Hz rfl rfl ?_)
  exact ⟨by first | rfl | simp, m3.below⟩
 ·
  clear Hz; intro hb14 Hz
  try simp only [Q1x, Q2x, Q3x, Q4x, Q5x, Q6x, Q7x, Q8x, Q9x, Q0x, Qax, Qbx] at hb14
  have hl60 : l.length ≤ 60 := by have := hb14; first | omega | (simp at this; omega)
  refine goCh Hz (.moveZ rfl <| .lenZ rfl Try.underlying43 <| .gtrZ rfl rfl <| .pickF rfl rfl <| .nil) ?_
  clear Hz Az; intro Az Hz
  refine wpList_nil ?_
  refine hK3 _ _ ?_; clear hK3; try clear K3
  refine bool_cases Hz (t := 26) rfl ?_ ?_
  ·
   clear Hz; intro hb25 Hz
   try simp only [Q1x, Q2x, Q3x, Q4x, Q5x, Q6x, Q7x, Q8x, Q9x, Q0x, Qax, Qbx] at hb25
   refine wp_cond_true (Hz.ev (x := .tmp 26) rfl) ?_
   replace Hz : Has 123 [(0, _), (1, _), (4, _)] Az := Hz.only [0, 1, 4]
   refine regS Hz (.assign rfl <| .nil) ?_
   clear Hz Az; intro Az Hz
   refine wp_ret ?_
   try dsimp only [Exit.then, Exit.inBlock]
   refine (ret1 (fn := Try.f5) Hz rfl rfl ?_)
   exact ⟨by first | rfl | simp, m3.below⟩
  ·
   clear Hz; intro hb25 Hz
   try simp only [Q1x, Q2x, Q3x, Q4x, Q5x, Q6x, Q7x, Q8x, Q9x, Q0x, Qax, Qbx] at hb25
   have hp12 : ps.length ≤ 12 := by have := hb25; first | omega | (simp at this; omega)
   refine wp_cond_false (Hz.ev (x := .tmp 26) rfl) ?_
   refine wp_skip ?_
   refine hK2 _ _ ?_; clear hK2; try clear K2
   replace Hz : Has 123 [(0, _), (1, _), (4, _)] Az := Hz.only [0, 1, 4]
   refine wp_seq_k (fun K4 hK4 => ?_)
   refine wp_region_lit ?_
   refine goCh Hz (.move rfl .nil) ?_
   clear Hz Az; intro Az Hz
   refine wpList_plain rfl (fun K hK => ?_)
   refine e_call Hz Try.func26 rfl rfl rfl rfl (svol_any l _ _ _ ((h1.now' m3 rfl).any) (by omega) hlb) ?_
   rintro e w31 ⟨y, p131, p231, p331, d131, d231, d331, rfl, hS, hd31, he31, hf31, hb31⟩
   have m32 := m3.callF3 70 71 72 rfl rfl rfl hb31 hd31 he31 hf31
   clear m3
   clear hb31 hd31 he31 hf31
   obtain ⟨hpl, hpn, hws, hwi⟩ := hS.sm
   obtain ⟨hV, hh0, hpn9, hws9⟩ := hS
   have hV9 := hV
   obtain ⟨v1, v2, v3, v4, v5, v6, v7, v8, v9⟩ := hV9
   have v0 := v1
   obtain ⟨n1, n2, n3, n4, n5, n6, n7, n8, n9, n10, n11⟩ := v0
   have hwo := hV.its
   refine ⟨_, rfl, ?_⟩; clear Hz Az; intro Az Hz
   refine hK _ _ ?_; clear hK K
   refine wpList_plain rfl (fun K hK => ?_)
   refine e_alloc Hz m32 73 zc34vpn rfl ?_
   clear Hz Az m32; intro g34 Az w35 Hz m35 hB35 hg35
   clear hB35 hg35
   refine hK _ _ ?_; clear hK K
   refine wpList_plain rfl (fun K hK => ?_)
   refine e_storeW Hz m35 73 rfl rfl rfl rfl rfl sz34vpn ?_
   clear m35; intro w36 m36 hB36
   clear hB36
   refine hK _ _ ?_; clear hK K
   refine wpList_nil ?_
   refine hK4 _ _ ?_; clear hK4; try clear K4
   refine wp_seq_k (fun K5 hK5 => ?_)
   refine regS Hz (.fieldAddr (off := 7) rfl Try.underlying34 rfl (s := 0) (by kernel_rfl) rfl <| .loadB1 m36 (i := 73) rfl rfl rfl Try.underlying4 rfl <| .nil) ?_
   clear Hz Az; intro Az Hz
   refine bool_cases Hz (t := 30) rfl ?_ ?_
   ·
    clear Hz; intro hb39 Hz
    try simp only [Q1x, Q2x, Q3x, Q4x, Q5x, Q6x, Q7x, Q8x, Q9x, Q0x, Qax, Qbx] at hb39
    refine wp_cond_true (Hz.ev (x := .tmp 30) rfl) ?_
    refine regS Hz (.assign rfl <| .nil) ?_
    clear Hz Az; intro Az Hz
    refine wp_ret ?_
    try dsimp only [Exit.then, Exit.inBlock]
    refine (ret1 (fn := Try.f5) Hz rfl rfl ?_)
    exact ⟨by first | rfl | simp, m36.below⟩
   ·
    clear Hz; intro hb39 Hz
    try simp only [Q1x, Q2x, Q3x, Q4x, Q5x, Q6x, Q7x, Q8x, Q9x, Q0x, Qax, Qbx] at hb39
    have hh9 : y.hi = false := hb39
    refine wp_cond_false (Hz.ev (x := .tmp 30) rfl) ?_
    refine wp_skip ?_
    refine hK5 _ _ ?_; clear hK5; try clear K5
    refine wp_seq_k (fun K6 hK6 => ?_)
    refine wp_region_lit ?_
    refine goCh Hz (.loadBR m36 (i := 73) rfl rfl Try.underlying34 rfl sz34vpn (by simp) (by dsimp only [List.drop, List.take] <;> rfl) .nil) ?_
    clear Hz Az; intro Az Hz
    refine wpList_plain rfl (fun K hK => ?_)
    refine e_call Hz Try.func21 rfl rfl rfl rfl (rlen_any _ _ _ _ _ _ _ _ _ _ _ _ _ _ _ _ _ _) ?_
    rintro e w43 ⟨rfl, hb43⟩
    rw [List.length_map]
    have m44 := m36.later hb43
    clear m36
    clear hb43
    refine ⟨_, rfl, ?_⟩; clear Hz Az; intro Az Hz
    refine hK _ _ ?_; clear hK K
    refine goCh Hz (.assign rfl .nil) ?_
    clear Hz Az; intro Az Hz
    refine wpList_nil ?_
    refine hK6 _ _ ?_; clear hK6; try clear K6
    replace Hz : Has 123 [(1, _), (4, _), (5, _), (6, _)] Az := Hz.only [1, 4, 5, 6]
    refine wp_seq_k (fun K7 hK7 => ?_)
    refine wp_region_lit ?_
    refine goCh Hz (.loadBR m44 (i := 73) rfl rfl Try.underlying34 rfl sz34vpn (by simp) (by dsimp only [List.drop, List.take] <;> rfl) .nil) ?_
    clear Hz Az; intro Az Hz
    refine wpList_plain rfl (fun K hK => ?_)
    refine e_alloc Hz m44 74 zc34vpn rfl ?_
    clear Hz Az m44; intro g50 Az w51 Hz m51 hB51 hg51
    clear hB51 hg51
    refine hK _ _ ?_; clear hK K
    refine wpList_plain rfl (fun K hK => ?_)
    refine e_storeW Hz m51 74 rfl rfl rfl rfl rfl sz34vpn ?_
    clear m51; intro w52 m52 hB52
    clear hB52
    refine hK _ _ ?_; clear hK K
    refine wpList_nil ?_
    refine hK7 _ _ ?_; clear hK7; try clear K7
    refine wp_seq_k (fun K8 hK8 => ?_)
    refine wp_region_lit ?_
    refine goCh Hz (.loadBR m52 (i := 73) rfl rfl Try.underlying34 rfl sz34vpn (by simp) (by dsimp only [List.drop, List.take] <;> rfl) .nil) ?_
    clear Hz Az; intro Az Hz
    refine wpList_plain rfl (fun K hK => ?_)
    refine e_call Hz Try.func22 rfl rfl rfl rfl (low_nn _ _ _ _ _ _ _ _ y.place y.pins y.ws _ _ _ _ _ _ _ _ ((m52.rd (i := 71) rfl).any) (by omega)) ?_
    rintro e w55 ⟨rfl, hb55⟩
    have m56 := m52.later hb55
    clear m52
    clear hb55
    refine ⟨_, rfl, ?_⟩; clear Hz Az; intro Az Hz
    refine hK _ _ ?_; clear hK K
    refine goCh Hz (.assign rfl .nil) ?_
    clear Hz Az; intro Az Hz
    refine wpList_nil ?_
    refine hK8 _ _ ?_; clear hK8; try clear K8
    refine wp_seq_k (fun K9 hK9 => ?_)
    refine regS Hz (.assign rfl <| .nil) ?_
    clear Hz Az; intro Az Hz
    refine wp_block ?_
    have m60 := m56.dat 75 rfl (m56.rd (i := 70) rfl); clear m56
    have m61 := m60.dat 76 rfl (m60.rd (i := 71) rfl); clear m60
    have m62 := m61.dat 77 rfl (m61.rd (i := 72) rfl); clear m61
    refine wp_loop_ghost (fun g a w => ∃ (i B5 B7 : Nat) (P : List Int) (p1 p2 p3 p4 p5 p6 : Option Addr) (d1 d2 d3 d4 d5 d6 : Nat), i ≤ ps.length ∧ g = ps.length - i ∧ P.Perm (y.pins ++ (ps.map (pinT y.fl y.ws.length)).take i) ∧ P.length = y.pins.length + i ∧ VolR y.vo y.bl y.sz y.pe y.to y.ne y.fl y.hi y.place P y.ws ∧ Has 123 [(1, .slice pp ps.length cp), (5, .pointer (some ⟨B5, 0, none⟩)), (6, .int .i64 y.ws.length), (7, .pointer (some ⟨B7, 0, none⟩)), (8, .int .i64 (lowL y.ws.length P)), (9, .int .i64 i)] a ∧ MemOk (cn w0) w0 [(5, .box B5 34 [.int .i64 y.vo, .int .i64 y.bl, .int .i64 y.sz, .int .i64 y.pe, .slice p1 y.place.length d1, .int .i64 y.to, .int .i64 y.ne, .bool y.hi, .int .i64 y.fl, .slice p2 y.pins.length d2, .slice p3 (y.ws.map wrD).length d3]), (7, .box B7 34 [.int .i64 y.vo, .int .i64 y.bl, .int .i64 y.sz, .int .i64 y.pe, .slice p4 y.place.length d4, .int .i64 y.to, .int .i64 y.ne, .bool y.hi, .int .i64 y.fl, .slice p5 P.length d5, .slice p6 (y.ws.map wrD).length d6]), (10, .dat (.slice p1 y.place.length d1) (.ns .i64 y.place)), (11, .dat (.slice p2 y.pins.length d2) (.ns .i64 y.pins)), (12, .dat (.slice p3 (y.ws.map wrD).length d3) (.l 2 (y.ws.map wrD))), (13, .dat (.slice p4 y.place.length d4) (.ns .i64 y.place)), (14, .dat (.slice p5 P.length d5) (.ns .i64 P)), (15, .dat (.slice p6 (y.ws.map wrD).length d6) (.l 2 (y.ws.map wrD)))] w) (ps.length) ?_ ?_
    · exact ⟨0, _, _, y.pins, _, _, _, _, _, _, _, _, _, _, _, _, Nat.zero_le _, rfl, by simp, by omega, hV, Hz.only [1, 5, 6, 7, 8, 9], m62.ren [(5, 73), (7, 74), (10, 70), (11, 71), (12, 72), (13, 75), (14, 76), (15, 77)] (by decide)⟩
    ·
     clear Hz m62
     rintro g Az w63 ⟨i, B5, B7, P, p1, p2, p3, p4, p5, p6, d1, d2, d3, d4, d5, d6, hil, hg, hpe, hPl, hVP, Hz, m63⟩
     refine wp_seq_k (fun K10 hK10 => ?_)
     refine regS Hz (.move rfl <| .move rfl <| .len rfl Try.underlying43 <| .lss rfl rfl <| .nil) ?_
     clear Hz Az; intro Az Hz
     refine bool_cases Hz (t := 39) rfl ?_ ?_
     ·
      clear Hz; intro hb68 Hz
      try simp only [Q1x, Q2x, Q3x, Q4x, Q5x, Q6x, Q7x, Q8x, Q9x, Q0x, Qax, Qbx] at hb68
      have hi9 : i < ps.length := by have := hb68; first | omega | (simp at this; omega)
      obtain ⟨tq, htq⟩ : ∃ x, pinT y.fl y.ws.length (ps.getD i 0) = x := ⟨_, rfl⟩
      have htb : y.fl ≤ tq ∧ tq ≤ y.ws.length := htq ▸ pinT_bd (z := ps.getD i 0) v7
      have htq2 : y.fl + ps.getD i 0 % ((y.ws.length : Int) - y.fl + 1) = tq := htq
      have htm : (ps.map (pinT y.fl y.ws.length))[i]? = some tq := by rw [List.getElem?_map, List.getElem?_eq_getElem hi9]; simp [← htq, List.getD, List.getElem?_eq_getElem hi9]
      have hpb9 := hpb i hi9
      refine wp_cond_true (Hz.ev (x := .tmp 39) rfl) ?_
      refine wp_skip ?_
      refine hK10 _ _ ?_; clear hK10; try clear K10
      refine wp_seq_k (fun K11 hK11 => ?_)
      refine wp_block ?_
      refine wp_seq_k (fun K12 hK12 => ?_)
      obtain ⟨gx70, ox70, hp70, hl70, hrg70⟩ := h2.extN (i) hi9
      cases hp70; clear hl70
      have m71 : MemOk _ _ [(5, _), (7, _), (10, _), (11, _), (12, _), (13, _), (14, _), (15, _)] _ := m63.only [5, 7, 10, 11, 12, 13, 14, 15]; clear m63
      refine region_p 15 (B := [(5, _), (7, _), (10, _), (11, _), (12, _), (13, _), (14, _), (15, _)]) (m71.to ⟨il, il, il, il, il, il, il, il, trivial⟩) m71 (by kernel_rfl) (fun w72 hP72 m72 => ?_); clear m71
      refine goR hP72 [0, 1, 2, 3, 4, 5, 6, 7, 8, 9, 10, 11, 12, 13, 14] [1, 5, 9] 15 0 32767 Hz (m72.to ⟨il, il, il, il, il, il, il, il, trivial⟩) (.fieldAddr (off := 8) rfl Try.underlying34 rfl (s := 0) (by kernel_rfl) rfl <| .loadB1 hh (i := 5) rfl rfl rfl Try.underlying2 rfl <| .move rfl <| .move rfl <| .p (fun _ _ h => y_idx h rfl rfl Try.underlying43 sz5vpn (i) rfl hi9) <| .loadAt1 (fun _ h => (hrg70 h rfl)) (q := 0) rfl rfl rfl Try.underlying5 rfl <| .conv rfl Try.underlying5 Try.underlying2 (IntWalk.i64_in _ (by omega)) <| .move rfl <| .fieldAddr (off := 8) rfl Try.underlying34 rfl (s := 0) (by kernel_rfl) rfl <| .loadB1 hh (i := 5) rfl rfl rfl Try.underlying2 rfl <| .sub rfl rfl (IntWalk.i64_in _ (by omega)) <| .add rfl rfl (IntWalk.i64_in _ (by omega)) <| .rem rfl rfl (by omega) (r := ps.getD i 0 % ((y.ws.length : Int) - y.fl + 1)) (by rw [Int.tmod_eq_emod_of_nonneg (by omega)]) <| .add rfl rfl (r := tq) (by rw [htq2]; exact IntWalk.i64_in _ (by omega)) <| .assign rfl <| .nil) ?_
      clear Hz Az; intro Az Hz
      refine wpAnyE_done (by kernel_rfl) ?_ _
      refine hK12 _ _ ?_; clear hK12; try clear K12
      replace Hz : Has 123 [(1, _), (5, _), (6, _), (7, _), (8, _), (9, _), (10, _)] Az := Hz.only [1, 5, 6, 7, 8, 9, 10]
      refine wp_seq_k (fun K13 hK13 => ?_)
      refine wp_region_lit ?_
      refine goCh Hz (.loadBR m72 (i := 7) rfl rfl Try.underlying34 rfl sz34vpn (by simp) (by dsimp only [List.drop, List.take] <;> rfl) <| .move rfl <| .build rfl zc25vpn fl25vpn rfl (by dsimp only [setL, List.set] <;> rfl) <| .nil) ?_
      clear Hz Az; intro Az Hz
      refine wpList_plain rfl (fun K hK => ?_)
      refine e_call Hz Try.func16 rfl rfl rfl rfl (yDo4 _ y.vo y.bl y.sz y.pe y.to y.ne y.fl y.hi y.place P y.ws _ _ _ _ _ _ _ _ _ _ _ _ _ _ _ _ _ _ _ _ (by omega) (by omega) (by omega) hwo.1 (m72.into [(1, 13), (2, 14), (3, 15)] (by decide) rfl)) ?_
      rintro e w95 ⟨pins1, e1, rl1, rf1, rn1, p195, d195, p295, d295, p395, d395, rfl, hR1, hr1, hm95⟩
      have mx95 := m72.back hm95 [(13, 1), (14, 2), (15, 3), (100, 5), (101, 6), (102, 7)] (by decide); clear hm95 m72
      have m95 : MemOk _ _ [(13, _), (14, _), (15, _), (100, _), (101, _), (102, _), (5, _), (7, _), (10, _), (11, _), (12, _)] _ := mx95.only [13, 14, 15, 100, 101, 102, 5, 7, 10, 11, 12]; clear mx95
      refine ⟨_, rfl, ?_⟩; clear Hz Az; intro Az Hz
      refine hK _ _ ?_; clear hK K
      have m97 := m95.freezeSN 101 rfl (by simp [cx]); clear m95
      have m98 := m97.freezeS 102 rfl (by simp [cx]); clear m97
      obtain ⟨rfl, rfl⟩ : pins1 = sortP (P ++ [tq]) ∧ e1 = 0 := by rw [hh9, pinR_ok htb.1 htb.2] at hR1; simp only [Prod.mk.injEq] at hR1; exact ⟨hR1.1.symm, hR1.2.symm⟩
      have hV2 := (hVP.pin (fun h => by simp [hh9] at h) (show pinR y.hi y.fl tq y.ws.length P = (sortP (P ++ [tq]), 0) by rw [hh9]; exact pinR_ok htb.1 htb.2)).1
      have hpl9 : (sortP (P ++ [tq])).length = P.length + 1 := by simp [sortP]
      have hlow : lowL y.ws.length (sortP (P ++ [tq])) = min (lowL y.ws.length P) tq := low_pin htb.2
      refine goCh Hz (.move rfl <| .extract rfl rfl <| .extract rfl rfl <| .nil) ?_
      clear Hz Az; intro Az Hz
      refine wpList_plain rfl (fun K hK => ?_)
      refine e_alloc Hz m98 103 zc34vpn rfl ?_
      clear Hz Az m98; intro g102 Az w103 Hz m103 hB103 hg103
      clear hB103 hg103
      refine hK _ _ ?_; clear hK K
      refine wpList_plain rfl (fun K hK => ?_)
      refine e_alloc Hz m103 104 zc45vpn rfl ?_
      clear Hz Az m103; intro g104 Az w105 Hz m105 hB105 hg105
      clear hB105 hg105
      refine hK _ _ ?_; clear hK K
      refine wpList_plain rfl (fun K hK => ?_)
      refine e_storeW Hz m105 103 rfl rfl rfl rfl rfl sz34vpn ?_
      clear m105; intro w106 m106 hB106
      clear hB106
      refine hK _ _ ?_; clear hK K
      refine wpList_plain rfl (fun K hK => ?_)
      refine e_storeW Hz m106 104 rfl rfl rfl rfl rfl sz45vpn ?_
      clear m106; intro w107 m107 hB107
      clear hB107
      refine hK _ _ ?_; clear hK K
      refine wpList_nil ?_
      refine hK13 _ _ ?_; clear hK13; try clear K13
      refine wp_seq_k (fun K14 hK14 => ?_)
      replace Hz : Has 123 [(1, _), (5, _), (6, _), (7, _), (8, _), (9, _), (10, _), (11, _), (12, _)] Az := Hz.only [1, 5, 6, 7, 8, 9, 10, 11, 12]
      refine wp_seq_k (fun K15 hK15 => ?_)
      refine wp_region_lit ?_
      refine goCh Hz (.fieldAddr (off := 0) rfl Try.underlying45 rfl (s := 0) (by kernel_rfl) rfl <| .loadB1 m107 (i := 104) rfl rfl rfl Try.underlying35 rfl <| .neq rfl rfl <| .move rfl <| .nil) ?_
      clear Hz Az; intro Az Hz
      refine bool_cases Hz (t := 66) rfl ?_ ?_
      · intro hb _; exact absurd hb (by simp)
      clear Hz; intro _ Hz
      refine goCh Hz (.loadBRZ m107 (i := 103) rfl rfl Try.underlying34 rfl sz34vpn (by simp) (by dsimp only [List.drop, List.take] <;> rfl) .nil) ?_
      clear Hz Az; intro Az Hz
      refine st_ge Hz rfl rfl rfl rfl (fun K hK => ?_)
      refine e_call Hz Try.func19 rfl rfl rfl rfl (vright_nn y.vo y.bl y.sz y.pe y.to _ _ _ y.place (sortP (P ++ [tq])) y.ws _ _ _ _ _ _ _ _ ((m107.rd (i := 100) rfl).any) ((m107.rd (i := 101) rfl).any) ((m107.rd (i := 102) rfl).any) (by omega) (by omega) (by omega) (fun e he => by have := hwo.2 e he; omega)) ?_
      rintro e w119 ⟨rb, rfl, hrb, hb119⟩
      obtain rfl : rb = true := hrb.2 hV2
      have m120 := m107.later hb119
      clear m107
      clear hb119
      refine ⟨_, rfl, ?_⟩; clear Hz Az; intro Az Hz
      refine hK _ _ ?_; clear hK K
      refine goCh Hz (.notZ rfl <| .pickF rfl rfl <| .move rfl <| .fieldAddrZ (off := 9) rfl Try.underlying34 rfl (s := 0) (by kernel_rfl) rfl <| .loadB1Z m120 (i := 103) rfl rfl rfl Try.underlying31 rfl <| .lenZ rfl Try.underlying31 <| .fieldAddrZ (off := 9) rfl Try.underlying34 rfl (s := 0) (by kernel_rfl) rfl <| .loadB1Z m120 (i := 7) rfl rfl rfl Try.underlying31 rfl <| .lenZ rfl Try.underlying31 <| .addZ rfl rfl (IntWalk.i64_in _ (by omega)) <| .neqZ rfl rfl <| .pickF rfl rfl <| .nil) ?_
      clear Hz Az; intro Az Hz
      refine wpList_nil ?_
      refine hK15 _ _ ?_; clear hK15; try clear K15
      refine bool_cases Hz (t := 80) rfl ?_ ?_
      · intro hb _; exact absurd hb (by simp; omega)
      clear Hz; intro _ Hz
      refine wp_cond_false (Hz.ev (x := .tmp 80) rfl) ?_
      refine wp_skip ?_
      refine hK14 _ _ ?_; clear hK14; try clear K14
      replace Hz : Has 123 [(1, _), (5, _), (6, _), (7, _), (8, _), (9, _), (10, _), (11, _)] Az := Hz.only [1, 5, 6, 7, 8, 9, 10, 11]
      refine wp_seq_k (fun K16 hK16 => ?_)
      refine wp_region_lit ?_
      refine goCh Hz (.loadBR m120 (i := 103) rfl rfl Try.underlying34 rfl sz34vpn (by simp) (by dsimp only [List.drop, List.take] <;> rfl) <| .move rfl <| .move rfl <| .c rfl (fun _ h => y_min h rfl rfl rfl) <| .nil) ?_
      clear Hz Az; intro Az Hz
      refine wpList_plain rfl (fun K hK => ?_)
      refine e_storeW Hz m120 7 rfl rfl rfl rfl rfl sz34vpn ?_
      clear m120; intro w144 m144 hB144
      clear hB144
      refine hK _ _ ?_; clear hK K
      refine goCh Hz (.assign rfl .nil) ?_
      clear Hz Az; intro Az Hz
      refine wpList_nil ?_
      refine hK16 _ _ ?_; clear hK16; try clear K16
      replace Hz : Has 123 [(1, _), (5, _), (6, _), (7, _), (8, _), (9, _)] Az := Hz.only [1, 5, 6, 7, 8, 9]
      refine wp_seq_k (fun K17 hK17 => ?_)
      refine wp_region_lit ?_
      refine goCh Hz (.loadBR m144 (i := 7) rfl rfl Try.underlying34 rfl sz34vpn (by simp) (by dsimp only [List.drop, List.take] <;> rfl) .nil) ?_
      clear Hz Az; intro Az Hz
      refine wpList_plain rfl (fun K hK => ?_)
      refine e_call Hz Try.func22 rfl rfl rfl rfl (low_nn _ _ _ _ _ _ _ _ y.place (sortP (P ++ [tq])) y.ws _ _ _ _ _ _ _ _ ((m144.rd (i := 101) rfl).any) (by omega)) ?_
      rintro e w149 ⟨rfl, hb149⟩
      have m150 := m144.later hb149
      clear m144
      clear hb149
      refine ⟨_, rfl, ?_⟩; clear Hz Az; intro Az Hz
      refine hK _ _ ?_; clear hK K
      refine goCh Hz (.move rfl <| .neq rfl rfl <| .nil) ?_
      clear Hz Az; intro Az Hz
      refine wpList_nil ?_
      refine hK17 _ _ ?_; clear hK17; try clear K17
      refine bool_cases Hz (t := 88) rfl ?_ ?_
      · intro hb _; exact absurd hb (by simp [hlow])
      clear Hz; intro _ Hz
      refine wp_cond_false (Hz.ev (x := .tmp 88) rfl) ?_
      refine wp_skip ?_
      refine hK11 _ _ ?_; clear hK11; try clear K11
      refine wp_region_lit ?_
      refine goCh Hz (.move rfl <| .add rfl rfl (r := ((i + 1 : Nat) : Int)) (by rw [IntWalk.i64_in _ (by omega)]; omega) <| .assign rfl <| .nil) ?_
      clear Hz Az; intro Az Hz
      refine wpList_nil ?_
      show ∃ n', n' < _ ∧ _
      have hpl8 : (sortP (P ++ [tq])).length = y.pins.length + (i + 1) := by omega
      rw [show min (lowL y.ws.length P) tq = lowL y.ws.length (sortP (P ++ [tq])) from hlow.symm] at Hz
      exact ⟨ps.length - (i + 1), by omega, i + 1, _, _, _, _, _, _, _, _, _, _, _, _, _, _, _, by omega, rfl, pins_step hpe htm, hpl8, hV2, Hz.only [1, 5, 6, 7, 8, 9], m150.ren [(5, 5), (7, 7), (10, 10), (11, 11), (12, 12), (13, 100), (14, 101), (15, 102)] (by decide)⟩
     ·
      clear Hz; intro hb68 Hz
      try simp only [Q1x, Q2x, Q3x, Q4x, Q5x, Q6x, Q7x, Q8x, Q9x, Q0x, Qax, Qbx] at hb68
      have hi8e : i = ps.length := by have := hb68; first | omega | (simp at this; omega)
      have hi9e : i = (ps.map (pinT y.fl y.ws.length)).length := by rw [List.length_map]; exact hi8e
      refine wp_cond_false (Hz.ev (x := .tmp 39) rfl) ?_
      refine wp_exit ?_
      refine hK9 _ _ ?_; clear hK9; try clear K9
      refine wp_seq_k (fun K18 hK18 => ?_)
      refine regS Hz (.assign rfl <| .nil) ?_
      clear Hz Az; intro Az Hz
      refine wp_block ?_
      have hi9e : i = (ps.map (pinT y.fl y.ws.length)).length := by rw [List.length_map]; exact hi8e
      refine wp_loop_ghost (fun g a w => ∃ (i B5 B7 : Nat) (P : List Int) (p1 p2 p3 p4 p5 p6 : Option Addr) (d1 d2 d3 d4 d5 d6 : Nat), i ≤ ps.length ∧ g = ps.length - i ∧ P.Perm (y.pins ++ (ps.map (pinT y.fl y.ws.length)).drop i) ∧ P.length = y.pins.length + (ps.length - i) ∧ VolR y.vo y.bl y.sz y.pe y.to y.ne y.fl y.hi y.place P y.ws ∧ Has 123 [(1, .slice pp ps.length cp), (5, .pointer (some ⟨B5, 0, none⟩)), (6, .int .i64 y.ws.length), (7, .pointer (some ⟨B7, 0, none⟩)), (13, .int .i64 i)] a ∧ MemOk (cn w0) w0 [(5, .box B5 34 [.int .i64 y.vo, .int .i64 y.bl, .int .i64 y.sz, .int .i64 y.pe, .slice p1 y.place.length d1, .int .i64 y.to, .int .i64 y.ne, .bool y.hi, .int .i64 y.fl, .slice p2 y.pins.length d2, .slice p3 (y.ws.map wrD).length d3]), (7, .box B7 34 [.int .i64 y.vo, .int .i64 y.bl, .int .i64 y.sz, .int .i64 y.pe, .slice p4 y.place.length d4, .int .i64 y.to, .int .i64 y.ne, .bool y.hi, .int .i64 y.fl, .slice p5 P.length d5, .slice p6 (y.ws.map wrD).length d6]), (10, .dat (.slice p1 y.place.length d1) (.ns .i64 y.place)), (11, .dat (.slice p2 y.pins.length d2) (.ns .i64 y.pins)), (12, .dat (.slice p3 (y.ws.map wrD).length d3) (.l 2 (y.ws.map wrD))), (13, .dat (.slice p4 y.place.length d4) (.ns .i64 y.place)), (14, .dat (.slice p5 P.length d5) (.ns .i64 P)), (15, .dat (.slice p6 (y.ws.map wrD).length d6) (.l 2 (y.ws.map wrD)))] w) (ps.length) ?_ ?_
      · exact ⟨0, _, _, P, _, _, _, _, _, _, _, _, _, _, _, _, Nat.zero_le _, rfl, by rw [List.drop_zero]; rw [hi9e, List.take_length] at hpe; exact hpe, by omega, hVP, Hz.only [1, 5, 6, 7, 13], m63.ren [(5, 5), (7, 7), (10, 10), (11, 11), (12, 12), (13, 13), (14, 14), (15, 15)] (by decide)⟩
      ·
       clear Hz m63
       rintro g Az w159 ⟨i, B5, B7, P, p1, p2, p3, p4, p5, p6, d1, d2, d3, d4, d5, d6, hil, hg, hpe, hPl, hVP, Hz, m159⟩
       refine wp_seq_k (fun K19 hK19 => ?_)
       refine regS Hz (.move rfl <| .move rfl <| .len rfl Try.underlying43 <| .lss rfl rfl <| .nil) ?_
       clear Hz Az; intro Az Hz
       refine bool_cases Hz (t := 92) rfl ?_ ?_
       ·
        clear Hz; intro hb164 Hz
        try simp only [Q1x, Q2x, Q3x, Q4x, Q5x, Q6x, Q7x, Q8x, Q9x, Q0x, Qax, Qbx] at hb164
        have hi9 : i < ps.length := by have := hb164; first | omega | (simp at this; omega)
        obtain ⟨tq, htq⟩ : ∃ x, pinT y.fl y.ws.length (ps.getD i 0) = x := ⟨_, rfl⟩
        have htb : y.fl ≤ tq ∧ tq ≤ y.ws.length := htq ▸ pinT_bd (z := ps.getD i 0) v7
        have htq2 : y.fl + ps.getD i 0 % ((y.ws.length : Int) - y.fl + 1) = tq := htq
        have htm : (ps.map (pinT y.fl y.ws.length))[i]? = some tq := by rw [List.getElem?_map, List.getElem?_eq_getElem hi9]; simp [← htq, List.getD, List.getElem?_eq_getElem hi9]
        have hpb9 := hpb i hi9
        refine wp_cond_true (Hz.ev (x := .tmp 92) rfl) ?_
        refine wp_skip ?_
        refine hK19 _ _ ?_; clear hK19; try clear K19
        refine wp_seq_k (fun K20 hK20 => ?_)
        refine wp_block ?_
        refine wp_seq_k (fun K21 hK21 => ?_)
        obtain ⟨gx166, ox166, hp166, hl166, hrg166⟩ := h2.extN (i) hi9
        cases hp166; clear hl166
        have m167 : MemOk _ _ [(5, _), (7, _), (10, _), (11, _), (12, _), (13, _), (14, _), (15, _)] _ := m159.only [5, 7, 10, 11, 12, 13, 14, 15]; clear m159
        refine region_p 15 (B := [(5, _), (7, _), (10, _), (11, _), (12, _), (13, _), (14, _), (15, _)]) (m167.to ⟨il, il, il, il, il, il, il, il, trivial⟩) m167 (by kernel_rfl) (fun w168 hP168 m168 => ?_); clear m167
        refine goR hP168 [0, 1, 2, 3, 4, 5, 6, 7, 8, 9, 10, 11, 12, 13, 14] [1, 5, 9] 15 0 32767 Hz (m168.to ⟨il, il, il, il, il, il, il, il, trivial⟩) (.fieldAddr (off := 8) rfl Try.underlying34 rfl (s := 0) (by kernel_rfl) rfl <| .loadB1 hh (i := 5) rfl rfl rfl Try.underlying2 rfl <| .move rfl <| .move rfl <| .p (fun _ _ h => y_idx h rfl rfl Try.underlying43 sz5vpn (i) rfl hi9) <| .loadAt1 (fun _ h => (hrg166 h rfl)) (q := 0) rfl rfl rfl Try.underlying5 rfl <| .conv rfl Try.underlying5 Try.underlying2 (IntWalk.i64_in _ (by omega)) <| .move rfl <| .fieldAddr (off := 8) rfl Try.underlying34 rfl (s := 0) (by kernel_rfl) rfl <| .loadB1 hh (i := 5) rfl rfl rfl Try.underlying2 rfl <| .sub rfl rfl (IntWalk.i64_in _ (by omega)) <| .add rfl rfl (IntWalk.i64_in _ (by omega)) <| .rem rfl rfl (by omega) (r := ps.getD i 0 % ((y.ws.length : Int) - y.fl + 1)) (by rw [Int.tmod_eq_emod_of_nonneg (by omega)]) <| .add rfl rfl (r := tq) (by rw [htq2]; exact IntWalk.i64_in _ (by omega)) <| .assign rfl <| .nil) ?_
        clear Hz Az; intro Az Hz
        refine wpAnyE_done (by kernel_rfl) ?_ _
        refine hK21 _ _ ?_; clear hK21; try clear K21
        replace Hz : Has 123 [(1, _), (5, _), (6, _), (7, _), (13, _), (14, _)] Az := Hz.only [1, 5, 6, 7, 13, 14]
        refine wp_seq_k (fun K22 hK22 => ?_)
        refine wp_region_lit ?_
        refine goCh Hz (.loadBR m168 (i := 7) rfl rfl Try.underlying34 rfl sz34vpn (by simp) (by dsimp only [List.drop, List.take] <;> rfl) <| .move rfl <| .build rfl zc25vpn fl25vpn rfl (by dsimp only [setL, List.set] <;> rfl) <| .nil) ?_
        clear Hz Az; intro Az Hz
        refine wpList_plain rfl (fun K hK => ?_)
        refine e_call Hz Try.func16 rfl rfl rfl rfl (yDo5 _ y.vo y.bl y.sz y.pe y.to y.ne y.fl y.hi y.place P y.ws _ _ _ _ _ _ _ _ _ _ _ _ _ _ _ _ _ _ _ _ (by omega) (by omega) (by omega) hwo.1 (m168.into [(1, 13), (2, 14), (3, 15)] (by decide) rfl)) ?_
        rintro e w191 ⟨pins1, e1, rl1, rf1, rn1, p1191, d1191, p2191, d2191, p3191, d3191, rfl, hR1, hr1, hm191⟩
        have mx191 := m168.back hm191 [(13, 1), (14, 2), (15, 3), (200, 5), (201, 6), (202, 7)] (by decide); clear hm191 m168
        have m191 : MemOk _ _ [(13, _), (14, _), (15, _), (200, _), (201, _), (202, _), (5, _), (7, _), (10, _), (11, _), (12, _)] _ := mx191.only [13, 14, 15, 200, 201, 202, 5, 7, 10, 11, 12]; clear mx191
        refine ⟨_, rfl, ?_⟩; clear Hz Az; intro Az Hz
        refine hK _ _ ?_; clear hK K
        have m193 := m191.freezeSN 201 rfl (by simp [cx]); clear m191
        have m194 := m193.freezeS 202 rfl (by simp [cx]); clear m193
        obtain ⟨P2, hP2, hP3⟩ := unpin_ok (pins_in hpe htm)
        obtain ⟨rfl, rfl⟩ : pins1 = P2 ∧ e1 = 0 := by rw [hh9, hP2] at hR1; simp only [Prod.mk.injEq] at hR1; exact ⟨hR1.1.symm, hR1.2.symm⟩
        have hV2 := (hVP.unpin (fun h => by simp [hh9] at h) (show unpinR y.hi tq P = (pins1, 0) by rw [hh9]; exact hP2)).1
        have hpl9 : pins1.length + 1 = P.length := by have := hP3.length_eq; simpa using this
        refine goCh Hz (.move rfl <| .extract rfl rfl <| .extract rfl rfl <| .nil) ?_
        clear Hz Az; intro Az Hz
        refine wpList_plain rfl (fun K hK => ?_)
        refine e_alloc Hz m194 203 zc34vpn rfl ?_
        clear Hz Az m194; intro g198 Az w199 Hz m199 hB199 hg199
        clear hB199 hg199
        refine hK _ _ ?_; clear hK K
        refine wpList_plain rfl (fun K hK => ?_)
        refine e_alloc Hz m199 204 zc45vpn rfl ?_
        clear Hz Az m199; intro g200 Az w201 Hz m201 hB201 hg201
        clear hB201 hg201
        refine hK _ _ ?_; clear hK K
        refine wpList_plain rfl (fun K hK => ?_)
        refine e_storeW Hz m201 203 rfl rfl rfl rfl rfl sz34vpn ?_
        clear m201; intro w202 m202 hB202
        clear hB202
        refine hK _ _ ?_; clear hK K
        refine wpList_plain rfl (fun K hK => ?_)
        refine e_storeW Hz m202 204 rfl rfl rfl rfl rfl sz45vpn ?_
        clear m202; intro w203 m203 hB203
        clear hB203
        refine hK _ _ ?_; clear hK K
        refine wpList_nil ?_
        refine hK22 _ _ ?_; clear hK22; try clear K22
        refine wp_seq_k (fun K23 hK23 => ?_)
        replace Hz : Has 123 [(1, _), (5, _), (6, _), (7, _), (13, _), (15, _), (16, _)] Az := Hz.only [1, 5, 6, 7, 13, 15, 16]
        refine regS Hz (.fieldAddr (off := 0) rfl Try.underlying45 rfl (s := 0) (by kernel_rfl) rfl <| .loadB1 m203 (i := 204) rfl rfl rfl Try.underlying35 rfl <| .neq rfl rfl <| .nil) ?_
        clear Hz Az; intro Az Hz
        refine bool_cases Hz (t := 118) rfl ?_ ?_
        · intro hb _; exact absurd hb (by simp)
        clear Hz; intro _ Hz
        refine wp_cond_false (Hz.ev (x := .tmp 118) rfl) ?_
        refine wp_skip ?_
        refine hK23 _ _ ?_; clear hK23; try clear K23
        refine wp_region_lit ?_
        refine goCh Hz (.loadBR m203 (i := 203) rfl rfl Try.underlying34 rfl sz34vpn (by simp) (by dsimp only [List.drop, List.take] <;> rfl) .nil) ?_
        clear Hz Az; intro Az Hz
        refine wpList_plain rfl (fun K hK => ?_)
        refine e_storeW Hz m203 7 rfl rfl rfl rfl rfl sz34vpn ?_
        clear m203; intro w210 m210 hB210
        clear hB210
        refine hK _ _ ?_; clear hK K
        refine wpList_nil ?_
        refine hK20 _ _ ?_; clear hK20; try clear K20
        replace Hz : Has 123 [(1, _), (5, _), (6, _), (7, _), (13, _)] Az := Hz.only [1, 5, 6, 7, 13]
        refine wp_region_lit ?_
        refine goCh Hz (.move rfl <| .add rfl rfl (r := ((i + 1 : Nat) : Int)) (by rw [IntWalk.i64_in _ (by omega)]; omega) <| .assign rfl <| .nil) ?_
        clear Hz Az; intro Az Hz
        refine wpList_nil ?_
        show ∃ n', n' < _ ∧ _
        exact ⟨ps.length - (i + 1), by omega, i + 1, _, _, _, _, _, _, _, _, _, _, _, _, _, _, _, by omega, rfl, pins_back hpe htm hP3, by omega, hV2, Hz.only [1, 5, 6, 7, 13], m210.ren [(5, 5), (7, 7), (10, 10), (11, 11), (12, 12), (13, 200), (14, 201), (15, 202)] (by decide)⟩
       ·
        clear Hz; intro hb164 Hz
        try simp only [Q1x, Q2x, Q3x, Q4x, Q5x, Q6x, Q7x, Q8x, Q9x, Q0x, Qax, Qbx] at hb164
        have hi8e : i = ps.length := by have := hb164; first | omega | (simp at this; omega)
        have hi9e : i = (ps.map (pinT y.fl y.ws.length)).length := by rw [List.length_map]; exact hi8e
        refine wp_cond_false (Hz.ev (x := .tmp 92) rfl) ?_
        refine wp_exit ?_
        refine hK18 _ _ ?_; clear hK18; try clear K18
        refine wp_seq_k (fun K24 hK24 => ?_)
        refine wp_region_lit ?_
        refine goCh Hz (.loadBR m159 (i := 7) rfl rfl Try.underlying34 rfl sz34vpn (by simp) (by dsimp only [List.drop, List.take] <;> rfl) <| .loadBR m159 (i := 5) rfl rfl Try.underlying34 rfl sz34vpn (by simp) (by dsimp only [List.drop, List.take] <;> rfl) <| .nil) ?_
        clear Hz Az; intro Az Hz
        obtain rfl : P = y.pins := pins_eq (by rw [hi9e, List.drop_length, List.append_nil] at hpe; exact hpe) hVP.sorted hV.sorted
        refine wpList_plain rfl (fun K hK => ?_)
        refine e_call Hz Try.func13 rfl rfl rfl rfl (rsame_any y.vo y.bl y.sz y.pe y.to _ _ _ y.place y.pins y.ws _ _ _ _ _ _ _ _ _ _ _ _ _ _ _ (by omega) (by omega) (by omega) (fun e he => by have := hwo.2 e he; omega) ((m159.rd (i := 13) rfl).any) ((m159.rd (i := 14) rfl).any) ((m159.rd (i := 15) rfl).any) ((m159.rd (i := 10) rfl).any) ((m159.rd (i := 11) rfl).any) ((m159.rd (i := 12) rfl).any)) ?_
        rintro e w219 ⟨rfl, hb219⟩
        have m220 := m159.later hb219
        clear m159
        clear hb219
        refine ⟨_, rfl, ?_⟩; clear Hz Az; intro Az Hz
        refine hK _ _ ?_; clear hK K
        refine goCh Hz (.assign rfl .nil) ?_
        clear Hz Az; intro Az Hz
        refine wpList_nil ?_
        refine hK24 _ _ ?_; clear hK24; try clear K24
        refine wp_ret ?_
        try dsimp only [Exit.then, Exit.inBlock]
        refine (ret1 (fn := Try.f5) Hz rfl rfl ?_)
        exact ⟨by first | rfl | simp, m220.below⟩
end Go.Proofs.Ytocfbocdnklllaa.K
