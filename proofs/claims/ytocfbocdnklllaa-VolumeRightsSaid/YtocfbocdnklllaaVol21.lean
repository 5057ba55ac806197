/- volume: the reference's Right. -/
import Derived.Test.YtocfbocdnklllaaVol18
namespace Go.Proofs.Ytocfbocdnklllaa.K
open Go.ChangeShapes Go.WideShapes Go.ChangeAt Go.RowKit
set_option linter.unusedVariables false
set_option linter.unusedSimpArgs false

theorem fl25rR : flatS Try.prog 25 [.int .i64 0, .int .i64 0, .int .i64 0, .int .i64 0, .int .i64 0, .slice none 0 0, .int .i64 0, .int .i64 0, .int .i64 0, .slice none 0 0] = true := by kernel_rfl
theorem sz2rR : (Try.prog.info? 2).map (·.size) = some 1 := by kernel_rfl
theorem sz34rR : (Try.prog.info? 34).map (·.size) = some 11 := by kernel_rfl
theorem sz55rR : (Try.prog.info? 55).map (·.size) = some 2 := by kernel_rfl
theorem zc25rR : ((Try.prog.info? 25).bind (·.zero)).map (·.cells.toList) = some [.int .i64 0, .int .i64 0, .int .i64 0, .int .i64 0, .int .i64 0, .slice none 0 0, .int .i64 0, .int .i64 0, .int .i64 0, .slice none 0 0] := by kernel_rfl

theorem lastP_pos {fl : Int} {pins : List Int} {k : Nat} (h : 0 < k) : lastP fl pins k = pins.getD (k - 1) 0 := by
 cases k with
 | zero => omega
 | succ k => rfl
theorem lastP_le {fl x : Int} {pins : List Int} {k : Nat} (h0 : k = 0 → fl ≤ x) (h1 : 0 < k → pins.getD (k - 1) 0 ≤ x) : lastP fl pins k ≤ x := by
 cases k with
 | zero => exact h0 rfl
 | succ k => exact h1 (by omega)
set_option maxRecDepth 100000
set_option maxHeartbeats 4000000
theorem rright_any (vo bl sz pe to ne fl : Int) (hi : Bool) (place pins : List Int) (ws : List (Int × List (Int × List Int))) (pp pn pw : Option Addr) (cp cn9 cw : Nat) (w0 : World) (h0 : Rd (fun _ => True) w0 (.slice pp place.length cp) (.ns .i64 place)) (h1 : Rd (fun _ => True) w0 (.slice pn pins.length cn9) (.ns .i64 pins)) (h2 : Rd (fun _ => True) w0 (.slice pw ws.length cw) (.l 2 (ws.map wrD))) (hn : place.length ≤ 1000000) (hp : pins.length ≤ 1000000) (hl : ws.length ≤ 1000000) (hwl : ∀ e ∈ ws, e.2.length ≤ 1000000) :
   Calls Try.prog 27 #[.agg #[.int .i64 vo, .int .i64 bl, .int .i64 sz, .int .i64 pe, .slice pp place.length cp, .int .i64 to, .int .i64 ne, .bool hi, .int .i64 fl, .slice pn pins.length cn9, .slice pw ws.length cw]] w0 fun e w' => ∃ b : Bool, e = .returned (.bool b) ∧ (b = true ↔ VolR vo bl sz pe to ne fl hi place pins ws) ∧ Below w0.heap.size w0 w' := by
 refine enter (fn := Try.f27) Try.func27 rfl Try.ntmps27 rfl (fun Az Hz => ?_)
 simp only [List.zipIdx_cons, List.zipIdx_nil, List.map_cons, List.map_nil, Nat.reduceAdd, Nat.zero_add] at Hz
 have m0 := MemOk.start (fun _ => False) w0
 refine wp_seq_k (fun K0 hK0 => ?_)
 refine wp_region_lit ?_
 refine wpList_plain rfl (fun K hK => ?_)
 refine e_box Hz m0 20 (cs := [_, _, _, _, _, _, _, _, _, _, _]) rfl rfl rfl ?_
 clear Hz Az m0; intro g1 Az w2 Hz m2 hB2 hg2
 clear hB2 hg2
 refine hK _ _ ?_; clear hK K
 refine goCh Hz (.assign rfl .nil) ?_
 clear Hz Az; intro Az Hz
 refine wpList_nil ?_
 refine hK0 _ _ ?_; clear hK0; try clear K0
 refine wp_seq_k (fun K1 hK1 => ?_)
 refine wp_seq_k (fun K2 hK2 => ?_)
 have m4 : MemOk _ _ [(20, _)] _ := m2.only [20]; clear m2
 refine region_p 60 (B := [(20, _)]) (m4.to ⟨il, trivial⟩) m4 (by kernel_rfl) (fun w5 hP5 m5 => ?_); clear m4
 refine goR hP5 [0, 1, 2, 3, 4, 5, 6, 7, 8, 9, 10, 11, 12] [1, 3, 5, 7, 9, 11] 13 0 8191 Hz (m5.to ⟨il, trivial⟩) (.fieldAddr (off := 0) rfl Try.underlying34 rfl (s := 0) (by kernel_rfl) rfl <| .loadB1 hh (i := 20) rfl rfl rfl Try.underlying3 rfl <| .fieldAddr (off := 1) rfl Try.underlying34 rfl (s := 0) (by kernel_rfl) rfl <| .loadB1 hh (i := 20) rfl rfl rfl Try.underlying3 rfl <| .fieldAddr (off := 2) rfl Try.underlying34 rfl (s := 0) (by kernel_rfl) rfl <| .loadB1 hh (i := 20) rfl rfl rfl Try.underlying3 rfl <| .fieldAddr (off := 3) rfl Try.underlying34 rfl (s := 0) (by kernel_rfl) rfl <| .loadB1 hh (i := 20) rfl rfl rfl Try.underlying3 rfl <| .fieldAddr (off := 4) rfl Try.underlying34 rfl (s := 0) (by kernel_rfl) rfl <| .loadB1 hh (i := 20) rfl rfl rfl Try.underlying22 rfl <| .fieldAddr (off := 5) rfl Try.underlying34 rfl (s := 0) (by kernel_rfl) rfl <| .loadB1 hh (i := 20) rfl rfl rfl Try.underlying3 rfl <| .build rfl zc25rR fl25rR rfl (by dsimp only [setL, List.set] <;> rfl) <| .nil) ?_
 clear Hz Az; intro Az Hz
 refine stepE_only 13 rfl (by kernel_rfl) rfl (fun K hK => ?_)
 refine e_call Hz Try.func38 rfl rfl rfl rfl (rshape_any _ _ _ _ _ _ _ _ place _ _ _ _ _ _ ((h0.now' m5 rfl).any) hn) ?_
 rintro e w19 ⟨sb, rfl, hsb, hb19⟩
 have m20 := m5.later hb19
 clear m5
 clear hb19
 refine ⟨_, rfl, ?_⟩; clear Hz Az; intro Az Hz
 refine hK _ _ (m20.to ⟨il, trivial⟩) ?_; clear hK K
 refine goA hP5 [14, 15] 2 16383 65535 Hz (m20.to ⟨il, trivial⟩) (.not rfl <| .move rfl <| .nil) ?_
 clear Hz Az; intro Az Hz
 refine bool_cases Hz (t := 20) rfl ?_ ?_
 ·
  clear Hz; intro hb24 Hz
  try simp only [Q1x, Q2x, Q3x, Q4x, Q5x, Q6x, Q7x, Q8x, Q9x, Q0x, Qax, Qbx] at hb24
  refine goA hP5 [16, 17, 18, 19, 20, 21, 22, 23, 24, 25, 26, 27, 28, 29, 30, 31, 32, 33, 34, 35, 36, 37, 38, 39, 40, 41, 42, 43, 44, 45, 46, 47, 48, 49, 50, 51, 52, 53, 54, 55, 56, 57, 58, 59] 44 65535 1152921504606846975 Hz (m20.to ⟨il, trivial⟩) (.s <| .s <| .s <| .pickT rfl rfl <| .move rfl <| .s <| .s <| .s <| .s <| .s <| .pickT rfl rfl <| .move rfl <| .s <| .s <| .s <| .u <| .u <| .u <| .s <| .pickT rfl rfl <| .move rfl <| .s <| .s <| .s <| .s <| .u <| .u <| .u <| .u <| .u <| .s <| .pickT rfl rfl <| .move rfl <| .s <| .s <| .s <| .pickT rfl rfl <| .move rfl <| .s <| .s <| .s <| .s <| .s <| .pickT rfl rfl <| .nil) ?_
  clear Hz Az; intro Az Hz
  refine wpAnyE_done (by kernel_rfl) ?_ _
  refine hK2 _ _ ?_; clear hK2; try clear K2
  refine wp_cond_true (Hz.ev (x := .tmp 64) rfl) ?_
  replace Hz : Has 138 [(1, _), (2, _)] Az := Hz.only [1, 2]
  refine regS Hz (.assign rfl <| .nil) ?_
  clear Hz Az; intro Az Hz
  refine wp_ret ?_
  try dsimp only [Exit.then, Exit.inBlock]
  refine (ret1 (fn := Try.f27) Hz rfl rfl ?_)
  exact ⟨false, rfl, iff_of_false (by simp) (fun h => by obtain ⟨v1, v2, v3, v4, v5, v6, v7, v8, v9⟩ := h; have v10 := hsb.2 v1; first | omega | (simp_all; done) | (simp_all; omega)), m20.below⟩
 ·
  clear Hz; intro hb24 Hz
  try simp only [Q1x, Q2x, Q3x, Q4x, Q5x, Q6x, Q7x, Q8x, Q9x, Q0x, Qax, Qbx] at hb24
  refine goR hP5 [16, 17, 18, 19, 20] [17] 5 65535 2097151 Hz (m20.to ⟨il, trivial⟩) (.fieldAddr (off := 6) rfl Try.underlying34 rfl (s := 0) (by kernel_rfl) rfl <| .loadB1 hh (i := 20) rfl rfl rfl Try.underlying3 rfl <| .lss rfl rfl <| .pickF rfl rfl <| .move rfl <| .nil) ?_
  clear Hz Az; intro Az Hz
  refine bool_cases Hz (t := 25) rfl ?_ ?_
  ·
   clear Hz; intro hb76 Hz
   try simp only [Q1x, Q2x, Q3x, Q4x, Q5x, Q6x, Q7x, Q8x, Q9x, Q0x, Qax, Qbx] at hb76
   refine goA hP5 [21, 22, 23, 24, 25, 26, 27, 28, 29, 30, 31, 32, 33, 34, 35, 36, 37, 38, 39, 40, 41, 42, 43, 44, 45, 46, 47, 48, 49, 50, 51, 52, 53, 54, 55, 56, 57, 58, 59] 39 2097151 1152921504606846975 Hz (m20.to ⟨il, trivial⟩) (.s <| .s <| .s <| .s <| .s <| .pickT rfl rfl <| .move rfl <| .s <| .s <| .s <| .u <| .u <| .u <| .s <| .pickT rfl rfl <| .move rfl <| .s <| .s <| .s <| .s <| .u <| .u <| .u <| .u <| .u <| .s <| .pickT rfl rfl <| .move rfl <| .s <| .s <| .s <| .pickT rfl rfl <| .move rfl <| .s <| .s <| .s <| .s <| .s <| .pickT rfl rfl <| .nil) ?_
   clear Hz Az; intro Az Hz
   refine wpAnyE_done (by kernel_rfl) ?_ _
   refine hK2 _ _ ?_; clear hK2; try clear K2
   refine wp_cond_true (Hz.ev (x := .tmp 64) rfl) ?_
   replace Hz : Has 138 [(1, _), (2, _)] Az := Hz.only [1, 2]
   refine regS Hz (.assign rfl <| .nil) ?_
   clear Hz Az; intro Az Hz
   refine wp_ret ?_
   try dsimp only [Exit.then, Exit.inBlock]
   refine (ret1 (fn := Try.f27) Hz rfl rfl ?_)
   exact ⟨false, rfl, iff_of_false (by simp) (fun h => by obtain ⟨v1, v2, v3, v4, v5, v6, v7, v8, v9⟩ := h; have v10 := hsb.2 v1; first | omega | (simp_all; done) | (simp_all; omega)), m20.below⟩
  ·
   clear Hz; intro hb76 Hz
   try simp only [Q1x, Q2x, Q3x, Q4x, Q5x, Q6x, Q7x, Q8x, Q9x, Q0x, Qax, Qbx] at hb76
   refine goR hP5 [21, 22, 23, 24, 25, 26, 27] [22, 24] 7 2097151 268435455 Hz (m20.to ⟨il, trivial⟩) (.fieldAddr (off := 6) rfl Try.underlying34 rfl (s := 0) (by kernel_rfl) rfl <| .loadB1 hh (i := 20) rfl rfl rfl Try.underlying3 rfl <| .fieldAddr (off := 5) rfl Try.underlying34 rfl (s := 0) (by kernel_rfl) rfl <| .loadB1 hh (i := 20) rfl rfl rfl Try.underlying3 rfl <| .gtr rfl rfl <| .pickF rfl rfl <| .move rfl <| .nil) ?_
   clear Hz Az; intro Az Hz
   refine bool_cases Hz (t := 32) rfl ?_ ?_
   ·
    clear Hz; intro hb125 Hz
    try simp only [Q1x, Q2x, Q3x, Q4x, Q5x, Q6x, Q7x, Q8x, Q9x, Q0x, Qax, Qbx] at hb125
    refine goA hP5 [28, 29, 30, 31, 32, 33, 34, 35, 36, 37, 38, 39, 40, 41, 42, 43, 44, 45, 46, 47, 48, 49, 50, 51, 52, 53, 54, 55, 56, 57, 58, 59] 32 268435455 1152921504606846975 Hz (m20.to ⟨il, trivial⟩) (.s <| .s <| .s <| .u <| .u <| .u <| .s <| .pickT rfl rfl <| .move rfl <| .s <| .s <| .s <| .s <| .u <| .u <| .u <| .u <| .u <| .s <| .pickT rfl rfl <| .move rfl <| .s <| .s <| .s <| .pickT rfl rfl <| .move rfl <| .s <| .s <| .s <| .s <| .s <| .pickT rfl rfl <| .nil) ?_
    clear Hz Az; intro Az Hz
    refine wpAnyE_done (by kernel_rfl) ?_ _
    refine hK2 _ _ ?_; clear hK2; try clear K2
    refine wp_cond_true (Hz.ev (x := .tmp 64) rfl) ?_
    replace Hz : Has 138 [(1, _), (2, _)] Az := Hz.only [1, 2]
    refine regS Hz (.assign rfl <| .nil) ?_
    clear Hz Az; intro Az Hz
    refine wp_ret ?_
    try dsimp only [Exit.then, Exit.inBlock]
    refine (ret1 (fn := Try.f27) Hz rfl rfl ?_)
    exact ⟨false, rfl, iff_of_false (by simp) (fun h => by obtain ⟨v1, v2, v3, v4, v5, v6, v7, v8, v9⟩ := h; have v10 := hsb.2 v1; first | omega | (simp_all; done) | (simp_all; omega)), m20.below⟩
   ·
    clear Hz; intro hb125 Hz
    try simp only [Q1x, Q2x, Q3x, Q4x, Q5x, Q6x, Q7x, Q8x, Q9x, Q0x, Qax, Qbx] at hb125
    refine goR hP5 [28, 29, 30] [29] 3 268435455 2147483647 Hz (m20.to ⟨il, trivial⟩) (.fieldAddr (off := 7) rfl Try.underlying34 rfl (s := 0) (by kernel_rfl) rfl <| .loadB1 hh (i := 20) rfl rfl rfl Try.underlying4 rfl <| .move rfl <| .nil) ?_
    clear Hz Az; intro Az Hz
    refine bool_cases Hz (t := 35) rfl ?_ ?_
    ·
     clear Hz; intro hb163 Hz
     try simp only [Q1x, Q2x, Q3x, Q4x, Q5x, Q6x, Q7x, Q8x, Q9x, Q0x, Qax, Qbx] at hb163
     refine goR hP5 [31, 32, 33, 34, 35, 36] [32] 6 2147483647 137438953471 Hz (m20.to ⟨il, trivial⟩) (.fieldAddr (off := 5) rfl Try.underlying34 rfl (s := 0) (by kernel_rfl) rfl <| .loadB1 hh (i := 20) rfl rfl rfl Try.underlying3 rfl <| .eql rfl rfl <| .pickT rfl rfl <| .pickF rfl rfl <| .move rfl <| .nil) ?_
     clear Hz Az; intro Az Hz
     refine bool_cases Hz (t := 41) rfl ?_ ?_
     ·
      clear Hz; intro hb170 Hz
      try simp only [Q1x, Q2x, Q3x, Q4x, Q5x, Q6x, Q7x, Q8x, Q9x, Q0x, Qax, Qbx] at hb170
      refine goA hP5 [37, 38, 39, 40, 41, 42, 43, 44, 45, 46, 47, 48, 49, 50, 51, 52, 53, 54, 55, 56, 57, 58, 59] 23 137438953471 1152921504606846975 Hz (m20.to ⟨il, trivial⟩) (.s <| .s <| .s <| .s <| .u <| .u <| .u <| .u <| .u <| .s <| .pickT rfl rfl <| .move rfl <| .s <| .s <| .s <| .pickT rfl rfl <| .move rfl <| .s <| .s <| .s <| .s <| .s <| .pickT rfl rfl <| .nil) ?_
      clear Hz Az; intro Az Hz
      refine wpAnyE_done (by kernel_rfl) ?_ _
      refine hK2 _ _ ?_; clear hK2; try clear K2
      refine wp_cond_true (Hz.ev (x := .tmp 64) rfl) ?_
      replace Hz : Has 138 [(1, _), (2, _)] Az := Hz.only [1, 2]
      refine regS Hz (.assign rfl <| .nil) ?_
      clear Hz Az; intro Az Hz
      refine wp_ret ?_
      try dsimp only [Exit.then, Exit.inBlock]
      refine (ret1 (fn := Try.f27) Hz rfl rfl ?_)
      exact ⟨false, rfl, iff_of_false (by simp) (fun h => by obtain ⟨v1, v2, v3, v4, v5, v6, v7, v8, v9⟩ := h; have v10 := hsb.2 v1; first | omega | (simp_all; done) | (simp_all; omega)), m20.below⟩
     ·
      clear Hz; intro hb170 Hz
      try simp only [Q1x, Q2x, Q3x, Q4x, Q5x, Q6x, Q7x, Q8x, Q9x, Q0x, Qax, Qbx] at hb170
      refine goR hP5 [37, 38, 39, 40] [38] 4 137438953471 2199023255551 Hz (m20.to ⟨il, trivial⟩) (.fieldAddr (off := 7) rfl Try.underlying34 rfl (s := 0) (by kernel_rfl) rfl <| .loadB1 hh (i := 20) rfl rfl rfl Try.underlying4 rfl <| .not rfl <| .move rfl <| .nil) ?_
      clear Hz Az; intro Az Hz
      refine bool_cases Hz (t := 45) rfl ?_ ?_
      ·
       clear Hz; intro hb200 Hz
       try simp only [Q1x, Q2x, Q3x, Q4x, Q5x, Q6x, Q7x, Q8x, Q9x, Q0x, Qax, Qbx] at hb200
       refine goR hP5 [41, 42, 43, 44, 45, 46, 47, 48] [42, 44] 8 2199023255551 562949953421311 Hz (m20.to ⟨il, trivial⟩) (.fieldAddr (off := 6) rfl Try.underlying34 rfl (s := 0) (by kernel_rfl) rfl <| .loadB1 hh (i := 20) rfl rfl rfl Try.underlying3 rfl <| .fieldAddr (off := 5) rfl Try.underlying34 rfl (s := 0) (by kernel_rfl) rfl <| .loadB1 hh (i := 20) rfl rfl rfl Try.underlying3 rfl <| .neq rfl rfl <| .pickT rfl rfl <| .pickF rfl rfl <| .move rfl <| .nil) ?_
       clear Hz Az; intro Az Hz
       refine bool_cases Hz (t := 53) rfl ?_ ?_
       ·
        clear Hz; intro hb209 Hz
        try simp only [Q1x, Q2x, Q3x, Q4x, Q5x, Q6x, Q7x, Q8x, Q9x, Q0x, Qax, Qbx] at hb209
        refine goA hP5 [49, 50, 51, 52, 53, 54, 55, 56, 57, 58, 59] 11 562949953421311 1152921504606846975 Hz (m20.to ⟨il, trivial⟩) (.s <| .s <| .s <| .pickT rfl rfl <| .move rfl <| .s <| .s <| .s <| .s <| .s <| .pickT rfl rfl <| .nil) ?_
        clear Hz Az; intro Az Hz
        refine wpAnyE_done (by kernel_rfl) ?_ _
        refine hK2 _ _ ?_; clear hK2; try clear K2
        refine wp_cond_true (Hz.ev (x := .tmp 64) rfl) ?_
        replace Hz : Has 138 [(1, _), (2, _)] Az := Hz.only [1, 2]
        refine regS Hz (.assign rfl <| .nil) ?_
        clear Hz Az; intro Az Hz
        refine wp_ret ?_
        try dsimp only [Exit.then, Exit.inBlock]
        refine (ret1 (fn := Try.f27) Hz rfl rfl ?_)
        exact ⟨false, rfl, iff_of_false (by simp) (fun h => by obtain ⟨v1, v2, v3, v4, v5, v6, v7, v8, v9⟩ := h; have v10 := hsb.2 v1; first | omega | (simp_all; done) | (simp_all; omega)), m20.below⟩
       ·
        clear Hz; intro hb209 Hz
        try simp only [Q1x, Q2x, Q3x, Q4x, Q5x, Q6x, Q7x, Q8x, Q9x, Q0x, Qax, Qbx] at hb209
        refine goR hP5 [49, 50, 51, 52, 53] [50] 5 562949953421311 18014398509481983 Hz (m20.to ⟨il, trivial⟩) (.fieldAddr (off := 8) rfl Try.underlying34 rfl (s := 0) (by kernel_rfl) rfl <| .loadB1 hh (i := 20) rfl rfl rfl Try.underlying2 rfl <| .lss rfl rfl <| .pickF rfl rfl <| .move rfl <| .nil) ?_
        clear Hz Az; intro Az Hz
        refine bool_cases Hz (t := 58) rfl ?_ ?_
        ·
         clear Hz; intro hb228 Hz
         try simp only [Q1x, Q2x, Q3x, Q4x, Q5x, Q6x, Q7x, Q8x, Q9x, Q0x, Qax, Qbx] at hb228
         refine goA hP5 [54, 55, 56, 57, 58, 59] 6 18014398509481983 1152921504606846975 Hz (m20.to ⟨il, trivial⟩) (.s <| .s <| .s <| .s <| .s <| .pickT rfl rfl <| .nil) ?_
         clear Hz Az; intro Az Hz
         refine wpAnyE_done (by kernel_rfl) ?_ _
         refine hK2 _ _ ?_; clear hK2; try clear K2
         refine wp_cond_true (Hz.ev (x := .tmp 64) rfl) ?_
         replace Hz : Has 138 [(1, _), (2, _)] Az := Hz.only [1, 2]
         refine regS Hz (.assign rfl <| .nil) ?_
         clear Hz Az; intro Az Hz
         refine wp_ret ?_
         try dsimp only [Exit.then, Exit.inBlock]
         refine (ret1 (fn := Try.f27) Hz rfl rfl ?_)
         exact ⟨false, rfl, iff_of_false (by simp) (fun h => by obtain ⟨v1, v2, v3, v4, v5, v6, v7, v8, v9⟩ := h; have v10 := hsb.2 v1; first | omega | (simp_all; done) | (simp_all; omega)), m20.below⟩
        ·
         clear Hz; intro hb228 Hz
         try simp only [Q1x, Q2x, Q3x, Q4x, Q5x, Q6x, Q7x, Q8x, Q9x, Q0x, Qax, Qbx] at hb228
         refine goR hP5 [54, 55, 56] [55, 56] 3 18014398509481983 144115188075855871 Hz (m20.to ⟨il, trivial⟩) (.fieldAddr (off := 8) rfl Try.underlying34 rfl (s := 0) (by kernel_rfl) rfl <| .loadB1 hh (i := 20) rfl rfl rfl Try.underlying2 rfl <| .loadBR hh (i := 20) rfl rfl Try.underlying34 rfl sz34rR (by simp) (by dsimp only [List.drop, List.take] <;> rfl) <| .nil) ?_
         clear Hz Az; intro Az Hz
         refine stepE_only 57 rfl (by kernel_rfl) (wantedG Hz rfl rfl rfl rfl) (fun K hK => ?_)
         refine e_call Hz Try.func21 rfl rfl rfl rfl (rlen_any _ _ _ _ _ _ _ _ _ _ _ _ _ _ _ _ _ _) ?_
         rintro e w240 ⟨rfl, hb240⟩
         have m241 := m20.later hb240
         clear m20
         clear hb240
         refine ⟨_, rfl, ?_⟩; clear Hz Az; intro Az Hz
         refine hK _ _ (m241.to ⟨il, trivial⟩) ?_; clear hK K
         refine goA hP5 [58, 59] 2 288230376151711743 1152921504606846975 Hz (m241.to ⟨il, trivial⟩) (.gtr rfl rfl <| .pickF rfl rfl <| .nil) ?_
         clear Hz Az; intro Az Hz
         refine wpAnyE_done (by kernel_rfl) ?_ _
         refine hK2 _ _ ?_; clear hK2; try clear K2
         refine bool_cases Hz (t := 64) rfl ?_ ?_
         ·
          clear Hz; intro hb245 Hz
          try simp only [Q1x, Q2x, Q3x, Q4x, Q5x, Q6x, Q7x, Q8x, Q9x, Q0x, Qax, Qbx] at hb245
          refine wp_cond_true (Hz.ev (x := .tmp 64) rfl) ?_
          replace Hz : Has 138 [(1, _), (2, _)] Az := Hz.only [1, 2]
          refine regS Hz (.assign rfl <| .nil) ?_
          clear Hz Az; intro Az Hz
          refine wp_ret ?_
          try dsimp only [Exit.then, Exit.inBlock]
          refine (ret1 (fn := Try.f27) Hz rfl rfl ?_)
          exact ⟨false, rfl, iff_of_false (by simp) (fun h => by obtain ⟨v1, v2, v3, v4, v5, v6, v7, v8, v9⟩ := h; have v10 := hsb.2 v1; first | omega | (simp_all; done) | (simp_all; omega)), m241.below⟩
         ·
          clear Hz; intro hb245 Hz
          try simp only [Q1x, Q2x, Q3x, Q4x, Q5x, Q6x, Q7x, Q8x, Q9x, Q0x, Qax, Qbx] at hb245
          refine wp_cond_false (Hz.ev (x := .tmp 64) rfl) ?_
          refine wp_skip ?_
          refine hK1 _ _ ?_; clear hK1; try clear K1
          refine wp_seq_k (fun K3 hK3 => ?_)
          replace Hz : Has 138 [(1, _), (2, _)] Az := Hz.only [1, 2]
          refine regS Hz (.assign rfl <| .nil) ?_
          clear Hz Az; intro Az Hz
          refine wp_block ?_
          refine wp_loop_ghost (fun g a w => ∃ (k B : Nat), k ≤ pins.length ∧ g = pins.length - k ∧ PinsPre fl ws.length pins k ∧ Has 138 [(1, .pointer (some ⟨B, 0, none⟩)), (3, .int .i64 k)] a ∧ MemOk (cn w0) w0 [(9, .box B 34 [.int .i64 vo, .int .i64 bl, .int .i64 sz, .int .i64 pe, .slice pp place.length cp, .int .i64 to, .int .i64 ne, .bool hi, .int .i64 fl, .slice pn pins.length cn9, .slice pw ws.length cw])] w) (pins.length) ?_ ?_
          · exact ⟨0, _, Nat.zero_le _, rfl, (fun j hj => by omega), Hz.only [1, 3], m241.ren [(9, 20)] (by decide)⟩
          ·
           clear Hz m241
           rintro g Az w250 ⟨k, B, hkl, hg, hall, Hz, m250⟩
           refine wp_seq_k (fun K4 hK4 => ?_)
           refine regS Hz (.move rfl <| .fieldAddr (off := 9) rfl Try.underlying34 rfl (s := 0) (by kernel_rfl) rfl <| .loadB1 m250 (i := 9) rfl rfl rfl Try.underlying31 rfl <| .len rfl Try.underlying31 <| .lss rfl rfl <| .nil) ?_
           clear Hz Az; intro Az Hz
           refine bool_cases Hz (t := 69) rfl ?_ ?_
           ·
            clear Hz; intro hb256 Hz
            try simp only [Q1x, Q2x, Q3x, Q4x, Q5x, Q6x, Q7x, Q8x, Q9x, Q0x, Qax, Qbx] at hb256
            have hk : k < pins.length := by omega
            refine wp_cond_true (Hz.ev (x := .tmp 69) rfl) ?_
            refine wp_skip ?_
            refine hK4 _ _ ?_; clear hK4; try clear K4
            refine wp_seq_k (fun K5 hK5 => ?_)
            refine wp_block ?_
            refine wp_seq_k (fun K6 hK6 => ?_)
            obtain ⟨gx258, ox258, hp258, hl258, hrg258⟩ := h1.extN (k) hk
            cases hp258; clear hl258
            obtain ⟨gx260, ox260, hp260, hl260, hrg260⟩ := h1.extN (k) hk
            cases hp260; clear hl260
            obtain ⟨gx262, ox262, hp262, hl262, hrg262⟩ := h1.extN (k) hk
            cases hp262; clear hl262
            obtain ⟨gx264, ox264, hp264, hl264, hrg264⟩ := h1.extN (k - 1) (show k - 1 < pins.length by omega)
            cases hp264; clear hl264
            have m265 : MemOk _ _ [(9, _)] _ := m250.only [9]; clear m250
            refine region_p 36 (B := [(9, _)]) (m265.to ⟨il, trivial⟩) m265 (by kernel_rfl) (fun w266 hP266 m266 => ?_); clear m265
            refine goR hP266 [0, 1, 2, 3, 4, 5, 6, 7, 8] [1, 4, 6] 9 0 511 Hz (m266.to ⟨il, trivial⟩) (.fieldAddr (off := 9) rfl Try.underlying34 rfl (s := 0) (by kernel_rfl) rfl <| .loadB1 hh (i := 9) rfl rfl rfl Try.underlying31 rfl <| .move rfl <| .p (fun _ _ h => y_idx h rfl rfl Try.underlying31 sz2rR (k) rfl hk) <| .loadAt1 (fun _ h => (hrg258 h rfl)) (q := 0) rfl rfl rfl Try.underlying2 rfl <| .fieldAddr (off := 8) rfl Try.underlying34 rfl (s := 0) (by kernel_rfl) rfl <| .loadB1 hh (i := 9) rfl rfl rfl Try.underlying2 rfl <| .lss rfl rfl <| .move rfl <| .nil) ?_
            clear Hz Az; intro Az Hz
            refine bool_cases Hz (t := 80) rfl ?_ ?_
            ·
             clear Hz; intro hb276 Hz
             try simp only [Q1x, Q2x, Q3x, Q4x, Q5x, Q6x, Q7x, Q8x, Q9x, Q0x, Qax, Qbx] at hb276
             refine goA hP266 [9, 10, 11, 12, 13, 14, 15, 16, 17, 18, 19, 20, 21, 22, 23, 24, 25, 26, 27, 28, 29, 30, 31, 32, 33, 34, 35] 27 511 68719476735 Hz (m266.to ⟨il, trivial⟩) (.s <| .s <| .s <| .s <| .s <| .s <| .s <| .s <| .pickT rfl rfl <| .move rfl <| .s <| .s <| .s <| .u <| .u <| .u <| .u <| .u <| .u <| .u <| .u <| .u <| .u <| .u <| .u <| .s <| .pickT rfl rfl <| .nil) ?_
             clear Hz Az; intro Az Hz
             refine wpAnyE_done (by kernel_rfl) ?_ _
             refine hK6 _ _ ?_; clear hK6; try clear K6
             refine wp_cond_true (Hz.ev (x := .tmp 107) rfl) ?_
             replace Hz : Has 138 [(1, _), (3, _), (69, _)] Az := Hz.only [1, 3, 69]
             refine regS Hz (.assign rfl <| .nil) ?_
             clear Hz Az; intro Az Hz
             refine wp_ret ?_
             try dsimp only [Exit.then, Exit.inBlock]
             refine (ret1 (fn := Try.f27) Hz rfl rfl ?_)
             exact ⟨false, rfl, iff_of_false (by simp) (fun h => by obtain ⟨v1, v2, v3, v4, v5, v6, v7, v8, v9⟩ := h; have v10 := (pinspre_iff.1 v8).2 _ (getD_mem hk); have v11 := (v8 k hk).1; first | omega | (rw [lastP_pos (by omega)] at v11; omega)), m266.below⟩
            ·
             clear Hz; intro hb276 Hz
             try simp only [Q1x, Q2x, Q3x, Q4x, Q5x, Q6x, Q7x, Q8x, Q9x, Q0x, Qax, Qbx] at hb276
             refine goR hP266 [9, 10, 11, 12, 13, 14] [10, 13, 14] 6 511 32767 Hz (m266.to ⟨il, trivial⟩) (.fieldAddr (off := 9) rfl Try.underlying34 rfl (s := 0) (by kernel_rfl) rfl <| .loadB1 hh (i := 9) rfl rfl rfl Try.underlying31 rfl <| .move rfl <| .p (fun _ _ h => y_idx h rfl rfl Try.underlying31 sz2rR (k) rfl hk) <| .loadAt1 (fun _ h => (hrg260 h rfl)) (q := 0) rfl rfl rfl Try.underlying2 rfl <| .loadBR hh (i := 9) rfl rfl Try.underlying34 rfl sz34rR (by simp) (by dsimp only [List.drop, List.take] <;> rfl) <| .nil) ?_
             clear Hz Az; intro Az Hz
             refine stepE_only 15 rfl (by kernel_rfl) (wantedG Hz rfl rfl rfl rfl) (fun K hK => ?_)
             refine e_call Hz Try.func21 rfl rfl rfl rfl (rlen_any _ _ _ _ _ _ _ _ _ _ _ _ _ _ _ _ _ _) ?_
             rintro e w312 ⟨rfl, hb312⟩
             have m313 := m266.later hb312
             clear m266
             clear hb312
             refine ⟨_, rfl, ?_⟩; clear Hz Az; intro Az Hz
             refine hK _ _ (m313.to ⟨il, trivial⟩) ?_; clear hK K
             refine goA hP266 [16, 17, 18] 3 65535 524287 Hz (m313.to ⟨il, trivial⟩) (.gtr rfl rfl <| .pickF rfl rfl <| .move rfl <| .nil) ?_
             clear Hz Az; intro Az Hz
             refine bool_cases Hz (t := 90) rfl ?_ ?_
             ·
              clear Hz; intro hb318 Hz
              try simp only [Q1x, Q2x, Q3x, Q4x, Q5x, Q6x, Q7x, Q8x, Q9x, Q0x, Qax, Qbx] at hb318
              refine goA hP266 [19, 20, 21, 22, 23, 24, 25, 26, 27, 28, 29, 30, 31, 32, 33, 34, 35] 17 524287 68719476735 Hz (m313.to ⟨il, trivial⟩) (.s <| .s <| .s <| .u <| .u <| .u <| .u <| .u <| .u <| .u <| .u <| .u <| .u <| .u <| .u <| .s <| .pickT rfl rfl <| .nil) ?_
              clear Hz Az; intro Az Hz
              refine wpAnyE_done (by kernel_rfl) ?_ _
              refine hK6 _ _ ?_; clear hK6; try clear K6
              refine wp_cond_true (Hz.ev (x := .tmp 107) rfl) ?_
              replace Hz : Has 138 [(1, _), (3, _), (69, _)] Az := Hz.only [1, 3, 69]
              refine regS Hz (.assign rfl <| .nil) ?_
              clear Hz Az; intro Az Hz
              refine wp_ret ?_
              try dsimp only [Exit.then, Exit.inBlock]
              refine (ret1 (fn := Try.f27) Hz rfl rfl ?_)
              exact ⟨false, rfl, iff_of_false (by simp) (fun h => by obtain ⟨v1, v2, v3, v4, v5, v6, v7, v8, v9⟩ := h; have v10 := (pinspre_iff.1 v8).2 _ (getD_mem hk); have v11 := (v8 k hk).1; first | omega | (rw [lastP_pos (by omega)] at v11; omega)), m313.below⟩
             ·
              clear Hz; intro hb318 Hz
              try simp only [Q1x, Q2x, Q3x, Q4x, Q5x, Q6x, Q7x, Q8x, Q9x, Q0x, Qax, Qbx] at hb318
              refine goA hP266 [19, 20, 21] 3 524287 4194303 Hz (m313.to ⟨il, trivial⟩) (.move rfl <| .gtr rfl rfl <| .move rfl <| .nil) ?_
              clear Hz Az; intro Az Hz
              refine bool_cases Hz (t := 93) rfl ?_ ?_
              ·
               clear Hz; intro hb341 Hz
               try simp only [Q1x, Q2x, Q3x, Q4x, Q5x, Q6x, Q7x, Q8x, Q9x, Q0x, Qax, Qbx] at hb341
               refine goR hP266 [22, 23, 24, 25, 26, 27, 28, 29, 30, 31, 32, 33, 34, 35] [23, 26, 28, 32] 14 4194303 68719476735 Hz (m313.to ⟨il, trivial⟩) (.fieldAddr (off := 9) rfl Try.underlying34 rfl (s := 0) (by kernel_rfl) rfl <| .loadB1 hh (i := 9) rfl rfl rfl Try.underlying31 rfl <| .move rfl <| .p (fun _ _ h => y_idx h rfl rfl Try.underlying31 sz2rR (k) rfl hk) <| .loadAt1 (fun _ h => (hrg262 h rfl)) (q := 0) rfl rfl rfl Try.underlying2 rfl <| .fieldAddr (off := 9) rfl Try.underlying34 rfl (s := 0) (by kernel_rfl) rfl <| .loadB1 hh (i := 9) rfl rfl rfl Try.underlying31 rfl <| .move rfl <| .sub rfl rfl (r := (k : Int) - 1) (IntWalk.i64_in _ (by omega)) <| .p (fun _ _ h => y_idx h rfl rfl Try.underlying31 sz2rR (k - 1) (by omega) (show k - 1 < pins.length by omega)) <| .loadAt1 (fun _ h => (hrg264 h rfl)) (q := 0) rfl rfl rfl Try.underlying2 rfl <| .lss rfl rfl <| .pickT rfl rfl <| .pickF rfl rfl <| .nil) ?_
               clear Hz Az; intro Az Hz
               refine wpAnyE_done (by kernel_rfl) ?_ _
               refine hK6 _ _ ?_; clear hK6; try clear K6
               refine bool_cases Hz (t := 107) rfl ?_ ?_
               ·
                clear Hz; intro hb356 Hz
                try simp only [Q1x, Q2x, Q3x, Q4x, Q5x, Q6x, Q7x, Q8x, Q9x, Q0x, Qax, Qbx] at hb356
                refine wp_cond_true (Hz.ev (x := .tmp 107) rfl) ?_
                replace Hz : Has 138 [(1, _), (3, _), (69, _)] Az := Hz.only [1, 3, 69]
                refine regS Hz (.assign rfl <| .nil) ?_
                clear Hz Az; intro Az Hz
                refine wp_ret ?_
                try dsimp only [Exit.then, Exit.inBlock]
                refine (ret1 (fn := Try.f27) Hz rfl rfl ?_)
                exact ⟨false, rfl, iff_of_false (by simp) (fun h => by obtain ⟨v1, v2, v3, v4, v5, v6, v7, v8, v9⟩ := h; have v10 := (pinspre_iff.1 v8).2 _ (getD_mem hk); have v11 := (v8 k hk).1; first | omega | (rw [lastP_pos (by omega)] at v11; omega)), m313.below⟩
               ·
                clear Hz; intro hb356 Hz
                try simp only [Q1x, Q2x, Q3x, Q4x, Q5x, Q6x, Q7x, Q8x, Q9x, Q0x, Qax, Qbx] at hb356
                refine wp_cond_false (Hz.ev (x := .tmp 107) rfl) ?_
                refine wp_skip ?_
                refine hK5 _ _ ?_; clear hK5; try clear K5
                replace Hz : Has 138 [(1, _), (3, _), (69, _)] Az := Hz.only [1, 3, 69]
                refine wp_region_lit ?_
                refine goCh Hz (.move rfl <| .add rfl rfl (r := ((k + 1 : Nat) : Int)) (by rw [IntWalk.i64_in _ (by omega)]; omega) <| .assign rfl <| .nil) ?_
                clear Hz Az; intro Az Hz
                refine wpList_nil ?_
                show ∃ n', n' < _ ∧ _
                exact ⟨pins.length - (k + 1), by omega, k + 1, _, by omega, rfl, pins_snoc hall (lastP_le (by omega) (by omega)) (by omega), Hz.only [1, 3], m313.only [9]⟩
              ·
               clear Hz; intro hb341 Hz
               try simp only [Q1x, Q2x, Q3x, Q4x, Q5x, Q6x, Q7x, Q8x, Q9x, Q0x, Qax, Qbx] at hb341
               refine goA hP266 [22, 23, 24, 25, 26, 27, 28, 29, 30, 31, 32, 33, 34, 35] 14 4194303 68719476735 Hz (m313.to ⟨il, trivial⟩) (.s <| .s <| .s <| .s <| .s <| .s <| .s <| .s <| .s <| .s <| .s <| .s <| .pickF rfl rfl <| .pickF rfl rfl <| .nil) ?_
               clear Hz Az; intro Az Hz
               refine wpAnyE_done (by kernel_rfl) ?_ _
               refine hK6 _ _ ?_; clear hK6; try clear K6
               refine wp_cond_false (Hz.ev (x := .tmp 107) rfl) ?_
               refine wp_skip ?_
               refine hK5 _ _ ?_; clear hK5; try clear K5
               replace Hz : Has 138 [(1, _), (3, _), (69, _)] Az := Hz.only [1, 3, 69]
               refine wp_region_lit ?_
               refine goCh Hz (.move rfl <| .add rfl rfl (r := ((k + 1 : Nat) : Int)) (by rw [IntWalk.i64_in _ (by omega)]; omega) <| .assign rfl <| .nil) ?_
               clear Hz Az; intro Az Hz
               refine wpList_nil ?_
               show ∃ n', n' < _ ∧ _
               exact ⟨pins.length - (k + 1), by omega, k + 1, _, by omega, rfl, pins_snoc hall (lastP_le (by omega) (by omega)) (by omega), Hz.only [1, 3], m313.only [9]⟩
           ·
            clear Hz; intro hb256 Hz
            try simp only [Q1x, Q2x, Q3x, Q4x, Q5x, Q6x, Q7x, Q8x, Q9x, Q0x, Qax, Qbx] at hb256
            obtain rfl : k = pins.length := by omega
            refine wp_cond_false (Hz.ev (x := .tmp 69) rfl) ?_
            refine wp_exit ?_
            refine hK3 _ _ ?_; clear hK3; try clear K3
            refine wp_seq_k (fun K7 hK7 => ?_)
            refine regS Hz (.assign rfl <| .nil) ?_
            clear Hz Az; intro Az Hz
            refine wp_block ?_
            refine wp_loop_ghost (fun g a w => ∃ (k B : Nat), k ≤ ws.length ∧ g = ws.length - k ∧ WrPre bl sz ws k ∧ Has 138 [(1, .pointer (some ⟨B, 0, none⟩)), (4, .int .i64 k)] a ∧ MemOk (cn w0) w0 [(9, .box B 34 [.int .i64 vo, .int .i64 bl, .int .i64 sz, .int .i64 pe, .slice pp place.length cp, .int .i64 to, .int .i64 ne, .bool hi, .int .i64 fl, .slice pn pins.length cn9, .slice pw ws.length cw])] w) (ws.length) ?_ ?_
            · exact ⟨0, _, Nat.zero_le _, rfl, (fun j hj => by omega), Hz.only [1, 4], m250.ren [(9, 9)] (by decide)⟩
            ·
             clear Hz m250
             rintro g Az w382 ⟨k, B, hkl, hg, hall2, Hz, m382⟩
             refine wp_seq_k (fun K8 hK8 => ?_)
             refine regS Hz (.move rfl <| .fieldAddr (off := 10) rfl Try.underlying34 rfl (s := 0) (by kernel_rfl) rfl <| .loadB1 m382 (i := 9) rfl rfl rfl Try.underlying32 rfl <| .len rfl Try.underlying32 <| .lss rfl rfl <| .nil) ?_
             clear Hz Az; intro Az Hz
             refine bool_cases Hz (t := 112) rfl ?_ ?_
             ·
              clear Hz; intro hb388 Hz
              try simp only [Q1x, Q2x, Q3x, Q4x, Q5x, Q6x, Q7x, Q8x, Q9x, Q0x, Qax, Qbx] at hb388
              have hk : k < ws.length := by omega
              obtain ⟨⟨xs, xl⟩, hes⟩ : ∃ e, ws[k]? = some e := ⟨_, List.getElem?_eq_getElem hk⟩
              refine wp_cond_true (Hz.ev (x := .tmp 112) rfl) ?_
              refine wp_skip ?_
              refine hK8 _ _ ?_; clear hK8; try clear K8
              refine wp_seq_k (fun K9 hK9 => ?_)
              refine wp_block ?_
              refine wp_seq_k (fun K10 hK10 => ?_)
              obtain ⟨gx390, ox390, vx390, hp390, hl390, hR390, hrg390⟩ := h2.extA (k) (r := [.v (.int .i64 xs), .l 2 (xl.map itD)]) (wrD_get hes)
              cases hp390; clear hl390
              rcases hR390 with _ | ⟨hd390_0, _ | ⟨hd390_1, _ | _⟩⟩
              obtain rfl := hd390_0.v_out
              clear hd390_0
              obtain ⟨p391, c391, hv391, hw391⟩ := hd390_1.l_shape; subst hv391
              obtain ⟨gx393, ox393, vx393, hp393, hl393, hR393, hrg393⟩ := h2.extA (k) (r := [.v (.int .i64 xs), .l 2 (xl.map itD)]) (wrD_get hes)
              cases hp393; clear hl393
              rcases hR393 with _ | ⟨hd393_0, _ | ⟨hd393_1, _ | _⟩⟩
              obtain rfl := hd393_0.v_out
              clear hd393_0
              obtain ⟨p394, c394, hv394, hw394⟩ := hd393_1.l_shape; subst hv394
              have m395 : MemOk _ _ [(9, _)] _ := m382.only [9]; clear m382
              refine region_p 23 (B := [(9, _)]) (m395.to ⟨il, trivial⟩) m395 (by kernel_rfl) (fun w396 hP396 m396 => ?_); clear m395
              refine goR hP396 [0, 1, 2, 3, 4, 5, 6, 7, 8, 9] [1, 5] 10 0 1023 Hz (m396.to ⟨il, trivial⟩) (.fieldAddr (off := 10) rfl Try.underlying34 rfl (s := 0) (by kernel_rfl) rfl <| .loadB1 hh (i := 9) rfl rfl rfl Try.underlying32 rfl <| .move rfl <| .p (fun _ _ h => y_idx h rfl rfl Try.underlying32 sz55rR (k) rfl hk) <| .fieldAddrQ 0 rfl Try.underlying55 rfl (s := 0) (by kernel_rfl) rfl <| .loadAt1 (fun _ h => (hrg390 h rfl)) (q := 0) rfl rfl rfl Try.underlying2 rfl <| .move rfl <| .add rfl rfl (r := (k : Int) + 1) (IntWalk.i64_in _ (by omega)) <| .neq rfl rfl <| .move rfl <| .nil) ?_
              clear Hz Az; intro Az Hz
              refine bool_cases Hz (t := 124) rfl ?_ ?_
              ·
               clear Hz; intro hb407 Hz
               try simp only [Q1x, Q2x, Q3x, Q4x, Q5x, Q6x, Q7x, Q8x, Q9x, Q0x, Qax, Qbx] at hb407
               refine goA hP396 [10, 11, 12, 13, 14, 15, 16, 17, 18, 19, 20, 21, 22] 13 1023 8388607 Hz (m396.to ⟨il, trivial⟩) (.s <| .s <| .s <| .s <| .s <| .s <| .s <| .s <| .s <| .s <| .s <| .s <| .pickT rfl rfl <| .nil) ?_
               clear Hz Az; intro Az Hz
               refine wpAnyE_done (by kernel_rfl) ?_ _
               refine hK10 _ _ ?_; clear hK10; try clear K10
               refine wp_cond_true (Hz.ev (x := .tmp 137) rfl) ?_
               replace Hz : Has 138 [(1, _), (4, _), (112, _)] Az := Hz.only [1, 4, 112]
               refine regS Hz (.assign rfl <| .nil) ?_
               clear Hz Az; intro Az Hz
               refine wp_ret ?_
               try dsimp only [Exit.then, Exit.inBlock]
               refine (ret1 (fn := Try.f27) Hz rfl rfl ?_)
               exact ⟨false, rfl, iff_of_false (by simp) (fun h => by obtain ⟨v1, v2, v3, v4, v5, v6, v7, v8, v9⟩ := h; have v10 := v9 k hk; rw [getW hes] at v10; first | (have v12 := v10.1; dsimp only at v12; omega) | (have v11 := hib.2 v10.2; simp_all; done)), m396.below⟩
              ·
               clear Hz; intro hb407 Hz
               try simp only [Q1x, Q2x, Q3x, Q4x, Q5x, Q6x, Q7x, Q8x, Q9x, Q0x, Qax, Qbx] at hb407
               refine goR hP396 [10, 11, 12, 13, 14, 15, 16, 17, 18, 19] [11, 13, 15, 19] 10 1023 1048575 Hz (m396.to ⟨il, trivial⟩) (.fieldAddr (off := 1) rfl Try.underlying34 rfl (s := 0) (by kernel_rfl) rfl <| .loadB1 hh (i := 9) rfl rfl rfl Try.underlying3 rfl <| .fieldAddr (off := 2) rfl Try.underlying34 rfl (s := 0) (by kernel_rfl) rfl <| .loadB1 hh (i := 9) rfl rfl rfl Try.underlying3 rfl <| .fieldAddr (off := 10) rfl Try.underlying34 rfl (s := 0) (by kernel_rfl) rfl <| .loadB1 hh (i := 9) rfl rfl rfl Try.underlying32 rfl <| .move rfl <| .p (fun _ _ h => y_idx h rfl rfl Try.underlying32 sz55rR (k) rfl hk) <| .fieldAddrQ 1 rfl Try.underlying55 rfl (s := 0) (by kernel_rfl) rfl <| .loadAt1 (fun _ h => (hrg393 h rfl)) (q := 1) rfl rfl rfl Try.underlying23 rfl <| .nil) ?_
               clear Hz Az; intro Az Hz
               refine stepE_only 20 rfl (by kernel_rfl) (wantedG Hz rfl rfl rfl rfl) (fun K hK => ?_)
               refine e_call Hz Try.func29 rfl rfl rfl rfl (ritems_any _ _ xl _ _ _ _ ((hd393_1.now' m396 rfl).any) (hwl _ (List.mem_of_getElem? hes))) ?_
               rintro e w433 ⟨ib, rfl, hib, hb433⟩
               have m434 := m396.later hb433
               clear m396
               clear hb433
               refine ⟨_, rfl, ?_⟩; clear Hz Az; intro Az Hz
               refine hK _ _ (m434.to ⟨il, trivial⟩) ?_; clear hK K
               refine goA hP396 [21, 22] 2 2097151 8388607 Hz (m434.to ⟨il, trivial⟩) (.not rfl <| .pickF rfl rfl <| .nil) ?_
               clear Hz Az; intro Az Hz
               refine wpAnyE_done (by kernel_rfl) ?_ _
               refine hK10 _ _ ?_; clear hK10; try clear K10
               refine bool_cases Hz (t := 137) rfl ?_ ?_
               ·
                clear Hz; intro hb438 Hz
                try simp only [Q1x, Q2x, Q3x, Q4x, Q5x, Q6x, Q7x, Q8x, Q9x, Q0x, Qax, Qbx] at hb438
                refine wp_cond_true (Hz.ev (x := .tmp 137) rfl) ?_
                replace Hz : Has 138 [(1, _), (4, _), (112, _)] Az := Hz.only [1, 4, 112]
                refine regS Hz (.assign rfl <| .nil) ?_
                clear Hz Az; intro Az Hz
                refine wp_ret ?_
                try dsimp only [Exit.then, Exit.inBlock]
                refine (ret1 (fn := Try.f27) Hz rfl rfl ?_)
                exact ⟨false, rfl, iff_of_false (by simp) (fun h => by obtain ⟨v1, v2, v3, v4, v5, v6, v7, v8, v9⟩ := h; have v10 := v9 k hk; rw [getW hes] at v10; first | (have v12 := v10.1; dsimp only at v12; omega) | (have v11 := hib.2 v10.2; simp_all; done)), m434.below⟩
               ·
                clear Hz; intro hb438 Hz
                try simp only [Q1x, Q2x, Q3x, Q4x, Q5x, Q6x, Q7x, Q8x, Q9x, Q0x, Qax, Qbx] at hb438
                refine wp_cond_false (Hz.ev (x := .tmp 137) rfl) ?_
                refine wp_skip ?_
                refine hK9 _ _ ?_; clear hK9; try clear K9
                replace Hz : Has 138 [(1, _), (4, _), (112, _)] Az := Hz.only [1, 4, 112]
                refine wp_region_lit ?_
                refine goCh Hz (.move rfl <| .add rfl rfl (r := ((k + 1 : Nat) : Int)) (by rw [IntWalk.i64_in _ (by omega)]; omega) <| .assign rfl <| .nil) ?_
                clear Hz Az; intro Az Hz
                refine wpList_nil ?_
                show ∃ n', n' < _ ∧ _
                exact ⟨ws.length - (k + 1), by omega, k + 1, _, by omega, rfl, wr_snoc hall2 hes (by omega) (hib.1 (by simp_all)), Hz.only [1, 4], m434.only [9]⟩
             ·
              clear Hz; intro hb388 Hz
              try simp only [Q1x, Q2x, Q3x, Q4x, Q5x, Q6x, Q7x, Q8x, Q9x, Q0x, Qax, Qbx] at hb388
              obtain rfl : k = ws.length := by omega
              refine wp_cond_false (Hz.ev (x := .tmp 112) rfl) ?_
              refine wp_exit ?_
              refine hK7 _ _ ?_; clear hK7; try clear K7
              refine regS Hz (.assign rfl <| .nil) ?_
              clear Hz Az; intro Az Hz
              refine wp_ret ?_
              try dsimp only [Exit.then, Exit.inBlock]
              refine (ret1 (fn := Try.f27) Hz rfl rfl ?_)
              exact ⟨true, rfl, iff_of_true rfl ⟨hsb.1 (by simp_all), by omega, by omega, by simp_all, by simp_all, by omega, by omega, hall, hall2⟩, m382.below⟩
      ·
       clear Hz; intro hb200 Hz
       try simp only [Q1x, Q2x, Q3x, Q4x, Q5x, Q6x, Q7x, Q8x, Q9x, Q0x, Qax, Qbx] at hb200
       refine goR hP5 [41, 42, 43, 44, 45, 46, 47, 48, 49, 50, 51, 52, 53] [50] 13 2199023255551 18014398509481983 Hz (m20.to ⟨il, trivial⟩) (.s <| .s <| .s <| .s <| .s <| .pickF rfl rfl <| .pickF rfl rfl <| .move rfl <| .fieldAddr (off := 8) rfl Try.underlying34 rfl (s := 0) (by kernel_rfl) rfl <| .loadB1 hh (i := 20) rfl rfl rfl Try.underlying2 rfl <| .lss rfl rfl <| .pickF rfl rfl <| .move rfl <| .nil) ?_
       clear Hz Az; intro Az Hz
       refine bool_cases Hz (t := 58) rfl ?_ ?_
       ·
        clear Hz; intro hb459 Hz
        try simp only [Q1x, Q2x, Q3x, Q4x, Q5x, Q6x, Q7x, Q8x, Q9x, Q0x, Qax, Qbx] at hb459
        refine goA hP5 [54, 55, 56, 57, 58, 59] 6 18014398509481983 1152921504606846975 Hz (m20.to ⟨il, trivial⟩) (.s <| .s <| .s <| .s <| .s <| .pickT rfl rfl <| .nil) ?_
        clear Hz Az; intro Az Hz
        refine wpAnyE_done (by kernel_rfl) ?_ _
        refine hK2 _ _ ?_; clear hK2; try clear K2
        refine wp_cond_true (Hz.ev (x := .tmp 64) rfl) ?_
        replace Hz : Has 138 [(1, _), (2, _)] Az := Hz.only [1, 2]
        refine regS Hz (.assign rfl <| .nil) ?_
        clear Hz Az; intro Az Hz
        refine wp_ret ?_
        try dsimp only [Exit.then, Exit.inBlock]
        refine (ret1 (fn := Try.f27) Hz rfl rfl ?_)
        exact ⟨false, rfl, iff_of_false (by simp) (fun h => by obtain ⟨v1, v2, v3, v4, v5, v6, v7, v8, v9⟩ := h; have v10 := hsb.2 v1; first | omega | (simp_all; done) | (simp_all; omega)), m20.below⟩
       ·
        clear Hz; intro hb459 Hz
        try simp only [Q1x, Q2x, Q3x, Q4x, Q5x, Q6x, Q7x, Q8x, Q9x, Q0x, Qax, Qbx] at hb459
        refine goR hP5 [54, 55, 56] [55, 56] 3 18014398509481983 144115188075855871 Hz (m20.to ⟨il, trivial⟩) (.fieldAddr (off := 8) rfl Try.underlying34 rfl (s := 0) (by kernel_rfl) rfl <| .loadB1 hh (i := 20) rfl rfl rfl Try.underlying2 rfl <| .loadBR hh (i := 20) rfl rfl Try.underlying34 rfl sz34rR (by simp) (by dsimp only [List.drop, List.take] <;> rfl) <| .nil) ?_
        clear Hz Az; intro Az Hz
        refine stepE_only 57 rfl (by kernel_rfl) (wantedG Hz rfl rfl rfl rfl) (fun K hK => ?_)
        refine e_call Hz Try.func21 rfl rfl rfl rfl (rlen_any _ _ _ _ _ _ _ _ _ _ _ _ _ _ _ _ _ _) ?_
        rintro e w471 ⟨rfl, hb471⟩
        have m472 := m20.later hb471
        clear m20
        clear hb471
        refine ⟨_, rfl, ?_⟩; clear Hz Az; intro Az Hz
        refine hK _ _ (m472.to ⟨il, trivial⟩) ?_; clear hK K
        refine goA hP5 [58, 59] 2 288230376151711743 1152921504606846975 Hz (m472.to ⟨il, trivial⟩) (.gtr rfl rfl <| .pickF rfl rfl <| .nil) ?_
        clear Hz Az; intro Az Hz
        refine wpAnyE_done (by kernel_rfl) ?_ _
        refine hK2 _ _ ?_; clear hK2; try clear K2
        refine bool_cases Hz (t := 64) rfl ?_ ?_
        ·
         clear Hz; intro hb476 Hz
         try simp only [Q1x, Q2x, Q3x, Q4x, Q5x, Q6x, Q7x, Q8x, Q9x, Q0x, Qax, Qbx] at hb476
         refine wp_cond_true (Hz.ev (x := .tmp 64) rfl) ?_
         replace Hz : Has 138 [(1, _), (2, _)] Az := Hz.only [1, 2]
         refine regS Hz (.assign rfl <| .nil) ?_
         clear Hz Az; intro Az Hz
         refine wp_ret ?_
         try dsimp only [Exit.then, Exit.inBlock]
         refine (ret1 (fn := Try.f27) Hz rfl rfl ?_)
         exact ⟨false, rfl, iff_of_false (by simp) (fun h => by obtain ⟨v1, v2, v3, v4, v5, v6, v7, v8, v9⟩ := h; have v10 := hsb.2 v1; first | omega | (simp_all; done) | (simp_all; omega)), m472.below⟩
        ·
         clear Hz; intro hb476 Hz
         try simp only [Q1x, Q2x, Q3x, Q4x, Q5x, Q6x, Q7x, Q8x, Q9x, Q0x, Qax, Qbx] at hb476
         refine wp_cond_false (Hz.ev (x := .tmp 64) rfl) ?_
         refine wp_skip ?_
         refine hK1 _ _ ?_; clear hK1; try clear K1
         refine wp_seq_k (fun K11 hK11 => ?_)
         replace Hz : Has 138 [(1, _), (2, _)] Az := Hz.only [1, 2]
         refine regS Hz (.assign rfl <| .nil) ?_
         clear Hz Az; intro Az Hz
         refine wp_block ?_
         refine wp_loop_ghost (fun g a w => ∃ (k B : Nat), k ≤ pins.length ∧ g = pins.length - k ∧ PinsPre fl ws.length pins k ∧ Has 138 [(1, .pointer (some ⟨B, 0, none⟩)), (3, .int .i64 k)] a ∧ MemOk (cn w0) w0 [(9, .box B 34 [.int .i64 vo, .int .i64 bl, .int .i64 sz, .int .i64 pe, .slice pp place.length cp, .int .i64 to, .int .i64 ne, .bool hi, .int .i64 fl, .slice pn pins.length cn9, .slice pw ws.length cw])] w) (pins.length) ?_ ?_
         · exact ⟨0, _, Nat.zero_le _, rfl, (fun j hj => by omega), Hz.only [1, 3], m472.ren [(9, 20)] (by decide)⟩
         ·
          clear Hz m472
          rintro g Az w481 ⟨k, B, hkl, hg, hall, Hz, m481⟩
          refine wp_seq_k (fun K12 hK12 => ?_)
          refine regS Hz (.move rfl <| .fieldAddr (off := 9) rfl Try.underlying34 rfl (s := 0) (by kernel_rfl) rfl <| .loadB1 m481 (i := 9) rfl rfl rfl Try.underlying31 rfl <| .len rfl Try.underlying31 <| .lss rfl rfl <| .nil) ?_
          clear Hz Az; intro Az Hz
          refine bool_cases Hz (t := 69) rfl ?_ ?_
          ·
           clear Hz; intro hb487 Hz
           try simp only [Q1x, Q2x, Q3x, Q4x, Q5x, Q6x, Q7x, Q8x, Q9x, Q0x, Qax, Qbx] at hb487
           have hk : k < pins.length := by omega
           refine wp_cond_true (Hz.ev (x := .tmp 69) rfl) ?_
           refine wp_skip ?_
           refine hK12 _ _ ?_; clear hK12; try clear K12
           refine wp_seq_k (fun K13 hK13 => ?_)
           refine wp_block ?_
           refine wp_seq_k (fun K14 hK14 => ?_)
           obtain ⟨gx489, ox489, hp489, hl489, hrg489⟩ := h1.extN (k) hk
           cases hp489; clear hl489
           obtain ⟨gx491, ox491, hp491, hl491, hrg491⟩ := h1.extN (k) hk
           cases hp491; clear hl491
           obtain ⟨gx493, ox493, hp493, hl493, hrg493⟩ := h1.extN (k) hk
           cases hp493; clear hl493
           obtain ⟨gx495, ox495, hp495, hl495, hrg495⟩ := h1.extN (k - 1) (show k - 1 < pins.length by omega)
           cases hp495; clear hl495
           have m496 : MemOk _ _ [(9, _)] _ := m481.only [9]; clear m481
           refine region_p 36 (B := [(9, _)]) (m496.to ⟨il, trivial⟩) m496 (by kernel_rfl) (fun w497 hP497 m497 => ?_); clear m496
           refine goR hP497 [0, 1, 2, 3, 4, 5, 6, 7, 8] [1, 4, 6] 9 0 511 Hz (m497.to ⟨il, trivial⟩) (.fieldAddr (off := 9) rfl Try.underlying34 rfl (s := 0) (by kernel_rfl) rfl <| .loadB1 hh (i := 9) rfl rfl rfl Try.underlying31 rfl <| .move rfl <| .p (fun _ _ h => y_idx h rfl rfl Try.underlying31 sz2rR (k) rfl hk) <| .loadAt1 (fun _ h => (hrg489 h rfl)) (q := 0) rfl rfl rfl Try.underlying2 rfl <| .fieldAddr (off := 8) rfl Try.underlying34 rfl (s := 0) (by kernel_rfl) rfl <| .loadB1 hh (i := 9) rfl rfl rfl Try.underlying2 rfl <| .lss rfl rfl <| .move rfl <| .nil) ?_
           clear Hz Az; intro Az Hz
           refine bool_cases Hz (t := 80) rfl ?_ ?_
           ·
            clear Hz; intro hb507 Hz
            try simp only [Q1x, Q2x, Q3x, Q4x, Q5x, Q6x, Q7x, Q8x, Q9x, Q0x, Qax, Qbx] at hb507
            refine goA hP497 [9, 10, 11, 12, 13, 14, 15, 16, 17, 18, 19, 20, 21, 22, 23, 24, 25, 26, 27, 28, 29, 30, 31, 32, 33, 34, 35] 27 511 68719476735 Hz (m497.to ⟨il, trivial⟩) (.s <| .s <| .s <| .s <| .s <| .s <| .s <| .s <| .pickT rfl rfl <| .move rfl <| .s <| .s <| .s <| .u <| .u <| .u <| .u <| .u <| .u <| .u <| .u <| .u <| .u <| .u <| .u <| .s <| .pickT rfl rfl <| .nil) ?_
            clear Hz Az; intro Az Hz
            refine wpAnyE_done (by kernel_rfl) ?_ _
            refine hK14 _ _ ?_; clear hK14; try clear K14
            refine wp_cond_true (Hz.ev (x := .tmp 107) rfl) ?_
            replace Hz : Has 138 [(1, _), (3, _), (69, _)] Az := Hz.only [1, 3, 69]
            refine regS Hz (.assign rfl <| .nil) ?_
            clear Hz Az; intro Az Hz
            refine wp_ret ?_
            try dsimp only [Exit.then, Exit.inBlock]
            refine (ret1 (fn := Try.f27) Hz rfl rfl ?_)
            exact ⟨false, rfl, iff_of_false (by simp) (fun h => by obtain ⟨v1, v2, v3, v4, v5, v6, v7, v8, v9⟩ := h; have v10 := (pinspre_iff.1 v8).2 _ (getD_mem hk); have v11 := (v8 k hk).1; first | omega | (rw [lastP_pos (by omega)] at v11; omega)), m497.below⟩
           ·
            clear Hz; intro hb507 Hz
            try simp only [Q1x, Q2x, Q3x, Q4x, Q5x, Q6x, Q7x, Q8x, Q9x, Q0x, Qax, Qbx] at hb507
            refine goR hP497 [9, 10, 11, 12, 13, 14] [10, 13, 14] 6 511 32767 Hz (m497.to ⟨il, trivial⟩) (.fieldAddr (off := 9) rfl Try.underlying34 rfl (s := 0) (by kernel_rfl) rfl <| .loadB1 hh (i := 9) rfl rfl rfl Try.underlying31 rfl <| .move rfl <| .p (fun _ _ h => y_idx h rfl rfl Try.underlying31 sz2rR (k) rfl hk) <| .loadAt1 (fun _ h => (hrg491 h rfl)) (q := 0) rfl rfl rfl Try.underlying2 rfl <| .loadBR hh (i := 9) rfl rfl Try.underlying34 rfl sz34rR (by simp) (by dsimp only [List.drop, List.take] <;> rfl) <| .nil) ?_
            clear Hz Az; intro Az Hz
            refine stepE_only 15 rfl (by kernel_rfl) (wantedG Hz rfl rfl rfl rfl) (fun K hK => ?_)
            refine e_call Hz Try.func21 rfl rfl rfl rfl (rlen_any _ _ _ _ _ _ _ _ _ _ _ _ _ _ _ _ _ _) ?_
            rintro e w543 ⟨rfl, hb543⟩
            have m544 := m497.later hb543
            clear m497
            clear hb543
            refine ⟨_, rfl, ?_⟩; clear Hz Az; intro Az Hz
            refine hK _ _ (m544.to ⟨il, trivial⟩) ?_; clear hK K
            refine goA hP497 [16, 17, 18] 3 65535 524287 Hz (m544.to ⟨il, trivial⟩) (.gtr rfl rfl <| .pickF rfl rfl <| .move rfl <| .nil) ?_
            clear Hz Az; intro Az Hz
            refine bool_cases Hz (t := 90) rfl ?_ ?_
            ·
             clear Hz; intro hb549 Hz
             try simp only [Q1x, Q2x, Q3x, Q4x, Q5x, Q6x, Q7x, Q8x, Q9x, Q0x, Qax, Qbx] at hb549
             refine goA hP497 [19, 20, 21, 22, 23, 24, 25, 26, 27, 28, 29, 30, 31, 32, 33, 34, 35] 17 524287 68719476735 Hz (m544.to ⟨il, trivial⟩) (.s <| .s <| .s <| .u <| .u <| .u <| .u <| .u <| .u <| .u <| .u <| .u <| .u <| .u <| .u <| .s <| .pickT rfl rfl <| .nil) ?_
             clear Hz Az; intro Az Hz
             refine wpAnyE_done (by kernel_rfl) ?_ _
             refine hK14 _ _ ?_; clear hK14; try clear K14
             refine wp_cond_true (Hz.ev (x := .tmp 107) rfl) ?_
             replace Hz : Has 138 [(1, _), (3, _), (69, _)] Az := Hz.only [1, 3, 69]
             refine regS Hz (.assign rfl <| .nil) ?_
             clear Hz Az; intro Az Hz
             refine wp_ret ?_
             try dsimp only [Exit.then, Exit.inBlock]
             refine (ret1 (fn := Try.f27) Hz rfl rfl ?_)
             exact ⟨false, rfl, iff_of_false (by simp) (fun h => by obtain ⟨v1, v2, v3, v4, v5, v6, v7, v8, v9⟩ := h; have v10 := (pinspre_iff.1 v8).2 _ (getD_mem hk); have v11 := (v8 k hk).1; first | omega | (rw [lastP_pos (by omega)] at v11; omega)), m544.below⟩
            ·
             clear Hz; intro hb549 Hz
             try simp only [Q1x, Q2x, Q3x, Q4x, Q5x, Q6x, Q7x, Q8x, Q9x, Q0x, Qax, Qbx] at hb549
             refine goA hP497 [19, 20, 21] 3 524287 4194303 Hz (m544.to ⟨il, trivial⟩) (.move rfl <| .gtr rfl rfl <| .move rfl <| .nil) ?_
             clear Hz Az; intro Az Hz
             refine bool_cases Hz (t := 93) rfl ?_ ?_
             ·
              clear Hz; intro hb572 Hz
              try simp only [Q1x, Q2x, Q3x, Q4x, Q5x, Q6x, Q7x, Q8x, Q9x, Q0x, Qax, Qbx] at hb572
              refine goR hP497 [22, 23, 24, 25, 26, 27, 28, 29, 30, 31, 32, 33, 34, 35] [23, 26, 28, 32] 14 4194303 68719476735 Hz (m544.to ⟨il, trivial⟩) (.fieldAddr (off := 9) rfl Try.underlying34 rfl (s := 0) (by kernel_rfl) rfl <| .loadB1 hh (i := 9) rfl rfl rfl Try.underlying31 rfl <| .move rfl <| .p (fun _ _ h => y_idx h rfl rfl Try.underlying31 sz2rR (k) rfl hk) <| .loadAt1 (fun _ h => (hrg493 h rfl)) (q := 0) rfl rfl rfl Try.underlying2 rfl <| .fieldAddr (off := 9) rfl Try.underlying34 rfl (s := 0) (by kernel_rfl) rfl <| .loadB1 hh (i := 9) rfl rfl rfl Try.underlying31 rfl <| .move rfl <| .sub rfl rfl (r := (k : Int) - 1) (IntWalk.i64_in _ (by omega)) <| .p (fun _ _ h => y_idx h rfl rfl Try.underlying31 sz2rR (k - 1) (by omega) (show k - 1 < pins.length by omega)) <| .loadAt1 (fun _ h => (hrg495 h rfl)) (q := 0) rfl rfl rfl Try.underlying2 rfl <| .lss rfl rfl <| .pickT rfl rfl <| .pickF rfl rfl <| .nil) ?_
              clear Hz Az; intro Az Hz
              refine wpAnyE_done (by kernel_rfl) ?_ _
              refine hK14 _ _ ?_; clear hK14; try clear K14
              refine bool_cases Hz (t := 107) rfl ?_ ?_
              ·
               clear Hz; intro hb587 Hz
               try simp only [Q1x, Q2x, Q3x, Q4x, Q5x, Q6x, Q7x, Q8x, Q9x, Q0x, Qax, Qbx] at hb587
               refine wp_cond_true (Hz.ev (x := .tmp 107) rfl) ?_
               replace Hz : Has 138 [(1, _), (3, _), (69, _)] Az := Hz.only [1, 3, 69]
               refine regS Hz (.assign rfl <| .nil) ?_
               clear Hz Az; intro Az Hz
               refine wp_ret ?_
               try dsimp only [Exit.then, Exit.inBlock]
               refine (ret1 (fn := Try.f27) Hz rfl rfl ?_)
               exact ⟨false, rfl, iff_of_false (by simp) (fun h => by obtain ⟨v1, v2, v3, v4, v5, v6, v7, v8, v9⟩ := h; have v10 := (pinspre_iff.1 v8).2 _ (getD_mem hk); have v11 := (v8 k hk).1; first | omega | (rw [lastP_pos (by omega)] at v11; omega)), m544.below⟩
              ·
               clear Hz; intro hb587 Hz
               try simp only [Q1x, Q2x, Q3x, Q4x, Q5x, Q6x, Q7x, Q8x, Q9x, Q0x, Qax, Qbx] at hb587
               refine wp_cond_false (Hz.ev (x := .tmp 107) rfl) ?_
               refine wp_skip ?_
               refine hK13 _ _ ?_; clear hK13; try clear K13
               replace Hz : Has 138 [(1, _), (3, _), (69, _)] Az := Hz.only [1, 3, 69]
               refine wp_region_lit ?_
               refine goCh Hz (.move rfl <| .add rfl rfl (r := ((k + 1 : Nat) : Int)) (by rw [IntWalk.i64_in _ (by omega)]; omega) <| .assign rfl <| .nil) ?_
               clear Hz Az; intro Az Hz
               refine wpList_nil ?_
               show ∃ n', n' < _ ∧ _
               exact ⟨pins.length - (k + 1), by omega, k + 1, _, by omega, rfl, pins_snoc hall (lastP_le (by omega) (by omega)) (by omega), Hz.only [1, 3], m544.only [9]⟩
             ·
              clear Hz; intro hb572 Hz
              try simp only [Q1x, Q2x, Q3x, Q4x, Q5x, Q6x, Q7x, Q8x, Q9x, Q0x, Qax, Qbx] at hb572
              refine goA hP497 [22, 23, 24, 25, 26, 27, 28, 29, 30, 31, 32, 33, 34, 35] 14 4194303 68719476735 Hz (m544.to ⟨il, trivial⟩) (.s <| .s <| .s <| .s <| .s <| .s <| .s <| .s <| .s <| .s <| .s <| .s <| .pickF rfl rfl <| .pickF rfl rfl <| .nil) ?_
              clear Hz Az; intro Az Hz
              refine wpAnyE_done (by kernel_rfl) ?_ _
              refine hK14 _ _ ?_; clear hK14; try clear K14
              refine wp_cond_false (Hz.ev (x := .tmp 107) rfl) ?_
              refine wp_skip ?_
              refine hK13 _ _ ?_; clear hK13; try clear K13
              replace Hz : Has 138 [(1, _), (3, _), (69, _)] Az := Hz.only [1, 3, 69]
              refine wp_region_lit ?_
              refine goCh Hz (.move rfl <| .add rfl rfl (r := ((k + 1 : Nat) : Int)) (by rw [IntWalk.i64_in _ (by omega)]; omega) <| .assign rfl <| .nil) ?_
              clear Hz Az; intro Az Hz
              refine wpList_nil ?_
              show ∃ n', n' < _ ∧ _
              exact ⟨pins.length - (k + 1), by omega, k + 1, _, by omega, rfl, pins_snoc hall (lastP_le (by omega) (by omega)) (by omega), Hz.only [1, 3], m544.only [9]⟩
          ·
           clear Hz; intro hb487 Hz
           try simp only [Q1x, Q2x, Q3x, Q4x, Q5x, Q6x, Q7x, Q8x, Q9x, Q0x, Qax, Qbx] at hb487
           obtain rfl : k = pins.length := by omega
           refine wp_cond_false (Hz.ev (x := .tmp 69) rfl) ?_
           refine wp_exit ?_
           refine hK11 _ _ ?_; clear hK11; try clear K11
           refine wp_seq_k (fun K15 hK15 => ?_)
           refine regS Hz (.assign rfl <| .nil) ?_
           clear Hz Az; intro Az Hz
           refine wp_block ?_
           refine wp_loop_ghost (fun g a w => ∃ (k B : Nat), k ≤ ws.length ∧ g = ws.length - k ∧ WrPre bl sz ws k ∧ Has 138 [(1, .pointer (some ⟨B, 0, none⟩)), (4, .int .i64 k)] a ∧ MemOk (cn w0) w0 [(9, .box B 34 [.int .i64 vo, .int .i64 bl, .int .i64 sz, .int .i64 pe, .slice pp place.length cp, .int .i64 to, .int .i64 ne, .bool hi, .int .i64 fl, .slice pn pins.length cn9, .slice pw ws.length cw])] w) (ws.length) ?_ ?_
           · exact ⟨0, _, Nat.zero_le _, rfl, (fun j hj => by omega), Hz.only [1, 4], m481.ren [(9, 9)] (by decide)⟩
           ·
            clear Hz m481
            rintro g Az w613 ⟨k, B, hkl, hg, hall2, Hz, m613⟩
            refine wp_seq_k (fun K16 hK16 => ?_)
            refine regS Hz (.move rfl <| .fieldAddr (off := 10) rfl Try.underlying34 rfl (s := 0) (by kernel_rfl) rfl <| .loadB1 m613 (i := 9) rfl rfl rfl Try.underlying32 rfl <| .len rfl Try.underlying32 <| .lss rfl rfl <| .nil) ?_
            clear Hz Az; intro Az Hz
            refine bool_cases Hz (t := 112) rfl ?_ ?_
            ·
             clear Hz; intro hb619 Hz
             try simp only [Q1x, Q2x, Q3x, Q4x, Q5x, Q6x, Q7x, Q8x, Q9x, Q0x, Qax, Qbx] at hb619
             have hk : k < ws.length := by omega
             obtain ⟨⟨xs, xl⟩, hes⟩ : ∃ e, ws[k]? = some e := ⟨_, List.getElem?_eq_getElem hk⟩
             refine wp_cond_true (Hz.ev (x := .tmp 112) rfl) ?_
             refine wp_skip ?_
             refine hK16 _ _ ?_; clear hK16; try clear K16
             refine wp_seq_k (fun K17 hK17 => ?_)
             refine wp_block ?_
             refine wp_seq_k (fun K18 hK18 => ?_)
             obtain ⟨gx621, ox621, vx621, hp621, hl621, hR621, hrg621⟩ := h2.extA (k) (r := [.v (.int .i64 xs), .l 2 (xl.map itD)]) (wrD_get hes)
             cases hp621; clear hl621
             rcases hR621 with _ | ⟨hd621_0, _ | ⟨hd621_1, _ | _⟩⟩
             obtain rfl := hd621_0.v_out
             clear hd621_0
             obtain ⟨p622, c622, hv622, hw622⟩ := hd621_1.l_shape; subst hv622
             obtain ⟨gx624, ox624, vx624, hp624, hl624, hR624, hrg624⟩ := h2.extA (k) (r := [.v (.int .i64 xs), .l 2 (xl.map itD)]) (wrD_get hes)
             cases hp624; clear hl624
             rcases hR624 with _ | ⟨hd624_0, _ | ⟨hd624_1, _ | _⟩⟩
             obtain rfl := hd624_0.v_out
             clear hd624_0
             obtain ⟨p625, c625, hv625, hw625⟩ := hd624_1.l_shape; subst hv625
             have m626 : MemOk _ _ [(9, _)] _ := m613.only [9]; clear m613
             refine region_p 23 (B := [(9, _)]) (m626.to ⟨il, trivial⟩) m626 (by kernel_rfl) (fun w627 hP627 m627 => ?_); clear m626
             refine goR hP627 [0, 1, 2, 3, 4, 5, 6, 7, 8, 9] [1, 5] 10 0 1023 Hz (m627.to ⟨il, trivial⟩) (.fieldAddr (off := 10) rfl Try.underlying34 rfl (s := 0) (by kernel_rfl) rfl <| .loadB1 hh (i := 9) rfl rfl rfl Try.underlying32 rfl <| .move rfl <| .p (fun _ _ h => y_idx h rfl rfl Try.underlying32 sz55rR (k) rfl hk) <| .fieldAddrQ 0 rfl Try.underlying55 rfl (s := 0) (by kernel_rfl) rfl <| .loadAt1 (fun _ h => (hrg621 h rfl)) (q := 0) rfl rfl rfl Try.underlying2 rfl <| .move rfl <| .add rfl rfl (r := (k : Int) + 1) (IntWalk.i64_in _ (by omega)) <| .neq rfl rfl <| .move rfl <| .nil) ?_
             clear Hz Az; intro Az Hz
             refine bool_cases Hz (t := 124) rfl ?_ ?_
             ·
              clear Hz; intro hb638 Hz
              try simp only [Q1x, Q2x, Q3x, Q4x, Q5x, Q6x, Q7x, Q8x, Q9x, Q0x, Qax, Qbx] at hb638
              refine goA hP627 [10, 11, 12, 13, 14, 15, 16, 17, 18, 19, 20, 21, 22] 13 1023 8388607 Hz (m627.to ⟨il, trivial⟩) (.s <| .s <| .s <| .s <| .s <| .s <| .s <| .s <| .s <| .s <| .s <| .s <| .pickT rfl rfl <| .nil) ?_
              clear Hz Az; intro Az Hz
              refine wpAnyE_done (by kernel_rfl) ?_ _
              refine hK18 _ _ ?_; clear hK18; try clear K18
              refine wp_cond_true (Hz.ev (x := .tmp 137) rfl) ?_
              replace Hz : Has 138 [(1, _), (4, _), (112, _)] Az := Hz.only [1, 4, 112]
              refine regS Hz (.assign rfl <| .nil) ?_
              clear Hz Az; intro Az Hz
              refine wp_ret ?_
              try dsimp only [Exit.then, Exit.inBlock]
              refine (ret1 (fn := Try.f27) Hz rfl rfl ?_)
              exact ⟨false, rfl, iff_of_false (by simp) (fun h => by obtain ⟨v1, v2, v3, v4, v5, v6, v7, v8, v9⟩ := h; have v10 := v9 k hk; rw [getW hes] at v10; first | (have v12 := v10.1; dsimp only at v12; omega) | (have v11 := hib.2 v10.2; simp_all; done)), m627.below⟩
             ·
              clear Hz; intro hb638 Hz
              try simp only [Q1x, Q2x, Q3x, Q4x, Q5x, Q6x, Q7x, Q8x, Q9x, Q0x, Qax, Qbx] at hb638
              refine goR hP627 [10, 11, 12, 13, 14, 15, 16, 17, 18, 19] [11, 13, 15, 19] 10 1023 1048575 Hz (m627.to ⟨il, trivial⟩) (.fieldAddr (off := 1) rfl Try.underlying34 rfl (s := 0) (by kernel_rfl) rfl <| .loadB1 hh (i := 9) rfl rfl rfl Try.underlying3 rfl <| .fieldAddr (off := 2) rfl Try.underlying34 rfl (s := 0) (by kernel_rfl) rfl <| .loadB1 hh (i := 9) rfl rfl rfl Try.underlying3 rfl <| .fieldAddr (off := 10) rfl Try.underlying34 rfl (s := 0) (by kernel_rfl) rfl <| .loadB1 hh (i := 9) rfl rfl rfl Try.underlying32 rfl <| .move rfl <| .p (fun _ _ h => y_idx h rfl rfl Try.underlying32 sz55rR (k) rfl hk) <| .fieldAddrQ 1 rfl Try.underlying55 rfl (s := 0) (by kernel_rfl) rfl <| .loadAt1 (fun _ h => (hrg624 h rfl)) (q := 1) rfl rfl rfl Try.underlying23 rfl <| .nil) ?_
              clear Hz Az; intro Az Hz
              refine stepE_only 20 rfl (by kernel_rfl) (wantedG Hz rfl rfl rfl rfl) (fun K hK => ?_)
              refine e_call Hz Try.func29 rfl rfl rfl rfl (ritems_any _ _ xl _ _ _ _ ((hd624_1.now' m627 rfl).any) (hwl _ (List.mem_of_getElem? hes))) ?_
              rintro e w664 ⟨ib, rfl, hib, hb664⟩
              have m665 := m627.later hb664
              clear m627
              clear hb664
              refine ⟨_, rfl, ?_⟩; clear Hz Az; intro Az Hz
              refine hK _ _ (m665.to ⟨il, trivial⟩) ?_; clear hK K
              refine goA hP627 [21, 22] 2 2097151 8388607 Hz (m665.to ⟨il, trivial⟩) (.not rfl <| .pickF rfl rfl <| .nil) ?_
              clear Hz Az; intro Az Hz
              refine wpAnyE_done (by kernel_rfl) ?_ _
              refine hK18 _ _ ?_; clear hK18; try clear K18
              refine bool_cases Hz (t := 137) rfl ?_ ?_
              ·
               clear Hz; intro hb669 Hz
               try simp only [Q1x, Q2x, Q3x, Q4x, Q5x, Q6x, Q7x, Q8x, Q9x, Q0x, Qax, Qbx] at hb669
               refine wp_cond_true (Hz.ev (x := .tmp 137) rfl) ?_
               replace Hz : Has 138 [(1, _), (4, _), (112, _)] Az := Hz.only [1, 4, 112]
               refine regS Hz (.assign rfl <| .nil) ?_
               clear Hz Az; intro Az Hz
               refine wp_ret ?_
               try dsimp only [Exit.then, Exit.inBlock]
               refine (ret1 (fn := Try.f27) Hz rfl rfl ?_)
               exact ⟨false, rfl, iff_of_false (by simp) (fun h => by obtain ⟨v1, v2, v3, v4, v5, v6, v7, v8, v9⟩ := h; have v10 := v9 k hk; rw [getW hes] at v10; first | (have v12 := v10.1; dsimp only at v12; omega) | (have v11 := hib.2 v10.2; simp_all; done)), m665.below⟩
              ·
               clear Hz; intro hb669 Hz
               try simp only [Q1x, Q2x, Q3x, Q4x, Q5x, Q6x, Q7x, Q8x, Q9x, Q0x, Qax, Qbx] at hb669
               refine wp_cond_false (Hz.ev (x := .tmp 137) rfl) ?_
               refine wp_skip ?_
               refine hK17 _ _ ?_; clear hK17; try clear K17
               replace Hz : Has 138 [(1, _), (4, _), (112, _)] Az := Hz.only [1, 4, 112]
               refine wp_region_lit ?_
               refine goCh Hz (.move rfl <| .add rfl rfl (r := ((k + 1 : Nat) : Int)) (by rw [IntWalk.i64_in _ (by omega)]; omega) <| .assign rfl <| .nil) ?_
               clear Hz Az; intro Az Hz
               refine wpList_nil ?_
               show ∃ n', n' < _ ∧ _
               exact ⟨ws.length - (k + 1), by omega, k + 1, _, by omega, rfl, wr_snoc hall2 hes (by omega) (hib.1 (by simp_all)), Hz.only [1, 4], m665.only [9]⟩
            ·
             clear Hz; intro hb619 Hz
             try simp only [Q1x, Q2x, Q3x, Q4x, Q5x, Q6x, Q7x, Q8x, Q9x, Q0x, Qax, Qbx] at hb619
             obtain rfl : k = ws.length := by omega
             refine wp_cond_false (Hz.ev (x := .tmp 112) rfl) ?_
             refine wp_exit ?_
             refine hK15 _ _ ?_; clear hK15; try clear K15
             refine regS Hz (.assign rfl <| .nil) ?_
             clear Hz Az; intro Az Hz
             refine wp_ret ?_
             try dsimp only [Exit.then, Exit.inBlock]
             refine (ret1 (fn := Try.f27) Hz rfl rfl ?_)
             exact ⟨true, rfl, iff_of_true rfl ⟨hsb.1 (by simp_all), by omega, by omega, by simp_all, by simp_all, by omega, by omega, hall, hall2⟩, m613.below⟩
    ·
     clear Hz; intro hb163 Hz
     try simp only [Q1x, Q2x, Q3x, Q4x, Q5x, Q6x, Q7x, Q8x, Q9x, Q0x, Qax, Qbx] at hb163
     refine goR hP5 [31, 32, 33, 34, 35, 36, 37, 38, 39, 40] [38] 10 2147483647 2199023255551 Hz (m20.to ⟨il, trivial⟩) (.s <| .s <| .s <| .pickF rfl rfl <| .pickF rfl rfl <| .move rfl <| .fieldAddr (off := 7) rfl Try.underlying34 rfl (s := 0) (by kernel_rfl) rfl <| .loadB1 hh (i := 20) rfl rfl rfl Try.underlying4 rfl <| .not rfl <| .move rfl <| .nil) ?_
     clear Hz Az; intro Az Hz
     refine bool_cases Hz (t := 45) rfl ?_ ?_
     ·
      clear Hz; intro hb687 Hz
      try simp only [Q1x, Q2x, Q3x, Q4x, Q5x, Q6x, Q7x, Q8x, Q9x, Q0x, Qax, Qbx] at hb687
      refine goR hP5 [41, 42, 43, 44, 45, 46, 47, 48] [42, 44] 8 2199023255551 562949953421311 Hz (m20.to ⟨il, trivial⟩) (.fieldAddr (off := 6) rfl Try.underlying34 rfl (s := 0) (by kernel_rfl) rfl <| .loadB1 hh (i := 20) rfl rfl rfl Try.underlying3 rfl <| .fieldAddr (off := 5) rfl Try.underlying34 rfl (s := 0) (by kernel_rfl) rfl <| .loadB1 hh (i := 20) rfl rfl rfl Try.underlying3 rfl <| .neq rfl rfl <| .pickT rfl rfl <| .pickF rfl rfl <| .move rfl <| .nil) ?_
      clear Hz Az; intro Az Hz
      refine bool_cases Hz (t := 53) rfl ?_ ?_
      ·
       clear Hz; intro hb696 Hz
       try simp only [Q1x, Q2x, Q3x, Q4x, Q5x, Q6x, Q7x, Q8x, Q9x, Q0x, Qax, Qbx] at hb696
       refine goA hP5 [49, 50, 51, 52, 53, 54, 55, 56, 57, 58, 59] 11 562949953421311 1152921504606846975 Hz (m20.to ⟨il, trivial⟩) (.s <| .s <| .s <| .pickT rfl rfl <| .move rfl <| .s <| .s <| .s <| .s <| .s <| .pickT rfl rfl <| .nil) ?_
       clear Hz Az; intro Az Hz
       refine wpAnyE_done (by kernel_rfl) ?_ _
       refine hK2 _ _ ?_; clear hK2; try clear K2
       refine wp_cond_true (Hz.ev (x := .tmp 64) rfl) ?_
       replace Hz : Has 138 [(1, _), (2, _)] Az := Hz.only [1, 2]
       refine regS Hz (.assign rfl <| .nil) ?_
       clear Hz Az; intro Az Hz
       refine wp_ret ?_
       try dsimp only [Exit.then, Exit.inBlock]
       refine (ret1 (fn := Try.f27) Hz rfl rfl ?_)
       exact ⟨false, rfl, iff_of_false (by simp) (fun h => by obtain ⟨v1, v2, v3, v4, v5, v6, v7, v8, v9⟩ := h; have v10 := hsb.2 v1; first | omega | (simp_all; done) | (simp_all; omega)), m20.below⟩
      ·
       clear Hz; intro hb696 Hz
       try simp only [Q1x, Q2x, Q3x, Q4x, Q5x, Q6x, Q7x, Q8x, Q9x, Q0x, Qax, Qbx] at hb696
       refine goR hP5 [49, 50, 51, 52, 53] [50] 5 562949953421311 18014398509481983 Hz (m20.to ⟨il, trivial⟩) (.fieldAddr (off := 8) rfl Try.underlying34 rfl (s := 0) (by kernel_rfl) rfl <| .loadB1 hh (i := 20) rfl rfl rfl Try.underlying2 rfl <| .lss rfl rfl <| .pickF rfl rfl <| .move rfl <| .nil) ?_
       clear Hz Az; intro Az Hz
       refine bool_cases Hz (t := 58) rfl ?_ ?_
       ·
        clear Hz; intro hb715 Hz
        try simp only [Q1x, Q2x, Q3x, Q4x, Q5x, Q6x, Q7x, Q8x, Q9x, Q0x, Qax, Qbx] at hb715
        refine goA hP5 [54, 55, 56, 57, 58, 59] 6 18014398509481983 1152921504606846975 Hz (m20.to ⟨il, trivial⟩) (.s <| .s <| .s <| .s <| .s <| .pickT rfl rfl <| .nil) ?_
        clear Hz Az; intro Az Hz
        refine wpAnyE_done (by kernel_rfl) ?_ _
        refine hK2 _ _ ?_; clear hK2; try clear K2
        refine wp_cond_true (Hz.ev (x := .tmp 64) rfl) ?_
        replace Hz : Has 138 [(1, _), (2, _)] Az := Hz.only [1, 2]
        refine regS Hz (.assign rfl <| .nil) ?_
        clear Hz Az; intro Az Hz
        refine wp_ret ?_
        try dsimp only [Exit.then, Exit.inBlock]
        refine (ret1 (fn := Try.f27) Hz rfl rfl ?_)
        exact ⟨false, rfl, iff_of_false (by simp) (fun h => by obtain ⟨v1, v2, v3, v4, v5, v6, v7, v8, v9⟩ := h; have v10 := hsb.2 v1; first | omega | (simp_all; done) | (simp_all; omega)), m20.below⟩
       ·
        clear Hz; intro hb715 Hz
        try simp only [Q1x, Q2x, Q3x, Q4x, Q5x, Q6x, Q7x, Q8x, Q9x, Q0x, Qax, Qbx] at hb715
        refine goR hP5 [54, 55, 56] [55, 56] 3 18014398509481983 144115188075855871 Hz (m20.to ⟨il, trivial⟩) (.fieldAddr (off := 8) rfl Try.underlying34 rfl (s := 0) (by kernel_rfl) rfl <| .loadB1 hh (i := 20) rfl rfl rfl Try.underlying2 rfl <| .loadBR hh (i := 20) rfl rfl Try.underlying34 rfl sz34rR (by simp) (by dsimp only [List.drop, List.take] <;> rfl) <| .nil) ?_
        clear Hz Az; intro Az Hz
        refine stepE_only 57 rfl (by kernel_rfl) (wantedG Hz rfl rfl rfl rfl) (fun K hK => ?_)
        refine e_call Hz Try.func21 rfl rfl rfl rfl (rlen_any _ _ _ _ _ _ _ _ _ _ _ _ _ _ _ _ _ _) ?_
        rintro e w727 ⟨rfl, hb727⟩
        have m728 := m20.later hb727
        clear m20
        clear hb727
        refine ⟨_, rfl, ?_⟩; clear Hz Az; intro Az Hz
        refine hK _ _ (m728.to ⟨il, trivial⟩) ?_; clear hK K
        refine goA hP5 [58, 59] 2 288230376151711743 1152921504606846975 Hz (m728.to ⟨il, trivial⟩) (.gtr rfl rfl <| .pickF rfl rfl <| .nil) ?_
        clear Hz Az; intro Az Hz
        refine wpAnyE_done (by kernel_rfl) ?_ _
        refine hK2 _ _ ?_; clear hK2; try clear K2
        refine bool_cases Hz (t := 64) rfl ?_ ?_
        ·
         clear Hz; intro hb732 Hz
         try simp only [Q1x, Q2x, Q3x, Q4x, Q5x, Q6x, Q7x, Q8x, Q9x, Q0x, Qax, Qbx] at hb732
         refine wp_cond_true (Hz.ev (x := .tmp 64) rfl) ?_
         replace Hz : Has 138 [(1, _), (2, _)] Az := Hz.only [1, 2]
         refine regS Hz (.assign rfl <| .nil) ?_
         clear Hz Az; intro Az Hz
         refine wp_ret ?_
         try dsimp only [Exit.then, Exit.inBlock]
         refine (ret1 (fn := Try.f27) Hz rfl rfl ?_)
         exact ⟨false, rfl, iff_of_false (by simp) (fun h => by obtain ⟨v1, v2, v3, v4, v5, v6, v7, v8, v9⟩ := h; have v10 := hsb.2 v1; first | omega | (simp_all; done) | (simp_all; omega)), m728.below⟩
        ·
         clear Hz; intro hb732 Hz
         try simp only [Q1x, Q2x, Q3x, Q4x, Q5x, Q6x, Q7x, Q8x, Q9x, Q0x, Qax, Qbx] at hb732
         refine wp_cond_false (Hz.ev (x := .tmp 64) rfl) ?_
         refine wp_skip ?_
         refine hK1 _ _ ?_; clear hK1; try clear K1
         refine wp_seq_k (fun K19 hK19 => ?_)
         replace Hz : Has 138 [(1, _), (2, _)] Az := Hz.only [1, 2]
         refine regS Hz (.assign rfl <| .nil) ?_
         clear Hz Az; intro Az Hz
         refine wp_block ?_
         refine wp_loop_ghost (fun g a w => ∃ (k B : Nat), k ≤ pins.length ∧ g = pins.length - k ∧ PinsPre fl ws.length pins k ∧ Has 138 [(1, .pointer (some ⟨B, 0, none⟩)), (3, .int .i64 k)] a ∧ MemOk (cn w0) w0 [(9, .box B 34 [.int .i64 vo, .int .i64 bl, .int .i64 sz, .int .i64 pe, .slice pp place.length cp, .int .i64 to, .int .i64 ne, .bool hi, .int .i64 fl, .slice pn pins.length cn9, .slice pw ws.length cw])] w) (pins.length) ?_ ?_
         · exact ⟨0, _, Nat.zero_le _, rfl, (fun j hj => by omega), Hz.only [1, 3], m728.ren [(9, 20)] (by decide)⟩
         ·
          clear Hz m728
          rintro g Az w737 ⟨k, B, hkl, hg, hall, Hz, m737⟩
          refine wp_seq_k (fun K20 hK20 => ?_)
          refine regS Hz (.move rfl <| .fieldAddr (off := 9) rfl Try.underlying34 rfl (s := 0) (by kernel_rfl) rfl <| .loadB1 m737 (i := 9) rfl rfl rfl Try.underlying31 rfl <| .len rfl Try.underlying31 <| .lss rfl rfl <| .nil) ?_
          clear Hz Az; intro Az Hz
          refine bool_cases Hz (t := 69) rfl ?_ ?_
          ·
           clear Hz; intro hb743 Hz
           try simp only [Q1x, Q2x, Q3x, Q4x, Q5x, Q6x, Q7x, Q8x, Q9x, Q0x, Qax, Qbx] at hb743
           have hk : k < pins.length := by omega
           refine wp_cond_true (Hz.ev (x := .tmp 69) rfl) ?_
           refine wp_skip ?_
           refine hK20 _ _ ?_; clear hK20; try clear K20
           refine wp_seq_k (fun K21 hK21 => ?_)
           refine wp_block ?_
           refine wp_seq_k (fun K22 hK22 => ?_)
           obtain ⟨gx745, ox745, hp745, hl745, hrg745⟩ := h1.extN (k) hk
           cases hp745; clear hl745
           obtain ⟨gx747, ox747, hp747, hl747, hrg747⟩ := h1.extN (k) hk
           cases hp747; clear hl747
           obtain ⟨gx749, ox749, hp749, hl749, hrg749⟩ := h1.extN (k) hk
           cases hp749; clear hl749
           obtain ⟨gx751, ox751, hp751, hl751, hrg751⟩ := h1.extN (k - 1) (show k - 1 < pins.length by omega)
           cases hp751; clear hl751
           have m752 : MemOk _ _ [(9, _)] _ := m737.only [9]; clear m737
           refine region_p 36 (B := [(9, _)]) (m752.to ⟨il, trivial⟩) m752 (by kernel_rfl) (fun w753 hP753 m753 => ?_); clear m752
           refine goR hP753 [0, 1, 2, 3, 4, 5, 6, 7, 8] [1, 4, 6] 9 0 511 Hz (m753.to ⟨il, trivial⟩) (.fieldAddr (off := 9) rfl Try.underlying34 rfl (s := 0) (by kernel_rfl) rfl <| .loadB1 hh (i := 9) rfl rfl rfl Try.underlying31 rfl <| .move rfl <| .p (fun _ _ h => y_idx h rfl rfl Try.underlying31 sz2rR (k) rfl hk) <| .loadAt1 (fun _ h => (hrg745 h rfl)) (q := 0) rfl rfl rfl Try.underlying2 rfl <| .fieldAddr (off := 8) rfl Try.underlying34 rfl (s := 0) (by kernel_rfl) rfl <| .loadB1 hh (i := 9) rfl rfl rfl Try.underlying2 rfl <| .lss rfl rfl <| .move rfl <| .nil) ?_
           clear Hz Az; intro Az Hz
           refine bool_cases Hz (t := 80) rfl ?_ ?_
           ·
            clear Hz; intro hb763 Hz
            try simp only [Q1x, Q2x, Q3x, Q4x, Q5x, Q6x, Q7x, Q8x, Q9x, Q0x, Qax, Qbx] at hb763
            refine goA hP753 [9, 10, 11, 12, 13, 14, 15, 16, 17, 18, 19, 20, 21, 22, 23, 24, 25, 26, 27, 28, 29, 30, 31, 32, 33, 34, 35] 27 511 68719476735 Hz (m753.to ⟨il, trivial⟩) (.s <| .s <| .s <| .s <| .s <| .s <| .s <| .s <| .pickT rfl rfl <| .move rfl <| .s <| .s <| .s <| .u <| .u <| .u <| .u <| .u <| .u <| .u <| .u <| .u <| .u <| .u <| .u <| .s <| .pickT rfl rfl <| .nil) ?_
            clear Hz Az; intro Az Hz
            refine wpAnyE_done (by kernel_rfl) ?_ _
            refine hK22 _ _ ?_; clear hK22; try clear K22
            refine wp_cond_true (Hz.ev (x := .tmp 107) rfl) ?_
            replace Hz : Has 138 [(1, _), (3, _), (69, _)] Az := Hz.only [1, 3, 69]
            refine regS Hz (.assign rfl <| .nil) ?_
            clear Hz Az; intro Az Hz
            refine wp_ret ?_
            try dsimp only [Exit.then, Exit.inBlock]
            refine (ret1 (fn := Try.f27) Hz rfl rfl ?_)
            exact ⟨false, rfl, iff_of_false (by simp) (fun h => by obtain ⟨v1, v2, v3, v4, v5, v6, v7, v8, v9⟩ := h; have v10 := (pinspre_iff.1 v8).2 _ (getD_mem hk); have v11 := (v8 k hk).1; first | omega | (rw [lastP_pos (by omega)] at v11; omega)), m753.below⟩
           ·
            clear Hz; intro hb763 Hz
            try simp only [Q1x, Q2x, Q3x, Q4x, Q5x, Q6x, Q7x, Q8x, Q9x, Q0x, Qax, Qbx] at hb763
            refine goR hP753 [9, 10, 11, 12, 13, 14] [10, 13, 14] 6 511 32767 Hz (m753.to ⟨il, trivial⟩) (.fieldAddr (off := 9) rfl Try.underlying34 rfl (s := 0) (by kernel_rfl) rfl <| .loadB1 hh (i := 9) rfl rfl rfl Try.underlying31 rfl <| .move rfl <| .p (fun _ _ h => y_idx h rfl rfl Try.underlying31 sz2rR (k) rfl hk) <| .loadAt1 (fun _ h => (hrg747 h rfl)) (q := 0) rfl rfl rfl Try.underlying2 rfl <| .loadBR hh (i := 9) rfl rfl Try.underlying34 rfl sz34rR (by simp) (by dsimp only [List.drop, List.take] <;> rfl) <| .nil) ?_
            clear Hz Az; intro Az Hz
            refine stepE_only 15 rfl (by kernel_rfl) (wantedG Hz rfl rfl rfl rfl) (fun K hK => ?_)
            refine e_call Hz Try.func21 rfl rfl rfl rfl (rlen_any _ _ _ _ _ _ _ _ _ _ _ _ _ _ _ _ _ _) ?_
            rintro e w799 ⟨rfl, hb799⟩
            have m800 := m753.later hb799
            clear m753
            clear hb799
            refine ⟨_, rfl, ?_⟩; clear Hz Az; intro Az Hz
            refine hK _ _ (m800.to ⟨il, trivial⟩) ?_; clear hK K
            refine goA hP753 [16, 17, 18] 3 65535 524287 Hz (m800.to ⟨il, trivial⟩) (.gtr rfl rfl <| .pickF rfl rfl <| .move rfl <| .nil) ?_
            clear Hz Az; intro Az Hz
            refine bool_cases Hz (t := 90) rfl ?_ ?_
            ·
             clear Hz; intro hb805 Hz
             try simp only [Q1x, Q2x, Q3x, Q4x, Q5x, Q6x, Q7x, Q8x, Q9x, Q0x, Qax, Qbx] at hb805
             refine goA hP753 [19, 20, 21, 22, 23, 24, 25, 26, 27, 28, 29, 30, 31, 32, 33, 34, 35] 17 524287 68719476735 Hz (m800.to ⟨il, trivial⟩) (.s <| .s <| .s <| .u <| .u <| .u <| .u <| .u <| .u <| .u <| .u <| .u <| .u <| .u <| .u <| .s <| .pickT rfl rfl <| .nil) ?_
             clear Hz Az; intro Az Hz
             refine wpAnyE_done (by kernel_rfl) ?_ _
             refine hK22 _ _ ?_; clear hK22; try clear K22
             refine wp_cond_true (Hz.ev (x := .tmp 107) rfl) ?_
             replace Hz : Has 138 [(1, _), (3, _), (69, _)] Az := Hz.only [1, 3, 69]
             refine regS Hz (.assign rfl <| .nil) ?_
             clear Hz Az; intro Az Hz
             refine wp_ret ?_
             try dsimp only [Exit.then, Exit.inBlock]
             refine (ret1 (fn := Try.f27) Hz rfl rfl ?_)
             exact ⟨false, rfl, iff_of_false (by simp) (fun h => by obtain ⟨v1, v2, v3, v4, v5, v6, v7, v8, v9⟩ := h; have v10 := (pinspre_iff.1 v8).2 _ (getD_mem hk); have v11 := (v8 k hk).1; first | omega | (rw [lastP_pos (by omega)] at v11; omega)), m800.below⟩
            ·
             clear Hz; intro hb805 Hz
             try simp only [Q1x, Q2x, Q3x, Q4x, Q5x, Q6x, Q7x, Q8x, Q9x, Q0x, Qax, Qbx] at hb805
             refine goA hP753 [19, 20, 21] 3 524287 4194303 Hz (m800.to ⟨il, trivial⟩) (.move rfl <| .gtr rfl rfl <| .move rfl <| .nil) ?_
             clear Hz Az; intro Az Hz
             refine bool_cases Hz (t := 93) rfl ?_ ?_
             ·
              clear Hz; intro hb828 Hz
              try simp only [Q1x, Q2x, Q3x, Q4x, Q5x, Q6x, Q7x, Q8x, Q9x, Q0x, Qax, Qbx] at hb828
              refine goR hP753 [22, 23, 24, 25, 26, 27, 28, 29, 30, 31, 32, 33, 34, 35] [23, 26, 28, 32] 14 4194303 68719476735 Hz (m800.to ⟨il, trivial⟩) (.fieldAddr (off := 9) rfl Try.underlying34 rfl (s := 0) (by kernel_rfl) rfl <| .loadB1 hh (i := 9) rfl rfl rfl Try.underlying31 rfl <| .move rfl <| .p (fun _ _ h => y_idx h rfl rfl Try.underlying31 sz2rR (k) rfl hk) <| .loadAt1 (fun _ h => (hrg749 h rfl)) (q := 0) rfl rfl rfl Try.underlying2 rfl <| .fieldAddr (off := 9) rfl Try.underlying34 rfl (s := 0) (by kernel_rfl) rfl <| .loadB1 hh (i := 9) rfl rfl rfl Try.underlying31 rfl <| .move rfl <| .sub rfl rfl (r := (k : Int) - 1) (IntWalk.i64_in _ (by omega)) <| .p (fun _ _ h => y_idx h rfl rfl Try.underlying31 sz2rR (k - 1) (by omega) (show k - 1 < pins.length by omega)) <| .loadAt1 (fun _ h => (hrg751 h rfl)) (q := 0) rfl rfl rfl Try.underlying2 rfl <| .lss rfl rfl <| .pickT rfl rfl <| .pickF rfl rfl <| .nil) ?_
              clear Hz Az; intro Az Hz
              refine wpAnyE_done (by kernel_rfl) ?_ _
              refine hK22 _ _ ?_; clear hK22; try clear K22
              refine bool_cases Hz (t := 107) rfl ?_ ?_
              ·
               clear Hz; intro hb843 Hz
               try simp only [Q1x, Q2x, Q3x, Q4x, Q5x, Q6x, Q7x, Q8x, Q9x, Q0x, Qax, Qbx] at hb843
               refine wp_cond_true (Hz.ev (x := .tmp 107) rfl) ?_
               replace Hz : Has 138 [(1, _), (3, _), (69, _)] Az := Hz.only [1, 3, 69]
               refine regS Hz (.assign rfl <| .nil) ?_
               clear Hz Az; intro Az Hz
               refine wp_ret ?_
               try dsimp only [Exit.then, Exit.inBlock]
               refine (ret1 (fn := Try.f27) Hz rfl rfl ?_)
               exact ⟨false, rfl, iff_of_false (by simp) (fun h => by obtain ⟨v1, v2, v3, v4, v5, v6, v7, v8, v9⟩ := h; have v10 := (pinspre_iff.1 v8).2 _ (getD_mem hk); have v11 := (v8 k hk).1; first | omega | (rw [lastP_pos (by omega)] at v11; omega)), m800.below⟩
              ·
               clear Hz; intro hb843 Hz
               try simp only [Q1x, Q2x, Q3x, Q4x, Q5x, Q6x, Q7x, Q8x, Q9x, Q0x, Qax, Qbx] at hb843
               refine wp_cond_false (Hz.ev (x := .tmp 107) rfl) ?_
               refine wp_skip ?_
               refine hK21 _ _ ?_; clear hK21; try clear K21
               replace Hz : Has 138 [(1, _), (3, _), (69, _)] Az := Hz.only [1, 3, 69]
               refine wp_region_lit ?_
               refine goCh Hz (.move rfl <| .add rfl rfl (r := ((k + 1 : Nat) : Int)) (by rw [IntWalk.i64_in _ (by omega)]; omega) <| .assign rfl <| .nil) ?_
               clear Hz Az; intro Az Hz
               refine wpList_nil ?_
               show ∃ n', n' < _ ∧ _
               exact ⟨pins.length - (k + 1), by omega, k + 1, _, by omega, rfl, pins_snoc hall (lastP_le (by omega) (by omega)) (by omega), Hz.only [1, 3], m800.only [9]⟩
             ·
              clear Hz; intro hb828 Hz
              try simp only [Q1x, Q2x, Q3x, Q4x, Q5x, Q6x, Q7x, Q8x, Q9x, Q0x, Qax, Qbx] at hb828
              refine goA hP753 [22, 23, 24, 25, 26, 27, 28, 29, 30, 31, 32, 33, 34, 35] 14 4194303 68719476735 Hz (m800.to ⟨il, trivial⟩) (.s <| .s <| .s <| .s <| .s <| .s <| .s <| .s <| .s <| .s <| .s <| .s <| .pickF rfl rfl <| .pickF rfl rfl <| .nil) ?_
              clear Hz Az; intro Az Hz
              refine wpAnyE_done (by kernel_rfl) ?_ _
              refine hK22 _ _ ?_; clear hK22; try clear K22
              refine wp_cond_false (Hz.ev (x := .tmp 107) rfl) ?_
              refine wp_skip ?_
              refine hK21 _ _ ?_; clear hK21; try clear K21
              replace Hz : Has 138 [(1, _), (3, _), (69, _)] Az := Hz.only [1, 3, 69]
              refine wp_region_lit ?_
              refine goCh Hz (.move rfl <| .add rfl rfl (r := ((k + 1 : Nat) : Int)) (by rw [IntWalk.i64_in _ (by omega)]; omega) <| .assign rfl <| .nil) ?_
              clear Hz Az; intro Az Hz
              refine wpList_nil ?_
              show ∃ n', n' < _ ∧ _
              exact ⟨pins.length - (k + 1), by omega, k + 1, _, by omega, rfl, pins_snoc hall (lastP_le (by omega) (by omega)) (by omega), Hz.only [1, 3], m800.only [9]⟩
          ·
           clear Hz; intro hb743 Hz
           try simp only [Q1x, Q2x, Q3x, Q4x, Q5x, Q6x, Q7x, Q8x, Q9x, Q0x, Qax, Qbx] at hb743
           obtain rfl : k = pins.length := by omega
           refine wp_cond_false (Hz.ev (x := .tmp 69) rfl) ?_
           refine wp_exit ?_
           refine hK19 _ _ ?_; clear hK19; try clear K19
           refine wp_seq_k (fun K23 hK23 => ?_)
           refine regS Hz (.assign rfl <| .nil) ?_
           clear Hz Az; intro Az Hz
           refine wp_block ?_
           refine wp_loop_ghost (fun g a w => ∃ (k B : Nat), k ≤ ws.length ∧ g = ws.length - k ∧ WrPre bl sz ws k ∧ Has 138 [(1, .pointer (some ⟨B, 0, none⟩)), (4, .int .i64 k)] a ∧ MemOk (cn w0) w0 [(9, .box B 34 [.int .i64 vo, .int .i64 bl, .int .i64 sz, .int .i64 pe, .slice pp place.length cp, .int .i64 to, .int .i64 ne, .bool hi, .int .i64 fl, .slice pn pins.length cn9, .slice pw ws.length cw])] w) (ws.length) ?_ ?_
           · exact ⟨0, _, Nat.zero_le _, rfl, (fun j hj => by omega), Hz.only [1, 4], m737.ren [(9, 9)] (by decide)⟩
           ·
            clear Hz m737
            rintro g Az w869 ⟨k, B, hkl, hg, hall2, Hz, m869⟩
            refine wp_seq_k (fun K24 hK24 => ?_)
            refine regS Hz (.move rfl <| .fieldAddr (off := 10) rfl Try.underlying34 rfl (s := 0) (by kernel_rfl) rfl <| .loadB1 m869 (i := 9) rfl rfl rfl Try.underlying32 rfl <| .len rfl Try.underlying32 <| .lss rfl rfl <| .nil) ?_
            clear Hz Az; intro Az Hz
            refine bool_cases Hz (t := 112) rfl ?_ ?_
            ·
             clear Hz; intro hb875 Hz
             try simp only [Q1x, Q2x, Q3x, Q4x, Q5x, Q6x, Q7x, Q8x, Q9x, Q0x, Qax, Qbx] at hb875
             have hk : k < ws.length := by omega
             obtain ⟨⟨xs, xl⟩, hes⟩ : ∃ e, ws[k]? = some e := ⟨_, List.getElem?_eq_getElem hk⟩
             refine wp_cond_true (Hz.ev (x := .tmp 112) rfl) ?_
             refine wp_skip ?_
             refine hK24 _ _ ?_; clear hK24; try clear K24
             refine wp_seq_k (fun K25 hK25 => ?_)
             refine wp_block ?_
             refine wp_seq_k (fun K26 hK26 => ?_)
             obtain ⟨gx877, ox877, vx877, hp877, hl877, hR877, hrg877⟩ := h2.extA (k) (r := [.v (.int .i64 xs), .l 2 (xl.map itD)]) (wrD_get hes)
             cases hp877; clear hl877
             rcases hR877 with _ | ⟨hd877_0, _ | ⟨hd877_1, _ | _⟩⟩
             obtain rfl := hd877_0.v_out
             clear hd877_0
             obtain ⟨p878, c878, hv878, hw878⟩ := hd877_1.l_shape; subst hv878
             obtain ⟨gx880, ox880, vx880, hp880, hl880, hR880, hrg880⟩ := h2.extA (k) (r := [.v (.int .i64 xs), .l 2 (xl.map itD)]) (wrD_get hes)
             cases hp880; clear hl880
             rcases hR880 with _ | ⟨hd880_0, _ | ⟨hd880_1, _ | _⟩⟩
             obtain rfl := hd880_0.v_out
             clear hd880_0
             obtain ⟨p881, c881, hv881, hw881⟩ := hd880_1.l_shape; subst hv881
             have m882 : MemOk _ _ [(9, _)] _ := m869.only [9]; clear m869
             refine region_p 23 (B := [(9, _)]) (m882.to ⟨il, trivial⟩) m882 (by kernel_rfl) (fun w883 hP883 m883 => ?_); clear m882
             refine goR hP883 [0, 1, 2, 3, 4, 5, 6, 7, 8, 9] [1, 5] 10 0 1023 Hz (m883.to ⟨il, trivial⟩) (.fieldAddr (off := 10) rfl Try.underlying34 rfl (s := 0) (by kernel_rfl) rfl <| .loadB1 hh (i := 9) rfl rfl rfl Try.underlying32 rfl <| .move rfl <| .p (fun _ _ h => y_idx h rfl rfl Try.underlying32 sz55rR (k) rfl hk) <| .fieldAddrQ 0 rfl Try.underlying55 rfl (s := 0) (by kernel_rfl) rfl <| .loadAt1 (fun _ h => (hrg877 h rfl)) (q := 0) rfl rfl rfl Try.underlying2 rfl <| .move rfl <| .add rfl rfl (r := (k : Int) + 1) (IntWalk.i64_in _ (by omega)) <| .neq rfl rfl <| .move rfl <| .nil) ?_
             clear Hz Az; intro Az Hz
             refine bool_cases Hz (t := 124) rfl ?_ ?_
             ·
              clear Hz; intro hb894 Hz
              try simp only [Q1x, Q2x, Q3x, Q4x, Q5x, Q6x, Q7x, Q8x, Q9x, Q0x, Qax, Qbx] at hb894
              refine goA hP883 [10, 11, 12, 13, 14, 15, 16, 17, 18, 19, 20, 21, 22] 13 1023 8388607 Hz (m883.to ⟨il, trivial⟩) (.s <| .s <| .s <| .s <| .s <| .s <| .s <| .s <| .s <| .s <| .s <| .s <| .pickT rfl rfl <| .nil) ?_
              clear Hz Az; intro Az Hz
              refine wpAnyE_done (by kernel_rfl) ?_ _
              refine hK26 _ _ ?_; clear hK26; try clear K26
              refine wp_cond_true (Hz.ev (x := .tmp 137) rfl) ?_
              replace Hz : Has 138 [(1, _), (4, _), (112, _)] Az := Hz.only [1, 4, 112]
              refine regS Hz (.assign rfl <| .nil) ?_
              clear Hz Az; intro Az Hz
              refine wp_ret ?_
              try dsimp only [Exit.then, Exit.inBlock]
              refine (ret1 (fn := Try.f27) Hz rfl rfl ?_)
              exact ⟨false, rfl, iff_of_false (by simp) (fun h => by obtain ⟨v1, v2, v3, v4, v5, v6, v7, v8, v9⟩ := h; have v10 := v9 k hk; rw [getW hes] at v10; first | (have v12 := v10.1; dsimp only at v12; omega) | (have v11 := hib.2 v10.2; simp_all; done)), m883.below⟩
             ·
              clear Hz; intro hb894 Hz
              try simp only [Q1x, Q2x, Q3x, Q4x, Q5x, Q6x, Q7x, Q8x, Q9x, Q0x, Qax, Qbx] at hb894
              refine goR hP883 [10, 11, 12, 13, 14, 15, 16, 17, 18, 19] [11, 13, 15, 19] 10 1023 1048575 Hz (m883.to ⟨il, trivial⟩) (.fieldAddr (off := 1) rfl Try.underlying34 rfl (s := 0) (by kernel_rfl) rfl <| .loadB1 hh (i := 9) rfl rfl rfl Try.underlying3 rfl <| .fieldAddr (off := 2) rfl Try.underlying34 rfl (s := 0) (by kernel_rfl) rfl <| .loadB1 hh (i := 9) rfl rfl rfl Try.underlying3 rfl <| .fieldAddr (off := 10) rfl Try.underlying34 rfl (s := 0) (by kernel_rfl) rfl <| .loadB1 hh (i := 9) rfl rfl rfl Try.underlying32 rfl <| .move rfl <| .p (fun _ _ h => y_idx h rfl rfl Try.underlying32 sz55rR (k) rfl hk) <| .fieldAddrQ 1 rfl Try.underlying55 rfl (s := 0) (by kernel_rfl) rfl <| .loadAt1 (fun _ h => (hrg880 h rfl)) (q := 1) rfl rfl rfl Try.underlying23 rfl <| .nil) ?_
              clear Hz Az; intro Az Hz
              refine stepE_only 20 rfl (by kernel_rfl) (wantedG Hz rfl rfl rfl rfl) (fun K hK => ?_)
              refine e_call Hz Try.func29 rfl rfl rfl rfl (ritems_any _ _ xl _ _ _ _ ((hd880_1.now' m883 rfl).any) (hwl _ (List.mem_of_getElem? hes))) ?_
              rintro e w920 ⟨ib, rfl, hib, hb920⟩
              have m921 := m883.later hb920
              clear m883
              clear hb920
              refine ⟨_, rfl, ?_⟩; clear Hz Az; intro Az Hz
              refine hK _ _ (m921.to ⟨il, trivial⟩) ?_; clear hK K
              refine goA hP883 [21, 22] 2 2097151 8388607 Hz (m921.to ⟨il, trivial⟩) (.not rfl <| .pickF rfl rfl <| .nil) ?_
              clear Hz Az; intro Az Hz
              refine wpAnyE_done (by kernel_rfl) ?_ _
              refine hK26 _ _ ?_; clear hK26; try clear K26
              refine bool_cases Hz (t := 137) rfl ?_ ?_
              ·
               clear Hz; intro hb925 Hz
               try simp only [Q1x, Q2x, Q3x, Q4x, Q5x, Q6x, Q7x, Q8x, Q9x, Q0x, Qax, Qbx] at hb925
               refine wp_cond_true (Hz.ev (x := .tmp 137) rfl) ?_
               replace Hz : Has 138 [(1, _), (4, _), (112, _)] Az := Hz.only [1, 4, 112]
               refine regS Hz (.assign rfl <| .nil) ?_
               clear Hz Az; intro Az Hz
               refine wp_ret ?_
               try dsimp only [Exit.then, Exit.inBlock]
               refine (ret1 (fn := Try.f27) Hz rfl rfl ?_)
               exact ⟨false, rfl, iff_of_false (by simp) (fun h => by obtain ⟨v1, v2, v3, v4, v5, v6, v7, v8, v9⟩ := h; have v10 := v9 k hk; rw [getW hes] at v10; first | (have v12 := v10.1; dsimp only at v12; omega) | (have v11 := hib.2 v10.2; simp_all; done)), m921.below⟩
              ·
               clear Hz; intro hb925 Hz
               try simp only [Q1x, Q2x, Q3x, Q4x, Q5x, Q6x, Q7x, Q8x, Q9x, Q0x, Qax, Qbx] at hb925
               refine wp_cond_false (Hz.ev (x := .tmp 137) rfl) ?_
               refine wp_skip ?_
               refine hK25 _ _ ?_; clear hK25; try clear K25
               replace Hz : Has 138 [(1, _), (4, _), (112, _)] Az := Hz.only [1, 4, 112]
               refine wp_region_lit ?_
               refine goCh Hz (.move rfl <| .add rfl rfl (r := ((k + 1 : Nat) : Int)) (by rw [IntWalk.i64_in _ (by omega)]; omega) <| .assign rfl <| .nil) ?_
               clear Hz Az; intro Az Hz
               refine wpList_nil ?_
               show ∃ n', n' < _ ∧ _
               exact ⟨ws.length - (k + 1), by omega, k + 1, _, by omega, rfl, wr_snoc hall2 hes (by omega) (hib.1 (by simp_all)), Hz.only [1, 4], m921.only [9]⟩
            ·
             clear Hz; intro hb875 Hz
             try simp only [Q1x, Q2x, Q3x, Q4x, Q5x, Q6x, Q7x, Q8x, Q9x, Q0x, Qax, Qbx] at hb875
             obtain rfl : k = ws.length := by omega
             refine wp_cond_false (Hz.ev (x := .tmp 112) rfl) ?_
             refine wp_exit ?_
             refine hK23 _ _ ?_; clear hK23; try clear K23
             refine regS Hz (.assign rfl <| .nil) ?_
             clear Hz Az; intro Az Hz
             refine wp_ret ?_
             try dsimp only [Exit.then, Exit.inBlock]
             refine (ret1 (fn := Try.f27) Hz rfl rfl ?_)
             exact ⟨true, rfl, iff_of_true rfl ⟨hsb.1 (by simp_all), by omega, by omega, by simp_all, by simp_all, by omega, by omega, hall, hall2⟩, m869.below⟩
     ·
      clear Hz; intro hb687 Hz
      try simp only [Q1x, Q2x, Q3x, Q4x, Q5x, Q6x, Q7x, Q8x, Q9x, Q0x, Qax, Qbx] at hb687
      refine goR hP5 [41, 42, 43, 44, 45, 46, 47, 48, 49, 50, 51, 52, 53] [50] 13 2199023255551 18014398509481983 Hz (m20.to ⟨il, trivial⟩) (.s <| .s <| .s <| .s <| .s <| .pickF rfl rfl <| .pickF rfl rfl <| .move rfl <| .fieldAddr (off := 8) rfl Try.underlying34 rfl (s := 0) (by kernel_rfl) rfl <| .loadB1 hh (i := 20) rfl rfl rfl Try.underlying2 rfl <| .lss rfl rfl <| .pickF rfl rfl <| .move rfl <| .nil) ?_
      clear Hz Az; intro Az Hz
      refine bool_cases Hz (t := 58) rfl ?_ ?_
      ·
       clear Hz; intro hb946 Hz
       try simp only [Q1x, Q2x, Q3x, Q4x, Q5x, Q6x, Q7x, Q8x, Q9x, Q0x, Qax, Qbx] at hb946
       refine goA hP5 [54, 55, 56, 57, 58, 59] 6 18014398509481983 1152921504606846975 Hz (m20.to ⟨il, trivial⟩) (.s <| .s <| .s <| .s <| .s <| .pickT rfl rfl <| .nil) ?_
       clear Hz Az; intro Az Hz
       refine wpAnyE_done (by kernel_rfl) ?_ _
       refine hK2 _ _ ?_; clear hK2; try clear K2
       refine wp_cond_true (Hz.ev (x := .tmp 64) rfl) ?_
       replace Hz : Has 138 [(1, _), (2, _)] Az := Hz.only [1, 2]
       refine regS Hz (.assign rfl <| .nil) ?_
       clear Hz Az; intro Az Hz
       refine wp_ret ?_
       try dsimp only [Exit.then, Exit.inBlock]
       refine (ret1 (fn := Try.f27) Hz rfl rfl ?_)
       exact ⟨false, rfl, iff_of_false (by simp) (fun h => by obtain ⟨v1, v2, v3, v4, v5, v6, v7, v8, v9⟩ := h; have v10 := hsb.2 v1; first | omega | (simp_all; done) | (simp_all; omega)), m20.below⟩
      ·
       clear Hz; intro hb946 Hz
       try simp only [Q1x, Q2x, Q3x, Q4x, Q5x, Q6x, Q7x, Q8x, Q9x, Q0x, Qax, Qbx] at hb946
       refine goR hP5 [54, 55, 56] [55, 56] 3 18014398509481983 144115188075855871 Hz (m20.to ⟨il, trivial⟩) (.fieldAddr (off := 8) rfl Try.underlying34 rfl (s := 0) (by kernel_rfl) rfl <| .loadB1 hh (i := 20) rfl rfl rfl Try.underlying2 rfl <| .loadBR hh (i := 20) rfl rfl Try.underlying34 rfl sz34rR (by simp) (by dsimp only [List.drop, List.take] <;> rfl) <| .nil) ?_
       clear Hz Az; intro Az Hz
       refine stepE_only 57 rfl (by kernel_rfl) (wantedG Hz rfl rfl rfl rfl) (fun K hK => ?_)
       refine e_call Hz Try.func21 rfl rfl rfl rfl (rlen_any _ _ _ _ _ _ _ _ _ _ _ _ _ _ _ _ _ _) ?_
       rintro e w958 ⟨rfl, hb958⟩
       have m959 := m20.later hb958
       clear m20
       clear hb958
       refine ⟨_, rfl, ?_⟩; clear Hz Az; intro Az Hz
       refine hK _ _ (m959.to ⟨il, trivial⟩) ?_; clear hK K
       refine goA hP5 [58, 59] 2 288230376151711743 1152921504606846975 Hz (m959.to ⟨il, trivial⟩) (.gtr rfl rfl <| .pickF rfl rfl <| .nil) ?_
       clear Hz Az; intro Az Hz
       refine wpAnyE_done (by kernel_rfl) ?_ _
       refine hK2 _ _ ?_; clear hK2; try clear K2
       refine bool_cases Hz (t := 64) rfl ?_ ?_
       ·
        clear Hz; intro hb963 Hz
        try simp only [Q1x, Q2x, Q3x, Q4x, Q5x, Q6x, Q7x, Q8x, Q9x, Q0x, Qax, Qbx] at hb963
        refine wp_cond_true (Hz.ev (x := .tmp 64) rfl) ?_
        replace Hz : Has 138 [(1, _), (2, _)] Az := Hz.only [1, 2]
        refine regS Hz (.assign rfl <| .nil) ?_
        clear Hz Az; intro Az Hz
        refine wp_ret ?_
        try dsimp only [Exit.then, Exit.inBlock]
        refine (ret1 (fn := Try.f27) Hz rfl rfl ?_)
        exact ⟨false, rfl, iff_of_false (by simp) (fun h => by obtain ⟨v1, v2, v3, v4, v5, v6, v7, v8, v9⟩ := h; have v10 := hsb.2 v1; first | omega | (simp_all; done) | (simp_all; omega)), m959.below⟩
       ·
        clear Hz; intro hb963 Hz
        try simp only [Q1x, Q2x, Q3x, Q4x, Q5x, Q6x, Q7x, Q8x, Q9x, Q0x, Qax, Qbx] at hb963
        refine wp_cond_false (Hz.ev (x := .tmp 64) rfl) ?_
        refine wp_skip ?_
        refine hK1 _ _ ?_; clear hK1; try clear K1
        refine wp_seq_k (fun K27 hK27 => ?_)
        replace Hz : Has 138 [(1, _), (2, _)] Az := Hz.only [1, 2]
        refine regS Hz (.assign rfl <| .nil) ?_
        clear Hz Az; intro Az Hz
        refine wp_block ?_
        refine wp_loop_ghost (fun g a w => ∃ (k B : Nat), k ≤ pins.length ∧ g = pins.length - k ∧ PinsPre fl ws.length pins k ∧ Has 138 [(1, .pointer (some ⟨B, 0, none⟩)), (3, .int .i64 k)] a ∧ MemOk (cn w0) w0 [(9, .box B 34 [.int .i64 vo, .int .i64 bl, .int .i64 sz, .int .i64 pe, .slice pp place.length cp, .int .i64 to, .int .i64 ne, .bool hi, .int .i64 fl, .slice pn pins.length cn9, .slice pw ws.length cw])] w) (pins.length) ?_ ?_
        · exact ⟨0, _, Nat.zero_le _, rfl, (fun j hj => by omega), Hz.only [1, 3], m959.ren [(9, 20)] (by decide)⟩
        ·
         clear Hz m959
         rintro g Az w968 ⟨k, B, hkl, hg, hall, Hz, m968⟩
         refine wp_seq_k (fun K28 hK28 => ?_)
         refine regS Hz (.move rfl <| .fieldAddr (off := 9) rfl Try.underlying34 rfl (s := 0) (by kernel_rfl) rfl <| .loadB1 m968 (i := 9) rfl rfl rfl Try.underlying31 rfl <| .len rfl Try.underlying31 <| .lss rfl rfl <| .nil) ?_
         clear Hz Az; intro Az Hz
         refine bool_cases Hz (t := 69) rfl ?_ ?_
         ·
          clear Hz; intro hb974 Hz
          try simp only [Q1x, Q2x, Q3x, Q4x, Q5x, Q6x, Q7x, Q8x, Q9x, Q0x, Qax, Qbx] at hb974
          have hk : k < pins.length := by omega
          refine wp_cond_true (Hz.ev (x := .tmp 69) rfl) ?_
          refine wp_skip ?_
          refine hK28 _ _ ?_; clear hK28; try clear K28
          refine wp_seq_k (fun K29 hK29 => ?_)
          refine wp_block ?_
          refine wp_seq_k (fun K30 hK30 => ?_)
          obtain ⟨gx976, ox976, hp976, hl976, hrg976⟩ := h1.extN (k) hk
          cases hp976; clear hl976
          obtain ⟨gx978, ox978, hp978, hl978, hrg978⟩ := h1.extN (k) hk
          cases hp978; clear hl978
          obtain ⟨gx980, ox980, hp980, hl980, hrg980⟩ := h1.extN (k) hk
          cases hp980; clear hl980
          obtain ⟨gx982, ox982, hp982, hl982, hrg982⟩ := h1.extN (k - 1) (show k - 1 < pins.length by omega)
          cases hp982; clear hl982
          have m983 : MemOk _ _ [(9, _)] _ := m968.only [9]; clear m968
          refine region_p 36 (B := [(9, _)]) (m983.to ⟨il, trivial⟩) m983 (by kernel_rfl) (fun w984 hP984 m984 => ?_); clear m983
          refine goR hP984 [0, 1, 2, 3, 4, 5, 6, 7, 8] [1, 4, 6] 9 0 511 Hz (m984.to ⟨il, trivial⟩) (.fieldAddr (off := 9) rfl Try.underlying34 rfl (s := 0) (by kernel_rfl) rfl <| .loadB1 hh (i := 9) rfl rfl rfl Try.underlying31 rfl <| .move rfl <| .p (fun _ _ h => y_idx h rfl rfl Try.underlying31 sz2rR (k) rfl hk) <| .loadAt1 (fun _ h => (hrg976 h rfl)) (q := 0) rfl rfl rfl Try.underlying2 rfl <| .fieldAddr (off := 8) rfl Try.underlying34 rfl (s := 0) (by kernel_rfl) rfl <| .loadB1 hh (i := 9) rfl rfl rfl Try.underlying2 rfl <| .lss rfl rfl <| .move rfl <| .nil) ?_
          clear Hz Az; intro Az Hz
          refine bool_cases Hz (t := 80) rfl ?_ ?_
          ·
           clear Hz; intro hb994 Hz
           try simp only [Q1x, Q2x, Q3x, Q4x, Q5x, Q6x, Q7x, Q8x, Q9x, Q0x, Qax, Qbx] at hb994
           refine goA hP984 [9, 10, 11, 12, 13, 14, 15, 16, 17, 18, 19, 20, 21, 22, 23, 24, 25, 26, 27, 28, 29, 30, 31, 32, 33, 34, 35] 27 511 68719476735 Hz (m984.to ⟨il, trivial⟩) (.s <| .s <| .s <| .s <| .s <| .s <| .s <| .s <| .pickT rfl rfl <| .move rfl <| .s <| .s <| .s <| .u <| .u <| .u <| .u <| .u <| .u <| .u <| .u <| .u <| .u <| .u <| .u <| .s <| .pickT rfl rfl <| .nil) ?_
           clear Hz Az; intro Az Hz
           refine wpAnyE_done (by kernel_rfl) ?_ _
           refine hK30 _ _ ?_; clear hK30; try clear K30
           refine wp_cond_true (Hz.ev (x := .tmp 107) rfl) ?_
           replace Hz : Has 138 [(1, _), (3, _), (69, _)] Az := Hz.only [1, 3, 69]
           refine regS Hz (.assign rfl <| .nil) ?_
           clear Hz Az; intro Az Hz
           refine wp_ret ?_
           try dsimp only [Exit.then, Exit.inBlock]
           refine (ret1 (fn := Try.f27) Hz rfl rfl ?_)
           exact ⟨false, rfl, iff_of_false (by simp) (fun h => by obtain ⟨v1, v2, v3, v4, v5, v6, v7, v8, v9⟩ := h; have v10 := (pinspre_iff.1 v8).2 _ (getD_mem hk); have v11 := (v8 k hk).1; first | omega | (rw [lastP_pos (by omega)] at v11; omega)), m984.below⟩
          ·
           clear Hz; intro hb994 Hz
           try simp only [Q1x, Q2x, Q3x, Q4x, Q5x, Q6x, Q7x, Q8x, Q9x, Q0x, Qax, Qbx] at hb994
           refine goR hP984 [9, 10, 11, 12, 13, 14] [10, 13, 14] 6 511 32767 Hz (m984.to ⟨il, trivial⟩) (.fieldAddr (off := 9) rfl Try.underlying34 rfl (s := 0) (by kernel_rfl) rfl <| .loadB1 hh (i := 9) rfl rfl rfl Try.underlying31 rfl <| .move rfl <| .p (fun _ _ h => y_idx h rfl rfl Try.underlying31 sz2rR (k) rfl hk) <| .loadAt1 (fun _ h => (hrg978 h rfl)) (q := 0) rfl rfl rfl Try.underlying2 rfl <| .loadBR hh (i := 9) rfl rfl Try.underlying34 rfl sz34rR (by simp) (by dsimp only [List.drop, List.take] <;> rfl) <| .nil) ?_
           clear Hz Az; intro Az Hz
           refine stepE_only 15 rfl (by kernel_rfl) (wantedG Hz rfl rfl rfl rfl) (fun K hK => ?_)
           refine e_call Hz Try.func21 rfl rfl rfl rfl (rlen_any _ _ _ _ _ _ _ _ _ _ _ _ _ _ _ _ _ _) ?_
           rintro e w1030 ⟨rfl, hb1030⟩
           have m1031 := m984.later hb1030
           clear m984
           clear hb1030
           refine ⟨_, rfl, ?_⟩; clear Hz Az; intro Az Hz
           refine hK _ _ (m1031.to ⟨il, trivial⟩) ?_; clear hK K
           refine goA hP984 [16, 17, 18] 3 65535 524287 Hz (m1031.to ⟨il, trivial⟩) (.gtr rfl rfl <| .pickF rfl rfl <| .move rfl <| .nil) ?_
           clear Hz Az; intro Az Hz
           refine bool_cases Hz (t := 90) rfl ?_ ?_
           ·
            clear Hz; intro hb1036 Hz
            try simp only [Q1x, Q2x, Q3x, Q4x, Q5x, Q6x, Q7x, Q8x, Q9x, Q0x, Qax, Qbx] at hb1036
            refine goA hP984 [19, 20, 21, 22, 23, 24, 25, 26, 27, 28, 29, 30, 31, 32, 33, 34, 35] 17 524287 68719476735 Hz (m1031.to ⟨il, trivial⟩) (.s <| .s <| .s <| .u <| .u <| .u <| .u <| .u <| .u <| .u <| .u <| .u <| .u <| .u <| .u <| .s <| .pickT rfl rfl <| .nil) ?_
            clear Hz Az; intro Az Hz
            refine wpAnyE_done (by kernel_rfl) ?_ _
            refine hK30 _ _ ?_; clear hK30; try clear K30
            refine wp_cond_true (Hz.ev (x := .tmp 107) rfl) ?_
            replace Hz : Has 138 [(1, _), (3, _), (69, _)] Az := Hz.only [1, 3, 69]
            refine regS Hz (.assign rfl <| .nil) ?_
            clear Hz Az; intro Az Hz
            refine wp_ret ?_
            try dsimp only [Exit.then, Exit.inBlock]
            refine (ret1 (fn := Try.f27) Hz rfl rfl ?_)
            exact ⟨false, rfl, iff_of_false (by simp) (fun h => by obtain ⟨v1, v2, v3, v4, v5, v6, v7, v8, v9⟩ := h; have v10 := (pinspre_iff.1 v8).2 _ (getD_mem hk); have v11 := (v8 k hk).1; first | omega | (rw [lastP_pos (by omega)] at v11; omega)), m1031.below⟩
           ·
            clear Hz; intro hb1036 Hz
            try simp only [Q1x, Q2x, Q3x, Q4x, Q5x, Q6x, Q7x, Q8x, Q9x, Q0x, Qax, Qbx] at hb1036
            refine goA hP984 [19, 20, 21] 3 524287 4194303 Hz (m1031.to ⟨il, trivial⟩) (.move rfl <| .gtr rfl rfl <| .move rfl <| .nil) ?_
            clear Hz Az; intro Az Hz
            refine bool_cases Hz (t := 93) rfl ?_ ?_
            ·
             clear Hz; intro hb1059 Hz
             try simp only [Q1x, Q2x, Q3x, Q4x, Q5x, Q6x, Q7x, Q8x, Q9x, Q0x, Qax, Qbx] at hb1059
             refine goR hP984 [22, 23, 24, 25, 26, 27, 28, 29, 30, 31, 32, 33, 34, 35] [23, 26, 28, 32] 14 4194303 68719476735 Hz (m1031.to ⟨il, trivial⟩) (.fieldAddr (off := 9) rfl Try.underlying34 rfl (s := 0) (by kernel_rfl) rfl <| .loadB1 hh (i := 9) rfl rfl rfl Try.underlying31 rfl <| .move rfl <| .p (fun _ _ h => y_idx h rfl rfl Try.underlying31 sz2rR (k) rfl hk) <| .loadAt1 (fun _ h => (hrg980 h rfl)) (q := 0) rfl rfl rfl Try.underlying2 rfl <| .fieldAddr (off := 9) rfl Try.underlying34 rfl (s := 0) (by kernel_rfl) rfl <| .loadB1 hh (i := 9) rfl rfl rfl Try.underlying31 rfl <| .move rfl <| .sub rfl rfl (r := (k : Int) - 1) (IntWalk.i64_in _ (by omega)) <| .p (fun _ _ h => y_idx h rfl rfl Try.underlying31 sz2rR (k - 1) (by omega) (show k - 1 < pins.length by omega)) <| .loadAt1 (fun _ h => (hrg982 h rfl)) (q := 0) rfl rfl rfl Try.underlying2 rfl <| .lss rfl rfl <| .pickT rfl rfl <| .pickF rfl rfl <| .nil) ?_
             clear Hz Az; intro Az Hz
             refine wpAnyE_done (by kernel_rfl) ?_ _
             refine hK30 _ _ ?_; clear hK30; try clear K30
             refine bool_cases Hz (t := 107) rfl ?_ ?_
             ·
              clear Hz; intro hb1074 Hz
              try simp only [Q1x, Q2x, Q3x, Q4x, Q5x, Q6x, Q7x, Q8x, Q9x, Q0x, Qax, Qbx] at hb1074
              refine wp_cond_true (Hz.ev (x := .tmp 107) rfl) ?_
              replace Hz : Has 138 [(1, _), (3, _), (69, _)] Az := Hz.only [1, 3, 69]
              refine regS Hz (.assign rfl <| .nil) ?_
              clear Hz Az; intro Az Hz
              refine wp_ret ?_
              try dsimp only [Exit.then, Exit.inBlock]
              refine (ret1 (fn := Try.f27) Hz rfl rfl ?_)
              exact ⟨false, rfl, iff_of_false (by simp) (fun h => by obtain ⟨v1, v2, v3, v4, v5, v6, v7, v8, v9⟩ := h; have v10 := (pinspre_iff.1 v8).2 _ (getD_mem hk); have v11 := (v8 k hk).1; first | omega | (rw [lastP_pos (by omega)] at v11; omega)), m1031.below⟩
             ·
              clear Hz; intro hb1074 Hz
              try simp only [Q1x, Q2x, Q3x, Q4x, Q5x, Q6x, Q7x, Q8x, Q9x, Q0x, Qax, Qbx] at hb1074
              refine wp_cond_false (Hz.ev (x := .tmp 107) rfl) ?_
              refine wp_skip ?_
              refine hK29 _ _ ?_; clear hK29; try clear K29
              replace Hz : Has 138 [(1, _), (3, _), (69, _)] Az := Hz.only [1, 3, 69]
              refine wp_region_lit ?_
              refine goCh Hz (.move rfl <| .add rfl rfl (r := ((k + 1 : Nat) : Int)) (by rw [IntWalk.i64_in _ (by omega)]; omega) <| .assign rfl <| .nil) ?_
              clear Hz Az; intro Az Hz
              refine wpList_nil ?_
              show ∃ n', n' < _ ∧ _
              exact ⟨pins.length - (k + 1), by omega, k + 1, _, by omega, rfl, pins_snoc hall (lastP_le (by omega) (by omega)) (by omega), Hz.only [1, 3], m1031.only [9]⟩
            ·
             clear Hz; intro hb1059 Hz
             try simp only [Q1x, Q2x, Q3x, Q4x, Q5x, Q6x, Q7x, Q8x, Q9x, Q0x, Qax, Qbx] at hb1059
             refine goA hP984 [22, 23, 24, 25, 26, 27, 28, 29, 30, 31, 32, 33, 34, 35] 14 4194303 68719476735 Hz (m1031.to ⟨il, trivial⟩) (.s <| .s <| .s <| .s <| .s <| .s <| .s <| .s <| .s <| .s <| .s <| .s <| .pickF rfl rfl <| .pickF rfl rfl <| .nil) ?_
             clear Hz Az; intro Az Hz
             refine wpAnyE_done (by kernel_rfl) ?_ _
             refine hK30 _ _ ?_; clear hK30; try clear K30
             refine wp_cond_false (Hz.ev (x := .tmp 107) rfl) ?_
             refine wp_skip ?_
             refine hK29 _ _ ?_; clear hK29; try clear K29
             replace Hz : Has 138 [(1, _), (3, _), (69, _)] Az := Hz.only [1, 3, 69]
             refine wp_region_lit ?_
             refine goCh Hz (.move rfl <| .add rfl rfl (r := ((k + 1 : Nat) : Int)) (by rw [IntWalk.i64_in _ (by omega)]; omega) <| .assign rfl <| .nil) ?_
             clear Hz Az; intro Az Hz
             refine wpList_nil ?_
             show ∃ n', n' < _ ∧ _
             exact ⟨pins.length - (k + 1), by omega, k + 1, _, by omega, rfl, pins_snoc hall (lastP_le (by omega) (by omega)) (by omega), Hz.only [1, 3], m1031.only [9]⟩
         ·
          clear Hz; intro hb974 Hz
          try simp only [Q1x, Q2x, Q3x, Q4x, Q5x, Q6x, Q7x, Q8x, Q9x, Q0x, Qax, Qbx] at hb974
          obtain rfl : k = pins.length := by omega
          refine wp_cond_false (Hz.ev (x := .tmp 69) rfl) ?_
          refine wp_exit ?_
          refine hK27 _ _ ?_; clear hK27; try clear K27
          refine wp_seq_k (fun K31 hK31 => ?_)
          refine regS Hz (.assign rfl <| .nil) ?_
          clear Hz Az; intro Az Hz
          refine wp_block ?_
          refine wp_loop_ghost (fun g a w => ∃ (k B : Nat), k ≤ ws.length ∧ g = ws.length - k ∧ WrPre bl sz ws k ∧ Has 138 [(1, .pointer (some ⟨B, 0, none⟩)), (4, .int .i64 k)] a ∧ MemOk (cn w0) w0 [(9, .box B 34 [.int .i64 vo, .int .i64 bl, .int .i64 sz, .int .i64 pe, .slice pp place.length cp, .int .i64 to, .int .i64 ne, .bool hi, .int .i64 fl, .slice pn pins.length cn9, .slice pw ws.length cw])] w) (ws.length) ?_ ?_
          · exact ⟨0, _, Nat.zero_le _, rfl, (fun j hj => by omega), Hz.only [1, 4], m968.ren [(9, 9)] (by decide)⟩
          ·
           clear Hz m968
           rintro g Az w1100 ⟨k, B, hkl, hg, hall2, Hz, m1100⟩
           refine wp_seq_k (fun K32 hK32 => ?_)
           refine regS Hz (.move rfl <| .fieldAddr (off := 10) rfl Try.underlying34 rfl (s := 0) (by kernel_rfl) rfl <| .loadB1 m1100 (i := 9) rfl rfl rfl Try.underlying32 rfl <| .len rfl Try.underlying32 <| .lss rfl rfl <| .nil) ?_
           clear Hz Az; intro Az Hz
           refine bool_cases Hz (t := 112) rfl ?_ ?_
           ·
            clear Hz; intro hb1106 Hz
            try simp only [Q1x, Q2x, Q3x, Q4x, Q5x, Q6x, Q7x, Q8x, Q9x, Q0x, Qax, Qbx] at hb1106
            have hk : k < ws.length := by omega
            obtain ⟨⟨xs, xl⟩, hes⟩ : ∃ e, ws[k]? = some e := ⟨_, List.getElem?_eq_getElem hk⟩
            refine wp_cond_true (Hz.ev (x := .tmp 112) rfl) ?_
            refine wp_skip ?_
            refine hK32 _ _ ?_; clear hK32; try clear K32
            refine wp_seq_k (fun K33 hK33 => ?_)
            refine wp_block ?_
            refine wp_seq_k (fun K34 hK34 => ?_)
            obtain ⟨gx1108, ox1108, vx1108, hp1108, hl1108, hR1108, hrg1108⟩ := h2.extA (k) (r := [.v (.int .i64 xs), .l 2 (xl.map itD)]) (wrD_get hes)
            cases hp1108; clear hl1108
            rcases hR1108 with _ | ⟨hd1108_0, _ | ⟨hd1108_1, _ | _⟩⟩
            obtain rfl := hd1108_0.v_out
            clear hd1108_0
            obtain ⟨p1109, c1109, hv1109, hw1109⟩ := hd1108_1.l_shape; subst hv1109
            obtain ⟨gx1111, ox1111, vx1111, hp1111, hl1111, hR1111, hrg1111⟩ := h2.extA (k) (r := [.v (.int .i64 xs), .l 2 (xl.map itD)]) (wrD_get hes)
            cases hp1111; clear hl1111
            rcases hR1111 with _ | ⟨hd1111_0, _ | ⟨hd1111_1, _ | _⟩⟩
            obtain rfl := hd1111_0.v_out
            clear hd1111_0
            obtain ⟨p1112, c1112, hv1112, hw1112⟩ := hd1111_1.l_shape; subst hv1112
            have m1113 : MemOk _ _ [(9, _)] _ := m1100.only [9]; clear m1100
            refine region_p 23 (B := [(9, _)]) (m1113.to ⟨il, trivial⟩) m1113 (by kernel_rfl) (fun w1114 hP1114 m1114 => ?_); clear m1113
            refine goR hP1114 [0, 1, 2, 3, 4, 5, 6, 7, 8, 9] [1, 5] 10 0 1023 Hz (m1114.to ⟨il, trivial⟩) (.fieldAddr (off := 10) rfl Try.underlying34 rfl (s := 0) (by kernel_rfl) rfl <| .loadB1 hh (i := 9) rfl rfl rfl Try.underlying32 rfl <| .move rfl <| .p (fun _ _ h => y_idx h rfl rfl Try.underlying32 sz55rR (k) rfl hk) <| .fieldAddrQ 0 rfl Try.underlying55 rfl (s := 0) (by kernel_rfl) rfl <| .loadAt1 (fun _ h => (hrg1108 h rfl)) (q := 0) rfl rfl rfl Try.underlying2 rfl <| .move rfl <| .add rfl rfl (r := (k : Int) + 1) (IntWalk.i64_in _ (by omega)) <| .neq rfl rfl <| .move rfl <| .nil) ?_
            clear Hz Az; intro Az Hz
            refine bool_cases Hz (t := 124) rfl ?_ ?_
            ·
             clear Hz; intro hb1125 Hz
             try simp only [Q1x, Q2x, Q3x, Q4x, Q5x, Q6x, Q7x, Q8x, Q9x, Q0x, Qax, Qbx] at hb1125
             refine goA hP1114 [10, 11, 12, 13, 14, 15, 16, 17, 18, 19, 20, 21, 22] 13 1023 8388607 Hz (m1114.to ⟨il, trivial⟩) (.s <| .s <| .s <| .s <| .s <| .s <| .s <| .s <| .s <| .s <| .s <| .s <| .pickT rfl rfl <| .nil) ?_
             clear Hz Az; intro Az Hz
             refine wpAnyE_done (by kernel_rfl) ?_ _
             refine hK34 _ _ ?_; clear hK34; try clear K34
             refine wp_cond_true (Hz.ev (x := .tmp 137) rfl) ?_
             replace Hz : Has 138 [(1, _), (4, _), (112, _)] Az := Hz.only [1, 4, 112]
             refine regS Hz (.assign rfl <| .nil) ?_
             clear Hz Az; intro Az Hz
             refine wp_ret ?_
             try dsimp only [Exit.then, Exit.inBlock]
             refine (ret1 (fn := Try.f27) Hz rfl rfl ?_)
             exact ⟨false, rfl, iff_of_false (by simp) (fun h => by obtain ⟨v1, v2, v3, v4, v5, v6, v7, v8, v9⟩ := h; have v10 := v9 k hk; rw [getW hes] at v10; first | (have v12 := v10.1; dsimp only at v12; omega) | (have v11 := hib.2 v10.2; simp_all; done)), m1114.below⟩
            ·
             clear Hz; intro hb1125 Hz
             try simp only [Q1x, Q2x, Q3x, Q4x, Q5x, Q6x, Q7x, Q8x, Q9x, Q0x, Qax, Qbx] at hb1125
             refine goR hP1114 [10, 11, 12, 13, 14, 15, 16, 17, 18, 19] [11, 13, 15, 19] 10 1023 1048575 Hz (m1114.to ⟨il, trivial⟩) (.fieldAddr (off := 1) rfl Try.underlying34 rfl (s := 0) (by kernel_rfl) rfl <| .loadB1 hh (i := 9) rfl rfl rfl Try.underlying3 rfl <| .fieldAddr (off := 2) rfl Try.underlying34 rfl (s := 0) (by kernel_rfl) rfl <| .loadB1 hh (i := 9) rfl rfl rfl Try.underlying3 rfl <| .fieldAddr (off := 10) rfl Try.underlying34 rfl (s := 0) (by kernel_rfl) rfl <| .loadB1 hh (i := 9) rfl rfl rfl Try.underlying32 rfl <| .move rfl <| .p (fun _ _ h => y_idx h rfl rfl Try.underlying32 sz55rR (k) rfl hk) <| .fieldAddrQ 1 rfl Try.underlying55 rfl (s := 0) (by kernel_rfl) rfl <| .loadAt1 (fun _ h => (hrg1111 h rfl)) (q := 1) rfl rfl rfl Try.underlying23 rfl <| .nil) ?_
             clear Hz Az; intro Az Hz
             refine stepE_only 20 rfl (by kernel_rfl) (wantedG Hz rfl rfl rfl rfl) (fun K hK => ?_)
             refine e_call Hz Try.func29 rfl rfl rfl rfl (ritems_any _ _ xl _ _ _ _ ((hd1111_1.now' m1114 rfl).any) (hwl _ (List.mem_of_getElem? hes))) ?_
             rintro e w1151 ⟨ib, rfl, hib, hb1151⟩
             have m1152 := m1114.later hb1151
             clear m1114
             clear hb1151
             refine ⟨_, rfl, ?_⟩; clear Hz Az; intro Az Hz
             refine hK _ _ (m1152.to ⟨il, trivial⟩) ?_; clear hK K
             refine goA hP1114 [21, 22] 2 2097151 8388607 Hz (m1152.to ⟨il, trivial⟩) (.not rfl <| .pickF rfl rfl <| .nil) ?_
             clear Hz Az; intro Az Hz
             refine wpAnyE_done (by kernel_rfl) ?_ _
             refine hK34 _ _ ?_; clear hK34; try clear K34
             refine bool_cases Hz (t := 137) rfl ?_ ?_
             ·
              clear Hz; intro hb1156 Hz
              try simp only [Q1x, Q2x, Q3x, Q4x, Q5x, Q6x, Q7x, Q8x, Q9x, Q0x, Qax, Qbx] at hb1156
              refine wp_cond_true (Hz.ev (x := .tmp 137) rfl) ?_
              replace Hz : Has 138 [(1, _), (4, _), (112, _)] Az := Hz.only [1, 4, 112]
              refine regS Hz (.assign rfl <| .nil) ?_
              clear Hz Az; intro Az Hz
              refine wp_ret ?_
              try dsimp only [Exit.then, Exit.inBlock]
              refine (ret1 (fn := Try.f27) Hz rfl rfl ?_)
              exact ⟨false, rfl, iff_of_false (by simp) (fun h => by obtain ⟨v1, v2, v3, v4, v5, v6, v7, v8, v9⟩ := h; have v10 := v9 k hk; rw [getW hes] at v10; first | (have v12 := v10.1; dsimp only at v12; omega) | (have v11 := hib.2 v10.2; simp_all; done)), m1152.below⟩
             ·
              clear Hz; intro hb1156 Hz
              try simp only [Q1x, Q2x, Q3x, Q4x, Q5x, Q6x, Q7x, Q8x, Q9x, Q0x, Qax, Qbx] at hb1156
              refine wp_cond_false (Hz.ev (x := .tmp 137) rfl) ?_
              refine wp_skip ?_
              refine hK33 _ _ ?_; clear hK33; try clear K33
              replace Hz : Has 138 [(1, _), (4, _), (112, _)] Az := Hz.only [1, 4, 112]
              refine wp_region_lit ?_
              refine goCh Hz (.move rfl <| .add rfl rfl (r := ((k + 1 : Nat) : Int)) (by rw [IntWalk.i64_in _ (by omega)]; omega) <| .assign rfl <| .nil) ?_
              clear Hz Az; intro Az Hz
              refine wpList_nil ?_
              show ∃ n', n' < _ ∧ _
              exact ⟨ws.length - (k + 1), by omega, k + 1, _, by omega, rfl, wr_snoc hall2 hes (by omega) (hib.1 (by simp_all)), Hz.only [1, 4], m1152.only [9]⟩
           ·
            clear Hz; intro hb1106 Hz
            try simp only [Q1x, Q2x, Q3x, Q4x, Q5x, Q6x, Q7x, Q8x, Q9x, Q0x, Qax, Qbx] at hb1106
            obtain rfl : k = ws.length := by omega
            refine wp_cond_false (Hz.ev (x := .tmp 112) rfl) ?_
            refine wp_exit ?_
            refine hK31 _ _ ?_; clear hK31; try clear K31
            refine regS Hz (.assign rfl <| .nil) ?_
            clear Hz Az; intro Az Hz
            refine wp_ret ?_
            try dsimp only [Exit.then, Exit.inBlock]
            refine (ret1 (fn := Try.f27) Hz rfl rfl ?_)
            exact ⟨true, rfl, iff_of_true rfl ⟨hsb.1 (by simp_all), by omega, by omega, by simp_all, by simp_all, by omega, by omega, hall, hall2⟩, m1100.below⟩
end Go.Proofs.Ytocfbocdnklllaa.K
