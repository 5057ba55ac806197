/- VolumePrunes' walk. -/
import Derived.Test.YtocfbocdnklllaaGreatVolSm
namespace Go.Proofs.YtocfbocdnklllaaGreat.K
open Go.ChangeShapes Go.WideShapes Go.ChangeAt Go.RowKit
set_option linter.unusedVariables false
set_option linter.unusedSimpArgs false

theorem fl50vpr : flatS Tryz.prog 50 [.int .i64 0, .int .i64 0, .int .i64 0, .int .i64 0, .int .i64 0, .slice none 0 0, .int .i64 0, .int .i64 0, .int .i64 0, .slice none 0 0] = true := by kernel_rfl
theorem sz28vpr : (Tryz.prog.info? 28).map (·.size) = some 11 := by kernel_rfl
theorem sz45vpr : (Tryz.prog.info? 45).map (·.size) = some 5 := by kernel_rfl
theorem zc28vpr : ((Tryz.prog.info? 28).bind (·.zero)).map (·.cells.toList) = some [.int .i64 0, .int .i64 0, .int .i64 0, .int .i64 0, .slice none 0 0, .int .i64 0, .int .i64 0, .bool false, .int .i64 0, .slice none 0 0, .slice none 0 0] := by kernel_rfl
theorem zc45vpr : ((Tryz.prog.info? 45).bind (·.zero)).map (·.cells.toList) = some [.int .i64 0, .int .i64 0, .int .i64 0, .int .i64 0, .slice none 0 0] := by kernel_rfl
theorem zc50vpr : ((Tryz.prog.info? 50).bind (·.zero)).map (·.cells.toList) = some [.int .i64 0, .int .i64 0, .int .i64 0, .int .i64 0, .int .i64 0, .slice none 0 0, .int .i64 0, .int .i64 0, .int .i64 0, .slice none 0 0] := by kernel_rfl

theorem tmod_nn {a n : Int} (ha : 0 ≤ a) (hn : 0 < n) : ∃ x : Nat, a.tmod n = (x : Int) ∧ (x : Int) < n := by
 have h1 := Int.emod_nonneg a (show n ≠ 0 by omega)
 have h2 := Int.emod_lt_of_pos a hn
 exact ⟨(a % n).toNat, by rw [Int.tmod_eq_emod_of_nonneg ha]; omega, by omega⟩
theorem doR_prune_ok {bl sz to ne fl at0 ix : Int} {hi : Bool} {pins : List Int} {ws : List PWr} {it : List PI} (h : hi = false) (h1 : fl ≤ at0) (h2 : at0 ≤ lowL ws.length pins) : doR bl sz to ne fl hi pins ws 3 at0 ix it = (ne, hi, at0, ws, 0) := by
 subst h
 have h9 : reachR false fl at0 (lowL ws.length pins) = 0 := by rw [reachR, if_neg (by simp), if_neg (by omega), if_neg (by omega)]
 rw [doR, if_neg (by decide), if_pos rfl, pruneR, if_pos h9]
theorem doR_prune_no {bl sz to ne fl at0 ix : Int} {hi : Bool} {pins : List Int} {ws : List PWr} {it : List PI} (h : hi = false) (h1 : ¬ (fl ≤ at0 ∧ at0 ≤ lowL ws.length pins)) : ∃ c : Int, c ≠ 0 ∧ doR bl sz to ne fl hi pins ws 3 at0 ix it = (ne, hi, fl, ws, c) := by
 subst h
 have h9 : reachR false fl at0 (lowL ws.length pins) ≠ 0 := by
   rw [reachR, if_neg (by simp)]
   by_cases h2 : at0 < fl
   · rw [if_pos h2]; decide
   · rw [if_neg h2, if_pos (by omega)]; decide
 exact ⟨_, h9, by rw [doR, if_neg (by decide), if_pos rfl, pruneR, if_neg h9]⟩
set_option maxRecDepth 100000
set_option maxHeartbeats 4000000
theorem prunes_walk (l : List Int) (pl : Option Addr) (cl : Nat) (at9 pn : Int) (w0 : World) (h1 : Rd (fun _ => True) w0 (.slice pl l.length cl) (.ns .u8 l)) (hlb : ∀ j, j < l.length → 0 ≤ l.getD j 0 ∧ l.getD j 0 ≤ 255) (hat : 0 ≤ at9 ∧ at9 ≤ 255) (hpn : 0 ≤ pn ∧ pn ≤ 255) :
   Calls Tryz.prog 4 #[.slice pl l.length cl, .int .u8 at9, .int .u8 pn] w0 fun e w' => e = .returned (.bool true) ∧ Below w0.heap.size w0 w' := by
 refine enter (fn := Tryz.f4) Tryz.func4 rfl Tryz.ntmps4 rfl (fun Az Hz => ?_)
 simp only [List.zipIdx_cons, List.zipIdx_nil, List.map_cons, List.map_nil, Nat.reduceAdd, Nat.zero_add] at Hz
 have m0 := MemOk.start (fun _ => False) w0
 refine regS Hz (.assign rfl <| .nil) ?_
 clear Hz Az; intro Az Hz
 refine wp_seq_k (fun K0 hK0 => ?_)
 refine wp_seq_k (fun K1 hK1 => ?_)
 refine wp_region_lit ?_
 refine wpList_plain rfl (fun K hK => ?_)
 refine e_call Hz Tryz.func5 rfl rfl rfl rfl (vknown_any _) ?_
 rintro e w2 ⟨rfl, hb2⟩
 have m3 := m0.later hb2
 clear m0
 clear hb2
 refine ⟨_, rfl, ?_⟩; clear Hz Az; intro Az Hz
 refine hK _ _ ?_; clear hK K
 refine goCh Hz (.not rfl .nil) ?_
 clear Hz Az; intro Az Hz
 refine wpList_nil ?_
 refine hK1 _ _ ?_; clear hK1; try clear K1
 refine wp_cond_false (Hz.ev (x := .tmp 22) rfl) ?_
 refine wp_skip ?_
 refine hK0 _ _ ?_; clear hK0; try clear K0
 refine wp_seq_k (fun K2 hK2 => ?_)
 refine regS Hz (.move rfl <| .len rfl Tryz.underlying22 <| .gtr rfl rfl <| .nil) ?_
 clear Hz Az; intro Az Hz
 refine bool_cases Hz (t := 25) rfl ?_ ?_
 ·
  clear Hz; intro hb9 Hz
  try simp only [Q1x, Q2x, Q3x, Q4x, Q5x, Q6x, Q7x, Q8x, Q9x, Q0x, Qax, Qbx] at hb9
  refine wp_cond_true (Hz.ev (x := .tmp 25) rfl) ?_
  refine regS Hz (.assign rfl <| .nil) ?_
  clear Hz Az; intro Az Hz
  refine wp_ret ?_
  try dsimp only [Exit.then, Exit.inBlock]
  refine (ret1 (fn := Tryz.f4) Hz rfl rfl ?_)
  exact ⟨by first | rfl | simp, m3.below⟩
 ·
  clear Hz; intro hb9 Hz
  try simp only [Q1x, Q2x, Q3x, Q4x, Q5x, Q6x, Q7x, Q8x, Q9x, Q0x, Qax, Qbx] at hb9
  have hl60 : l.length ≤ 60 := by have := hb9; first | omega | (simp at this; omega)
  refine wp_cond_false (Hz.ev (x := .tmp 25) rfl) ?_
  refine wp_skip ?_
  refine hK2 _ _ ?_; clear hK2; try clear K2
  refine wp_seq_k (fun K3 hK3 => ?_)
  refine wp_region_lit ?_
  refine goCh Hz (.move rfl .nil) ?_
  clear Hz Az; intro Az Hz
  refine wpList_plain rfl (fun K hK => ?_)
  refine e_call Hz Tryz.func6 rfl rfl rfl rfl (svol_any l _ _ _ ((h1.now' m3 rfl).any) (by omega) hlb) ?_
  rintro e w13 ⟨y, p113, p213, p313, d113, d213, d313, rfl, hS, hd13, he13, hf13, hb13⟩
  have m14 := m3.callF3 70 71 72 rfl rfl rfl hb13 hd13 he13 hf13
  clear m3
  clear hb13 hd13 he13 hf13
  obtain ⟨hpl, hpn, hws, hwi⟩ := hS.sm
  obtain ⟨hV, hh0, hpn9, hws9⟩ := hS
  have hV9 := hV
  obtain ⟨v1, v2, v3, v4, v5, v6, v7, v8, v9⟩ := hV9
  have v0 := v1
  obtain ⟨n1, n2, n3, n4, n5, n6, n7, n8, n9, n10, n11⟩ := v0
  have hwo := hV.its
  refine ⟨_, rfl, ?_⟩; clear Hz Az; intro Az Hz
  refine hK _ _ ?_; clear hK K
  refine wpList_plain rfl (fun K hK => ?_)
  refine e_alloc Hz m14 73 zc28vpr rfl ?_
  clear Hz Az m14; intro g16 Az w17 Hz m17 hB17 hg17
  clear hB17 hg17
  refine hK _ _ ?_; clear hK K
  refine wpList_plain rfl (fun K hK => ?_)
  refine e_storeW Hz m17 73 rfl rfl rfl rfl rfl sz28vpr ?_
  clear m17; intro w18 m18 hB18
  clear hB18
  refine hK _ _ ?_; clear hK K
  refine wpList_nil ?_
  refine hK3 _ _ ?_; clear hK3; try clear K3
  refine wp_seq_k (fun K4 hK4 => ?_)
  replace Hz : Has 131 [(1, _), (2, _), (6, _), (7, _)] Az := Hz.only [1, 2, 6, 7]
  refine regS Hz (.fieldAddr (off := 7) rfl Tryz.underlying28 rfl (s := 0) (by kernel_rfl) rfl <| .loadB1 m18 (i := 73) rfl rfl rfl Tryz.underlying4 rfl <| .nil) ?_
  clear Hz Az; intro Az Hz
  refine bool_cases Hz (t := 29) rfl ?_ ?_
  ·
   clear Hz; intro hb22 Hz
   try simp only [Q1x, Q2x, Q3x, Q4x, Q5x, Q6x, Q7x, Q8x, Q9x, Q0x, Qax, Qbx] at hb22
   refine wp_cond_true (Hz.ev (x := .tmp 29) rfl) ?_
   refine regS Hz (.assign rfl <| .nil) ?_
   clear Hz Az; intro Az Hz
   refine wp_ret ?_
   try dsimp only [Exit.then, Exit.inBlock]
   refine (ret1 (fn := Tryz.f4) Hz rfl rfl ?_)
   exact ⟨by first | rfl | simp, m18.below⟩
  ·
   clear Hz; intro hb22 Hz
   try simp only [Q1x, Q2x, Q3x, Q4x, Q5x, Q6x, Q7x, Q8x, Q9x, Q0x, Qax, Qbx] at hb22
   have hh9 : y.hi = false := hb22
   obtain ⟨tq, htq⟩ : ∃ x, pinT y.fl y.ws.length pn = x := ⟨_, rfl⟩
   have htb : y.fl ≤ tq ∧ tq ≤ y.ws.length := htq ▸ pinT_bd (z := pn) v7
   have htq2 : y.fl + pn % ((y.ws.length : Int) - y.fl + 1) = tq := htq
   obtain ⟨ff, hff, hffb9⟩ := tmod_nn (a := at9) (n := (y.ws.length : Int) + 2) (by omega) (by omega)
   have hffb : (ff : Int) ≤ y.ws.length + 1 := by omega
   refine wp_cond_false (Hz.ev (x := .tmp 29) rfl) ?_
   refine wp_skip ?_
   refine hK4 _ _ ?_; clear hK4; try clear K4
   refine wp_seq_k (fun K5 hK5 => ?_)
   refine wp_region_lit ?_
   refine goCh Hz (.loadBR m18 (i := 73) rfl rfl Tryz.underlying28 rfl sz28vpr (by simp) (by dsimp only [List.drop, List.take] <;> rfl) .nil) ?_
   clear Hz Az; intro Az Hz
   refine wpList_plain rfl (fun K hK => ?_)
   refine e_call Hz Tryz.func7 rfl rfl rfl rfl (rlen_any _ _ _ _ _ _ _ _ _ _ _ _ _ _ _ _ _ _) ?_
   rintro e w26 ⟨rfl, hb26⟩
   rw [List.length_map]
   have m27 := m18.later hb26
   clear m18
   clear hb26
   refine ⟨_, rfl, ?_⟩; clear Hz Az; intro Az Hz
   refine hK _ _ ?_; clear hK K
   refine goCh Hz (.assign rfl .nil) ?_
   clear Hz Az; intro Az Hz
   refine wpList_nil ?_
   refine hK5 _ _ ?_; clear hK5; try clear K5
   refine wp_seq_k (fun K6 hK6 => ?_)
   have m30 : MemOk _ _ [(70, _), (71, _), (72, _), (73, _)] _ := m27.only [70, 71, 72, 73]; clear m27
   refine region_p 12 (B := [(70, _), (71, _), (72, _), (73, _)]) (m30.to ⟨il, il, il, il, trivial⟩) m30 (by kernel_rfl) (fun w31 hP31 m31 => ?_); clear m30
   refine goR hP31 [0, 1, 2, 3, 4, 5, 6, 7, 8, 9, 10, 11] [1, 6] 12 0 4095 Hz (m31.to ⟨il, il, il, il, trivial⟩) (.fieldAddr (off := 8) rfl Tryz.underlying28 rfl (s := 0) (by kernel_rfl) rfl <| .loadB1 hh (i := 73) rfl rfl rfl Tryz.underlying2 rfl <| .move rfl <| .conv rfl Tryz.underlying5 Tryz.underlying2 (IntWalk.i64_in _ (by omega)) <| .move rfl <| .fieldAddr (off := 8) rfl Tryz.underlying28 rfl (s := 0) (by kernel_rfl) rfl <| .loadB1 hh (i := 73) rfl rfl rfl Tryz.underlying2 rfl <| .sub rfl rfl (IntWalk.i64_in _ (by omega)) <| .add rfl rfl (IntWalk.i64_in _ (by omega)) <| .rem rfl rfl (by omega) (r := pn % ((y.ws.length : Int) - y.fl + 1)) (by rw [Int.tmod_eq_emod_of_nonneg (by omega)]) <| .add rfl rfl (r := tq) (by rw [htq2]; exact IntWalk.i64_in _ (by omega)) <| .assign rfl <| .nil) ?_
   clear Hz Az; intro Az Hz
   refine wpAnyE_done (by kernel_rfl) ?_ _
   refine hK6 _ _ ?_; clear hK6; try clear K6
   replace Hz : Has 131 [(1, _), (6, _), (7, _), (8, _), (9, _)] Az := Hz.only [1, 6, 7, 8, 9]
   refine wp_seq_k (fun K7 hK7 => ?_)
   refine wp_region_lit ?_
   refine goCh Hz (.loadBR m31 (i := 73) rfl rfl Tryz.underlying28 rfl sz28vpr (by simp) (by dsimp only [List.drop, List.take] <;> rfl) <| .move rfl <| .build rfl zc50vpr fl50vpr rfl (by dsimp only [setL, List.set] <;> rfl) <| .nil) ?_
   clear Hz Az; intro Az Hz
   refine wpList_plain rfl (fun K hK => ?_)
   refine e_call Hz Tryz.func14 rfl rfl rfl rfl (yDo4 _ y.vo y.bl y.sz y.pe y.to y.ne y.fl y.hi y.place y.pins y.ws _ _ _ _ _ _ _ _ _ _ _ _ _ _ _ _ _ _ _ _ (by omega) (by omega) (by omega) hwo.1 (m31.into [(1, 70), (2, 71), (3, 72)] (by decide) rfl)) ?_
   rintro e w51 ⟨pins1, e1, rl1, rf1, rn1, p151, d151, p251, d251, p351, d351, rfl, hR1, hr1, hm51⟩
   have mx51 := m31.back hm51 [(70, 1), (71, 2), (72, 3), (74, 5), (75, 6), (76, 7)] (by decide); clear hm51 m31
   have m51 : MemOk _ _ [(70, _), (71, _), (72, _), (74, _), (75, _), (76, _), (73, _)] _ := mx51.only [70, 71, 72, 74, 75, 76, 73]; clear mx51
   refine ⟨_, rfl, ?_⟩; clear Hz Az; intro Az Hz
   refine hK _ _ ?_; clear hK K
   have m53 := m51.freezeSN 75 rfl (by simp [cx]); clear m51
   have m54 := m53.freezeS 76 rfl (by simp [cx]); clear m53
   obtain ⟨rfl, rfl⟩ : pins1 = (sortP (y.pins ++ [tq])) ∧ e1 = 0 := by rw [hh9, pinR_ok htb.1 htb.2] at hR1; simp only [Prod.mk.injEq] at hR1; exact ⟨hR1.1.symm, hR1.2.symm⟩
   have hpl9 : (sortP (y.pins ++ [tq])).length = y.pins.length + 1 := by simp [sortP]
   have hlow : lowL y.ws.length (sortP (y.pins ++ [tq])) = min (lowL y.ws.length y.pins) tq := low_pin htb.2
   refine goCh Hz (.move rfl <| .extract rfl rfl <| .extract rfl rfl <| .nil) ?_
   clear Hz Az; intro Az Hz
   refine wpList_plain rfl (fun K hK => ?_)
   refine e_alloc Hz m54 77 zc28vpr rfl ?_
   clear Hz Az m54; intro g58 Az w59 Hz m59 hB59 hg59
   clear hB59 hg59
   refine hK _ _ ?_; clear hK K
   refine wpList_plain rfl (fun K hK => ?_)
   refine e_alloc Hz m59 78 zc45vpr rfl ?_
   clear Hz Az m59; intro g60 Az w61 Hz m61 hB61 hg61
   clear hB61 hg61
   refine hK _ _ ?_; clear hK K
   refine wpList_plain rfl (fun K hK => ?_)
   refine e_storeW Hz m61 77 rfl rfl rfl rfl rfl sz28vpr ?_
   clear m61; intro w62 m62 hB62
   clear hB62
   refine hK _ _ ?_; clear hK K
   refine wpList_plain rfl (fun K hK => ?_)
   refine e_storeW Hz m62 78 rfl rfl rfl rfl rfl sz45vpr ?_
   clear m62; intro w63 m63 hB63
   clear hB63
   refine hK _ _ ?_; clear hK K
   refine wpList_nil ?_
   refine hK7 _ _ ?_; clear hK7; try clear K7
   refine wp_seq_k (fun K8 hK8 => ?_)
   replace Hz : Has 131 [(1, _), (6, _), (7, _), (8, _), (9, _), (10, _), (11, _)] Az := Hz.only [1, 6, 7, 8, 9, 10, 11]
   refine wp_seq_k (fun K9 hK9 => ?_)
   refine wp_region_lit ?_
   refine goCh Hz (.fieldAddr (off := 0) rfl Tryz.underlying45 rfl (s := 0) (by kernel_rfl) rfl <| .loadB1 m63 (i := 78) rfl rfl rfl Tryz.underlying37 rfl <| .neq rfl rfl <| .move rfl <| .nil) ?_
   clear Hz Az; intro Az Hz
   refine bool_cases Hz (t := 53) rfl ?_ ?_
   · intro hb _; exact absurd hb (by simp)
   clear Hz; intro _ Hz
   refine goCh Hz (.loadBRZ m63 (i := 77) rfl rfl Tryz.underlying28 rfl sz28vpr (by simp) (by dsimp only [List.drop, List.take] <;> rfl) .nil) ?_
   clear Hz Az; intro Az Hz
   refine st_ge Hz rfl rfl rfl rfl (fun K hK => ?_)
   refine e_call Hz Tryz.func15 rfl rfl rfl rfl (low_nn _ _ _ _ _ _ _ _ y.place (sortP (y.pins ++ [tq])) y.ws _ _ _ _ _ _ _ _ ((m63.rd (i := 75) rfl).any) (by omega)) ?_
   rintro e w75 ⟨rfl, hb75⟩
   have m76 := m63.later hb75
   clear m63
   clear hb75
   refine ⟨_, rfl, ?_⟩; clear Hz Az; intro Az Hz
   refine hK _ _ ?_; clear hK K
   refine goCh Hz (.moveZ rfl <| .gtrZ rfl rfl <| .pickF rfl rfl <| .nil) ?_
   clear Hz Az; intro Az Hz
   refine wpList_nil ?_
   refine hK9 _ _ ?_; clear hK9; try clear K9
   refine bool_cases Hz (t := 58) rfl ?_ ?_
   · intro hb _; exact absurd hb (by simp; omega)
   clear Hz; intro _ Hz
   refine wp_cond_false (Hz.ev (x := .tmp 58) rfl) ?_
   refine wp_skip ?_
   refine hK8 _ _ ?_; clear hK8; try clear K8
   replace Hz : Has 131 [(1, _), (6, _), (7, _), (8, _), (10, _)] Az := Hz.only [1, 6, 7, 8, 10]
   refine regS Hz (.move rfl <| .conv rfl Tryz.underlying5 Tryz.underlying2 (IntWalk.i64_in _ (by omega)) <| .move rfl <| .add rfl rfl (IntWalk.i64_in _ (by omega)) <| .rem rfl rfl (by omega) (r := (ff : Int)) hff <| .assign rfl <| .nil) ?_
   clear Hz Az; intro Az Hz
   refine wp_seq_k (fun K10 hK10 => ?_)
   by_cases hok : y.fl ≤ (ff : Int) ∧ (ff : Int) ≤ lowL y.ws.length (sortP (y.pins ++ [tq]))
   ·
    replace Hz : Has 131 [(6, _), (7, _), (8, _), (10, _), (12, _)] Az := Hz.only [6, 7, 8, 10, 12]
    refine wp_region_lit ?_
    refine goCh Hz (.loadBR m76 (i := 77) rfl rfl Tryz.underlying28 rfl sz28vpr (by simp) (by dsimp only [List.drop, List.take] <;> rfl) <| .move rfl <| .build rfl zc50vpr fl50vpr rfl (by dsimp only [setL, List.set] <;> rfl) <| .nil) ?_
    clear Hz Az; intro Az Hz
    have m93 := m76.dat 82 rfl (Rd.l0 none 0 2); clear m76
    refine wpList_plain rfl (fun K hK => ?_)
    refine e_call Hz Tryz.func14 rfl rfl rfl rfl (xDo _ y.vo y.bl y.sz y.pe y.to y.ne y.fl y.hi y.place (sortP (y.pins ++ [tq])) y.ws [] _ _ _ _ _ _ _ _ 3 _ _ _ _ _ _ _ _ _ _ _ (by omega) (by decide) (by decide) (by omega) (by omega) (by omega) (by simp) (fun _ h => by cases h) hwo.1 (m93.into [(1, 74), (2, 75), (3, 76), (4, 82)] (by decide) rfl)) ?_
    rintro e w94 ⟨ne1, hi1, fl1, ws1, e2, rl2, rf2, rn2, p194, d194, p294, d294, p394, d394, rfl, hR2, hr2, hm94⟩
    have mx94 := m93.back hm94 [(74, 1), (75, 2), (76, 3), (79, 5), (80, 6), (81, 7)] (by decide); clear hm94 m93
    have m94 : MemOk _ _ [(74, _), (75, _), (76, _), (79, _), (80, _), (81, _), (70, _), (71, _), (72, _), (73, _), (77, _), (78, _)] _ := mx94.only [74, 75, 76, 79, 80, 81, 70, 71, 72, 73, 77, 78]; clear mx94
    refine ⟨_, rfl, ?_⟩; clear Hz Az; intro Az Hz
    refine hK _ _ ?_; clear hK K
    rw [doR_prune_ok hh9 hok.1 hok.2] at hR2; simp only [Prod.mk.injEq] at hR2; obtain ⟨rfl, rfl, rfl, rfl, rfl⟩ := hR2
    obtain ⟨-, rfl, rfl, rfl⟩ := hr2.resolve_left (fun h => h.1 rfl)
    have m96 := m94.freezeS 81 rfl (by simp [cx]); clear m94
    refine goCh Hz (.move rfl <| .extract rfl rfl <| .extract rfl rfl <| .nil) ?_
    clear Hz Az; intro Az Hz
    refine wpList_plain rfl (fun K hK => ?_)
    refine e_alloc Hz m96 83 zc28vpr rfl ?_
    clear Hz Az m96; intro g100 Az w101 Hz m101 hB101 hg101
    clear hB101 hg101
    refine hK _ _ ?_; clear hK K
    refine wpList_plain rfl (fun K hK => ?_)
    refine e_alloc Hz m101 84 zc45vpr rfl ?_
    clear Hz Az m101; intro g102 Az w103 Hz m103 hB103 hg103
    clear hB103 hg103
    refine hK _ _ ?_; clear hK K
    refine wpList_plain rfl (fun K hK => ?_)
    refine e_storeW Hz m103 83 rfl rfl rfl rfl rfl sz28vpr ?_
    clear m103; intro w104 m104 hB104
    clear hB104
    refine hK _ _ ?_; clear hK K
    refine wpList_plain rfl (fun K hK => ?_)
    refine e_storeW Hz m104 84 rfl rfl rfl rfl rfl sz45vpr ?_
    clear m104; intro w105 m105 hB105
    clear hB105
    refine hK _ _ ?_; clear hK K
    refine wpList_nil ?_
    refine hK10 _ _ ?_; clear hK10; try clear K10
    replace Hz : Has 131 [(6, _), (7, _), (8, _), (10, _), (12, _), (13, _), (14, _)] Az := Hz.only [6, 7, 8, 10, 12, 13, 14]
    refine wp_seq_k (fun K11 hK11 => ?_)
    refine wp_region_lit ?_
    refine goCh Hz (.move rfl <| .fieldAddr (off := 8) rfl Tryz.underlying28 rfl (s := 0) (by kernel_rfl) rfl <| .loadB1 m105 (i := 73) rfl rfl rfl Tryz.underlying2 rfl <| .geq rfl rfl <| .move rfl <| .nil) ?_
    clear Hz Az; intro Az Hz
    refine bool_cases Hz (t := 75) rfl ?_ ?_
    rotate_left
    · intro hb _; exact absurd hb (by simp; omega)
    clear Hz; intro _ Hz
    refine goCh Hz (.moveZ rfl <| .loadBRZ m105 (i := 77) rfl rfl Tryz.underlying28 rfl sz28vpr (by simp) (by dsimp only [List.drop, List.take] <;> rfl) <| .nil) ?_
    clear Hz Az; intro Az Hz
    refine st_ge Hz rfl rfl rfl rfl (fun K hK => ?_)
    refine e_call Hz Tryz.func15 rfl rfl rfl rfl (low_nn _ _ _ _ _ _ _ _ y.place (sortP (y.pins ++ [tq])) y.ws _ _ _ _ _ _ _ _ ((m105.rd (i := 75) rfl).any) (by omega)) ?_
    rintro e w120 ⟨rfl, hb120⟩
    have m121 := m105.later hb120
    clear m105
    clear hb120
    refine ⟨_, rfl, ?_⟩; clear Hz Az; intro Az Hz
    refine hK _ _ ?_; clear hK K
    refine goCh Hz (.leqZ rfl rfl <| .pickT rfl rfl <| .assign rfl <| .nil) ?_
    clear Hz Az; intro Az Hz
    refine wpList_nil ?_
    refine hK11 _ _ ?_; clear hK11; try clear K11
    refine wp_seq_k (fun K12 hK12 => ?_)
    replace Hz : Has 131 [(6, _), (7, _), (8, _), (10, _), (12, _), (13, _), (14, _), (15, _)] Az := Hz.only [6, 7, 8, 10, 12, 13, 14, 15]
    refine regS Hz (.fieldAddr (off := 0) rfl Tryz.underlying45 rfl (s := 0) (by kernel_rfl) rfl <| .loadB1 m121 (i := 84) rfl rfl rfl Tryz.underlying37 rfl <| .eql rfl rfl <| .move rfl <| .neqB rfl rfl Tryz.underlying4 <| .nil) ?_
    clear Hz Az; intro Az Hz
    refine bool_cases Hz (t := 85) rfl ?_ ?_
    · intro hb _; exact absurd hb (by simp; omega)
    clear Hz; intro _ Hz
    refine wp_cond_false (Hz.ev (x := .tmp 85) rfl) ?_
    refine wp_skip ?_
    refine hK12 _ _ ?_; clear hK12; try clear K12
    refine wp_seq_k (fun K13 hK13 => ?_)
    refine regS Hz (.move rfl <| .not rfl <| .nil) ?_
    clear Hz Az; intro Az Hz
    refine bool_cases Hz (t := 87) rfl ?_ ?_
    · intro hb _; exact absurd hb (by simp; omega)
    clear Hz; intro _ Hz
    refine wp_cond_false (Hz.ev (x := .tmp 87) rfl) ?_
    refine wp_skip ?_
    refine hK13 _ _ ?_; clear hK13; try clear K13
    refine wp_seq_k (fun K14 hK14 => ?_)
    replace Hz : Has 131 [(6, _), (7, _), (8, _), (12, _), (13, _), (14, _)] Az := Hz.only [6, 7, 8, 12, 13, 14]
    refine regS Hz (.move rfl <| .assign rfl <| .nil) ?_
    clear Hz Az; intro Az Hz
    refine wp_block ?_
    refine wp_loop_ghost (fun g a w => ∃ (k B7 B13 B14 : Nat) (rl rn : Int) (p1 p2 p3 p4 p5 p6 : Option Addr) (d1 d2 d3 d4 d5 d6 : Nat), ff ≤ k ∧ k ≤ y.ws.length + 1 ∧ g = y.ws.length + 1 - k ∧ Has 131 [(7, .pointer (some ⟨B7, 0, none⟩)), (8, .int .i64 y.ws.length), (12, .int .i64 (ff : Int)), (13, .pointer (some ⟨B13, 0, none⟩)), (14, .pointer (some ⟨B14, 0, none⟩)), (16, .int .i64 (k : Int))] a ∧ MemOk (cn w0) w0 [(7, .box B7 28 [.int .i64 y.vo, .int .i64 y.bl, .int .i64 y.sz, .int .i64 y.pe, .slice p1 y.place.length d1, .int .i64 y.to, .int .i64 y.ne, .bool y.hi, .int .i64 y.fl, .slice p2 y.pins.length d2, .slice p3 (y.ws.map wrD).length d3]), (8, .box B13 28 [.int .i64 y.vo, .int .i64 y.bl, .int .i64 y.sz, .int .i64 y.pe, .slice p4 y.place.length d4, .int .i64 y.to, .int .i64 y.ne, .bool y.hi, .int .i64 (ff : Int), .slice p5 (sortP (y.pins ++ [tq])).length d5, .slice p6 (y.ws.map wrD).length d6]), (9, .box B14 45 [.int .i64 0, .int .i64 rl, .int .i64 (ff : Int), .int .i64 rn, .slice none 0 0]), (10, .dat (.slice p1 y.place.length d1) (.ns .i64 y.place)), (11, .dat (.slice p2 y.pins.length d2) (.ns .i64 y.pins)), (12, .dat (.slice p3 (y.ws.map wrD).length d3) (.l 2 (y.ws.map wrD))), (13, .dat (.slice p4 y.place.length d4) (.ns .i64 y.place)), (14, .dat (.slice p5 (sortP (y.pins ++ [tq])).length d5) (.ns .i64 (sortP (y.pins ++ [tq])))), (15, .dat (.slice p6 (y.ws.map wrD).length d6) (.l 2 (y.ws.map wrD)))] w) (y.ws.length + 1 - ff) ?_ ?_
    · exact ⟨ff, _, _, _, _, _, _, _, _, _, _, _, _, _, _, _, _, _, Nat.le_refl _, by omega, rfl, Hz.only [7, 8, 12, 13, 14, 16], m121.ren [(7, 73), (8, 83), (9, 84), (10, 70), (11, 71), (12, 72), (13, 79), (14, 80), (15, 81)] (by decide)⟩
    ·
     clear Hz m121
     rintro g Az w139 ⟨k, B7, B13, B14, rl, rn, p1, p2, p3, p4, p5, p6, d1, d2, d3, d4, d5, d6, hfk, hkn, hg, Hz, m139⟩
     refine wp_seq_k (fun K15 hK15 => ?_)
     refine regS Hz (.move rfl <| .move rfl <| .leq rfl rfl <| .nil) ?_
     clear Hz Az; intro Az Hz
     refine bool_cases Hz (t := 94) rfl ?_ ?_
     ·
      clear Hz; intro hb143 Hz
      try simp only [Q1x, Q2x, Q3x, Q4x, Q5x, Q6x, Q7x, Q8x, Q9x, Q0x, Qax, Qbx] at hb143
      have hk9 : k ≤ y.ws.length := by have := hb143; first | omega | (simp at this; omega)
      refine wp_cond_true (Hz.ev (x := .tmp 94) rfl) ?_
      refine wp_skip ?_
      refine hK15 _ _ ?_; clear hK15; try clear K15
      refine wp_seq_k (fun K16 hK16 => ?_)
      refine wp_block ?_
      refine wp_seq_k (fun K17 hK17 => ?_)
      refine wp_region_lit ?_
      refine goCh Hz (.loadBR m139 (i := 7) rfl rfl Tryz.underlying28 rfl sz28vpr (by simp) (by dsimp only [List.drop, List.take] <;> rfl) <| .move rfl <| .nil) ?_
      clear Hz Az; intro Az Hz
      refine wpList_plain rfl (fun K hK => ?_)
      refine e_call Hz Tryz.func11 rfl rfl rfl rfl (state_q _ y.bl y.sz _ _ _ y.fl _ _ _ _ _ _ _ _ _ _ y.ws _ (k) _ _ ((m139.rd (i := 12) rfl).any) (by omega) hwo.1 rfl (by omega) (by omega) (by omega) (by omega) rfl) ?_
      rintro e w148 ⟨p148, c148, rfl, hd148, hb148⟩
      have m149 := m139.callF 100 rfl hb148 hd148
      clear m139
      clear hb148 hd148
      refine ⟨_, rfl, ?_⟩; clear Hz Az; intro Az Hz
      refine hK _ _ ?_; clear hK K
      refine goCh Hz (.move rfl <| .extract rfl rfl <| .extract rfl rfl <| .assign rfl <| .assign rfl <| .nil) ?_
      clear Hz Az; intro Az Hz
      refine wpList_nil ?_
      refine hK17 _ _ ?_; clear hK17; try clear K17
      replace Hz : Has 131 [(7, _), (8, _), (12, _), (13, _), (14, _), (16, _), (17, _), (18, _)] Az := Hz.only [7, 8, 12, 13, 14, 16, 17, 18]
      refine wp_seq_k (fun K18 hK18 => ?_)
      refine wp_region_lit ?_
      refine goCh Hz (.loadBR m149 (i := 8) rfl rfl Tryz.underlying28 rfl sz28vpr (by simp) (by dsimp only [List.drop, List.take] <;> rfl) <| .move rfl <| .nil) ?_
      clear Hz Az; intro Az Hz
      refine wpList_plain rfl (fun K hK => ?_)
      refine e_call Hz Tryz.func11 rfl rfl rfl rfl (state_q _ y.bl y.sz _ _ _ (ff : Int) _ _ _ _ _ _ _ _ _ _ y.ws _ (k) _ _ ((m149.rd (i := 15) rfl).any) (by omega) hwo.1 rfl (by omega) (by omega) (by omega) (by omega) rfl) ?_
      rintro e w161 ⟨p161, c161, rfl, hd161, hb161⟩
      have m162 := m149.callF 101 rfl hb161 hd161
      clear m149
      clear hb161 hd161
      refine ⟨_, rfl, ?_⟩; clear Hz Az; intro Az Hz
      refine hK _ _ ?_; clear hK K
      refine goCh Hz (.move rfl <| .extract rfl rfl <| .extract rfl rfl <| .assign rfl <| .assign rfl <| .nil) ?_
      clear Hz Az; intro Az Hz
      refine wpList_nil ?_
      refine hK18 _ _ ?_; clear hK18; try clear K18
      replace Hz : Has 131 [(7, _), (8, _), (12, _), (13, _), (14, _), (16, _), (17, _), (18, _), (19, _), (20, _)] Az := Hz.only [7, 8, 12, 13, 14, 16, 17, 18, 19, 20]
      refine wp_seq_k (fun K19 hK19 => ?_)
      refine wp_region_lit ?_
      refine goCh Hz (.move rfl <| .neq rfl rfl <| .move rfl <| .nil) ?_
      clear Hz Az; intro Az Hz
      refine bool_cases Hz (t := 111) rfl ?_ ?_
      · intro hb _; exact absurd hb (by simp)
      clear Hz; intro _ Hz
      refine goCh Hz (.moveZ rfl <| .neqZ rfl rfl <| .pickF rfl rfl <| .move rfl <| .nil) ?_
      clear Hz Az; intro Az Hz
      refine bool_cases Hz (t := 115) rfl ?_ ?_
      · intro hb _; exact absurd hb (by simp)
      clear Hz; intro _ Hz
      refine goCh Hz (.moveZ rfl <| .moveZ rfl <| .nil) ?_
      clear Hz Az; intro Az Hz
      refine st_ge Hz rfl rfl rfl rfl (fun K hK => ?_)
      refine e_call Hz Tryz.func13 rfl rfl rfl rfl (bodies_any (stL y.bl y.sz y.ws k) _ _ _ _ _ _ _ ((m162.rd (i := 100) rfl).any) ((m162.rd (i := 101) rfl).any) (by rw [stL_len]; omega)) ?_
      rintro e w184 ⟨rfl, hb184⟩
      have m185 := m162.later hb184
      clear m162
      clear hb184
      refine ⟨_, rfl, ?_⟩; clear Hz Az; intro Az Hz
      refine hK _ _ ?_; clear hK K
      refine goCh Hz (.notZ rfl <| .pickF rfl rfl <| .nil) ?_
      clear Hz Az; intro Az Hz
      refine wpList_nil ?_
      refine hK19 _ _ ?_; clear hK19; try clear K19
      refine wp_cond_false (Hz.ev (x := .tmp 120) rfl) ?_
      refine wp_skip ?_
      refine hK16 _ _ ?_; clear hK16; try clear K16
      replace Hz : Has 131 [(7, _), (8, _), (12, _), (13, _), (14, _), (16, _)] Az := Hz.only [7, 8, 12, 13, 14, 16]
      refine wp_region_lit ?_
      refine goCh Hz (.move rfl <| .add rfl rfl (r := ((k + 1 : Nat) : Int)) (by rw [IntWalk.i64_in _ (by omega)]; omega) <| .assign rfl <| .nil) ?_
      clear Hz Az; intro Az Hz
      refine wpList_nil ?_
      show ∃ n', n' < _ ∧ _
      exact ⟨y.ws.length + 1 - (k + 1), by omega, k + 1, _, _, _, _, _, _, _, _, _, _, _, _, _, _, _, _, _, by omega, by omega, rfl, Hz.only [7, 8, 12, 13, 14, 16], m185.ren [(7, 7), (8, 8), (9, 9), (10, 10), (11, 11), (12, 12), (13, 13), (14, 14), (15, 15)] (by decide)⟩
     ·
      clear Hz; intro hb143 Hz
      try simp only [Q1x, Q2x, Q3x, Q4x, Q5x, Q6x, Q7x, Q8x, Q9x, Q0x, Qax, Qbx] at hb143
      refine wp_cond_false (Hz.ev (x := .tmp 94) rfl) ?_
      refine wp_exit ?_
      refine hK14 _ _ ?_; clear hK14; try clear K14
      refine wp_seq_k (fun K20 hK20 => ?_)
      refine wp_region_lit ?_
      refine goCh Hz (.fieldAddr (off := 8) rfl Tryz.underlying28 rfl (s := 0) (by kernel_rfl) rfl <| .loadB1 m139 (i := 8) rfl rfl rfl Tryz.underlying2 rfl <| .move rfl <| .eql rfl rfl <| .move rfl <| .nil) ?_
      clear Hz Az; intro Az Hz
      refine bool_cases Hz (t := 125) rfl ?_ ?_
      rotate_left
      · intro hb _; exact absurd hb (by simp)
      clear Hz; intro _ Hz
      refine goCh Hz (.fieldAddrZ (off := 2) rfl Tryz.underlying45 rfl (s := 0) (by kernel_rfl) rfl <| .loadB1Z m139 (i := 9) rfl rfl rfl Tryz.underlying2 rfl <| .moveZ rfl <| .eqlZ rfl rfl <| .pickT rfl rfl <| .assign rfl <| .nil) ?_
      clear Hz Az; intro Az Hz
      refine wpList_nil ?_
      refine hK20 _ _ ?_; clear hK20; try clear K20
      refine wp_ret ?_
      try dsimp only [Exit.then, Exit.inBlock]
      refine (ret1 (fn := Tryz.f4) Hz rfl rfl ?_)
      exact ⟨by first | rfl | simp, m139.below⟩
   ·
    replace Hz : Has 131 [(6, _), (7, _), (8, _), (10, _), (12, _)] Az := Hz.only [6, 7, 8, 10, 12]
    refine wp_region_lit ?_
    refine goCh Hz (.loadBR m76 (i := 77) rfl rfl Tryz.underlying28 rfl sz28vpr (by simp) (by dsimp only [List.drop, List.take] <;> rfl) <| .move rfl <| .build rfl zc50vpr fl50vpr rfl (by dsimp only [setL, List.set] <;> rfl) <| .nil) ?_
    clear Hz Az; intro Az Hz
    have m214 := m76.dat 82 rfl (Rd.l0 none 0 2); clear m76
    refine wpList_plain rfl (fun K hK => ?_)
    refine e_call Hz Tryz.func14 rfl rfl rfl rfl (xDo _ y.vo y.bl y.sz y.pe y.to y.ne y.fl y.hi y.place (sortP (y.pins ++ [tq])) y.ws [] _ _ _ _ _ _ _ _ 3 _ _ _ _ _ _ _ _ _ _ _ (by omega) (by decide) (by decide) (by omega) (by omega) (by omega) (by simp) (fun _ h => by cases h) hwo.1 (m214.into [(1, 74), (2, 75), (3, 76), (4, 82)] (by decide) rfl)) ?_
    rintro e w215 ⟨ne1, hi1, fl1, ws1, e2, rl2, rf2, rn2, p1215, d1215, p2215, d2215, p3215, d3215, rfl, hR2, hr2, hm215⟩
    have mx215 := m214.back hm215 [(74, 1), (75, 2), (76, 3), (79, 5), (80, 6), (81, 7)] (by decide); clear hm215 m214
    have m215 : MemOk _ _ [(74, _), (75, _), (76, _), (79, _), (80, _), (81, _), (70, _), (71, _), (72, _), (73, _), (77, _), (78, _)] _ := mx215.only [74, 75, 76, 79, 80, 81, 70, 71, 72, 73, 77, 78]; clear mx215
    refine ⟨_, rfl, ?_⟩; clear Hz Az; intro Az Hz
    refine hK _ _ ?_; clear hK K
    obtain ⟨ec, hc, hR9⟩ := doR_prune_no (bl := y.bl) (sz := y.sz) (to := y.to) (ne := y.ne) (ix := 0) (ws := y.ws) (it := []) hh9 hok
    rw [hR9] at hR2; simp only [Prod.mk.injEq] at hR2; obtain ⟨rfl, rfl, rfl, rfl, rfl⟩ := hR2
    have m217 := m215.freezeS 81 rfl (by simp [cx]); clear m215
    refine goCh Hz (.move rfl <| .extract rfl rfl <| .extract rfl rfl <| .nil) ?_
    clear Hz Az; intro Az Hz
    refine wpList_plain rfl (fun K hK => ?_)
    refine e_alloc Hz m217 83 zc28vpr rfl ?_
    clear Hz Az m217; intro g221 Az w222 Hz m222 hB222 hg222
    clear hB222 hg222
    refine hK _ _ ?_; clear hK K
    refine wpList_plain rfl (fun K hK => ?_)
    refine e_alloc Hz m222 84 zc45vpr rfl ?_
    clear Hz Az m222; intro g223 Az w224 Hz m224 hB224 hg224
    clear hB224 hg224
    refine hK _ _ ?_; clear hK K
    refine wpList_plain rfl (fun K hK => ?_)
    refine e_storeW Hz m224 83 rfl rfl rfl rfl rfl sz28vpr ?_
    clear m224; intro w225 m225 hB225
    clear hB225
    refine hK _ _ ?_; clear hK K
    refine wpList_plain rfl (fun K hK => ?_)
    refine e_storeW Hz m225 84 rfl rfl rfl rfl rfl sz45vpr ?_
    clear m225; intro w226 m226 hB226
    clear hB226
    refine hK _ _ ?_; clear hK K
    refine wpList_nil ?_
    refine hK10 _ _ ?_; clear hK10; try clear K10
    replace Hz : Has 131 [(6, _), (7, _), (8, _), (10, _), (12, _), (13, _), (14, _)] Az := Hz.only [6, 7, 8, 10, 12, 13, 14]
    refine wp_seq_k (fun K21 hK21 => ?_)
    refine wp_region_lit ?_
    refine goCh Hz (.move rfl <| .fieldAddr (off := 8) rfl Tryz.underlying28 rfl (s := 0) (by kernel_rfl) rfl <| .loadB1 m226 (i := 73) rfl rfl rfl Tryz.underlying2 rfl <| .geq rfl rfl <| .move rfl <| .nil) ?_
    clear Hz Az; intro Az Hz
    refine bool_cases Hz (t := 75) rfl ?_ ?_
    ·
     clear Hz; intro hb238 Hz
     try simp only [Q1x, Q2x, Q3x, Q4x, Q5x, Q6x, Q7x, Q8x, Q9x, Q0x, Qax, Qbx] at hb238
     refine goCh Hz (.moveZ rfl <| .loadBRZ m226 (i := 77) rfl rfl Tryz.underlying28 rfl sz28vpr (by simp) (by dsimp only [List.drop, List.take] <;> rfl) <| .nil) ?_
     clear Hz Az; intro Az Hz
     refine st_ge Hz rfl rfl rfl rfl (fun K hK => ?_)
     refine e_call Hz Tryz.func15 rfl rfl rfl rfl (low_nn _ _ _ _ _ _ _ _ y.place (sortP (y.pins ++ [tq])) y.ws _ _ _ _ _ _ _ _ ((m226.rd (i := 75) rfl).any) (by omega)) ?_
     rintro e w241 ⟨rfl, hb241⟩
     have m242 := m226.later hb241
     clear m226
     clear hb241
     refine ⟨_, rfl, ?_⟩; clear Hz Az; intro Az Hz
     refine hK _ _ ?_; clear hK K
     refine goCh Hz (.leqZ rfl rfl <| .pickT rfl rfl <| .assign rfl <| .nil) ?_
     clear Hz Az; intro Az Hz
     refine wpList_nil ?_
     refine hK21 _ _ ?_; clear hK21; try clear K21
     refine wp_seq_k (fun K22 hK22 => ?_)
     replace Hz : Has 131 [(6, _), (7, _), (8, _), (10, _), (12, _), (13, _), (14, _), (15, _)] Az := Hz.only [6, 7, 8, 10, 12, 13, 14, 15]
     refine regS Hz (.fieldAddr (off := 0) rfl Tryz.underlying45 rfl (s := 0) (by kernel_rfl) rfl <| .loadB1 m242 (i := 84) rfl rfl rfl Tryz.underlying37 rfl <| .eql rfl rfl <| .move rfl <| .neqB rfl rfl Tryz.underlying4 <| .nil) ?_
     clear Hz Az; intro Az Hz
     refine bool_cases Hz (t := 85) rfl ?_ ?_
     · intro hb _; exact absurd hb (by first | (simp [hc]; done) | (simp [hc]; omega))
     clear Hz; intro _ Hz
     refine wp_cond_false (Hz.ev (x := .tmp 85) rfl) ?_
     refine wp_skip ?_
     refine hK22 _ _ ?_; clear hK22; try clear K22
     refine wp_seq_k (fun K23 hK23 => ?_)
     refine regS Hz (.move rfl <| .not rfl <| .nil) ?_
     clear Hz Az; intro Az Hz
     refine bool_cases Hz (t := 87) rfl ?_ ?_
     rotate_left
     · intro hb _; exact absurd hb (by first | (simp; done) | (simp; omega))
     clear Hz; intro _ Hz
     refine wp_cond_true (Hz.ev (x := .tmp 87) rfl) ?_
     replace Hz : Has 131 [(6, _), (7, _), (8, _), (10, _), (12, _), (13, _), (14, _)] Az := Hz.only [6, 7, 8, 10, 12, 13, 14]
     refine wp_seq_k (fun K24 hK24 => ?_)
     refine wp_region_lit ?_
     refine goCh Hz (.loadBR m242 (i := 77) rfl rfl Tryz.underlying28 rfl sz28vpr (by simp) (by dsimp only [List.drop, List.take] <;> rfl) <| .loadBR m242 (i := 83) rfl rfl Tryz.underlying28 rfl sz28vpr (by simp) (by dsimp only [List.drop, List.take] <;> rfl) <| .nil) ?_
     clear Hz Az; intro Az Hz
     refine wpList_plain rfl (fun K hK => ?_)
     refine e_call Hz Tryz.func16 rfl rfl rfl rfl (rsame_any y.vo y.bl y.sz y.pe y.to _ _ _ y.place (sortP (y.pins ++ [tq])) y.ws _ _ _ _ _ _ _ _ _ _ _ _ _ _ _ (by omega) (by omega) (by omega) (fun e he => by have := hwo.2 e he; omega) ((m242.rd (i := 74) rfl).any) ((m242.rd (i := 75) rfl).any) ((m242.rd (i := 76) rfl).any) ((m242.rd (i := 79) rfl).any) ((m242.rd (i := 80) rfl).any) ((m242.rd (i := 81) rfl).any)) ?_
     rintro e w262 ⟨rfl, hb262⟩
     have m263 := m242.later hb262
     clear m242
     clear hb262
     refine ⟨_, rfl, ?_⟩; clear Hz Az; intro Az Hz
     refine hK _ _ ?_; clear hK K
     refine goCh Hz (.assign rfl .nil) ?_
     clear Hz Az; intro Az Hz
     refine wpList_nil ?_
     refine hK24 _ _ ?_; clear hK24; try clear K24
     refine wp_ret ?_
     try dsimp only [Exit.then, Exit.inBlock]
     refine (ret1 (fn := Tryz.f4) Hz rfl rfl ?_)
     exact ⟨by first | rfl | simp, m263.below⟩
    ·
     clear Hz; intro hb238 Hz
     try simp only [Q1x, Q2x, Q3x, Q4x, Q5x, Q6x, Q7x, Q8x, Q9x, Q0x, Qax, Qbx] at hb238
     refine goCh Hz (.sk <| .sk <| .sk <| .sk <| .pickF rfl rfl <| .assign rfl <| .nil) ?_
     clear Hz Az; intro Az Hz
     refine wpList_nil ?_
     refine hK21 _ _ ?_; clear hK21; try clear K21
     refine wp_seq_k (fun K25 hK25 => ?_)
     replace Hz : Has 131 [(6, _), (7, _), (8, _), (10, _), (12, _), (13, _), (14, _), (15, _)] Az := Hz.only [6, 7, 8, 10, 12, 13, 14, 15]
     refine regS Hz (.fieldAddr (off := 0) rfl Tryz.underlying45 rfl (s := 0) (by kernel_rfl) rfl <| .loadB1 m226 (i := 84) rfl rfl rfl Tryz.underlying37 rfl <| .eql rfl rfl <| .move rfl <| .neqB rfl rfl Tryz.underlying4 <| .nil) ?_
     clear Hz Az; intro Az Hz
     refine bool_cases Hz (t := 85) rfl ?_ ?_
     · intro hb _; exact absurd hb (by first | (simp [hc]; done) | (simp [hc]; omega))
     clear Hz; intro _ Hz
     refine wp_cond_false (Hz.ev (x := .tmp 85) rfl) ?_
     refine wp_skip ?_
     refine hK25 _ _ ?_; clear hK25; try clear K25
     refine wp_seq_k (fun K26 hK26 => ?_)
     refine regS Hz (.move rfl <| .not rfl <| .nil) ?_
     clear Hz Az; intro Az Hz
     refine wp_cond_true (Hz.ev (x := .tmp 87) rfl) ?_
     replace Hz : Has 131 [(6, _), (7, _), (8, _), (10, _), (12, _), (13, _), (14, _)] Az := Hz.only [6, 7, 8, 10, 12, 13, 14]
     refine wp_seq_k (fun K27 hK27 => ?_)
     refine wp_region_lit ?_
     refine goCh Hz (.loadBR m226 (i := 77) rfl rfl Tryz.underlying28 rfl sz28vpr (by simp) (by dsimp only [List.drop, List.take] <;> rfl) <| .loadBR m226 (i := 83) rfl rfl Tryz.underlying28 rfl sz28vpr (by simp) (by dsimp only [List.drop, List.take] <;> rfl) <| .nil) ?_
     clear Hz Az; intro Az Hz
     refine wpList_plain rfl (fun K hK => ?_)
     refine e_call Hz Tryz.func16 rfl rfl rfl rfl (rsame_any y.vo y.bl y.sz y.pe y.to _ _ _ y.place (sortP (y.pins ++ [tq])) y.ws _ _ _ _ _ _ _ _ _ _ _ _ _ _ _ (by omega) (by omega) (by omega) (fun e he => by have := hwo.2 e he; omega) ((m226.rd (i := 74) rfl).any) ((m226.rd (i := 75) rfl).any) ((m226.rd (i := 76) rfl).any) ((m226.rd (i := 79) rfl).any) ((m226.rd (i := 80) rfl).any) ((m226.rd (i := 81) rfl).any)) ?_
     rintro e w286 ⟨rfl, hb286⟩
     have m287 := m226.later hb286
     clear m226
     clear hb286
     refine ⟨_, rfl, ?_⟩; clear Hz Az; intro Az Hz
     refine hK _ _ ?_; clear hK K
     refine goCh Hz (.assign rfl .nil) ?_
     clear Hz Az; intro Az Hz
     refine wpList_nil ?_
     refine hK27 _ _ ?_; clear hK27; try clear K27
     refine wp_ret ?_
     try dsimp only [Exit.then, Exit.inBlock]
     refine (ret1 (fn := Tryz.f4) Hz rfl rfl ?_)
     exact ⟨by first | rfl | simp, m287.below⟩
end Go.Proofs.YtocfbocdnklllaaGreat.K
