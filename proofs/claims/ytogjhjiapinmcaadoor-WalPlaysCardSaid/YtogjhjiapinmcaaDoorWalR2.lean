/- The reference's disk in the frame: NewDisk, Read. -/
import Derived.Test.YtogjhjiapinmcaaDoorWalR1
namespace Go.Proofs.YtogjhjiapinmcaaDoor.K
open Go.ChangeShapes Go.WideShapes Go.ChangeAt Go.RowKit
set_option linter.unusedVariables false
set_option linter.unusedSimpArgs false

theorem fl60rnd : flatS Tryd.prog 60 [.slice none 0 0, .slice none 0 0, .int .i64 0] = true := by kernel_rfl
theorem inf24rnd : (Tryd.prog.info? 24).map (fun i => (i.zero, i.size, i.bytes)) = some (some (.slice none 0 0), 1, 24) := by kernel_rfl
theorem sz22rnd : (Tryd.prog.info? 22).map (·.size) = some 1 := by kernel_rfl
theorem zc60rnd : ((Tryd.prog.info? 60).bind (·.zero)).map (·.cells.toList) = some [.slice none 0 0, .slice none 0 0, .int .i64 0] := by kernel_rfl
theorem inf5rry : (Tryd.prog.info? 5).map (fun i => (i.zero, i.size, i.bytes)) = some (some (.int .u8 0), 1, 1) := by kernel_rfl
theorem sz24rry : (Tryd.prog.info? 24).map (·.size) = some 1 := by kernel_rfl
theorem sz77rry : (Tryd.prog.info? 77).map (·.size) = some 2 := by kernel_rfl


set_option maxRecDepth 100000
set_option maxHeartbeats 4000000
def curV (secs : List (List Int)) (wl : List (Int × List Int)) (i : Nat) : List Int := wl.foldl (fun s e => if e.1 = (i : Int) then e.2 else s) (secs.getD i [])
theorem curV_take {secs : List (List Int)} {wl : List (Int × List Int)} {i k : Nat} (hk : k < wl.length) : curV secs (wl.take (k + 1)) i = if (wl.getD k (0, [])).1 = (i : Int) then (wl.getD k (0, [])).2 else curV secs (wl.take k) i := by
 unfold curV
 have e : wl.getD k (0, []) = wl[k] := by rw [List.getD, List.getElem?_eq_getElem hk]; rfl
 rw [List.take_succ_eq_append_getElem hk, List.foldl_append, e]; rfl
theorem wD_at {wl : List (Int × List Int)} {k : Nat} (hk : k < wl.length) : (wl.map wD)[k]? = some (wD (wl.getD k (0, []))) := by
 rw [List.getElem?_map, List.getD, List.getElem?_eq_getElem hk]; rfl
theorem rnew_x (X : Cx) (n : Nat) (w0 : World) (hn : n ≤ 1000) (m0 : MemOk X w0 [] w0) :
   Calls Tryd.prog 9 #[.int .i64 n] w0 fun e w' => ∃ (B : Nat) (p : Option Addr) (c : Nat), e = .returned (.pointer (some ⟨B, 0, none⟩)) ∧ MemOk X w0 [(1, .box B 60 [.slice p (List.replicate n zeros).length c, .slice none 0 0, .int .i64 (-1)]), (2, .dat (.slice p (List.replicate n zeros).length c) (.l 1 ((List.replicate n zeros).map bD)))] w' := by
 refine enter (fn := Tryd.f9) Tryd.func9 rfl Tryd.ntmps9 rfl (fun Az Hz => ?_)
 simp only [List.zipIdx_cons, List.zipIdx_nil, List.map_cons, List.map_nil, Nat.reduceAdd, Nat.zero_add] at Hz
 refine regS Hz (.assign rfl <| .nil) ?_
 clear Hz Az; intro Az Hz
 refine wp_seq_k (fun K0 hK0 => ?_)
 refine wp_region_lit ?_
 refine goCh Hz (.build rfl zc60rnd fl60rnd rfl (by dsimp only [setL, List.set] <;> rfl) .nil) ?_
 clear Hz Az; intro Az Hz
 refine wpList_plain rfl (fun K hK => ?_)
 refine e_box Hz m0 20 (cs := [_, _, _]) rfl rfl rfl ?_
 clear Hz Az m0; intro g4 Az w5 Hz m5 hB5 hg5
 clear hB5 hg5
 refine hK _ _ ?_; clear hK K
 refine goCh Hz (.assign rfl .nil) ?_
 clear Hz Az; intro Az Hz
 refine wpList_nil ?_
 refine hK0 _ _ ?_; clear hK0; try clear K0
 refine wp_seq_k (fun K1 hK1 => ?_)
 refine regS Hz (.assign rfl <| .nil) ?_
 clear Hz Az; intro Az Hz
 refine wp_block ?_
 refine wp_loop_ghost (fun g a w => ∃ (k : Nat) (p : Option Addr) (c : Nat), k ≤ n ∧ g = n - k ∧ Has 24 [(0, .int .i64 n), (3, .pointer (some ⟨g4, 0, none⟩)), (4, .int .i64 k)] a ∧ MemOk X w0 [(1, .box g4 60 [.slice p ((List.replicate k zeros).map bD).length c, .slice none 0 0, .int .i64 (-1)]), (2, .row (.slice p ((List.replicate k zeros).map bD).length c) 24 1 ((List.replicate k zeros).map bD))] w) (n) ?_ ?_
 · have mz := m5.nilR 2 24 1
   exact ⟨0, none, 0, Nat.zero_le _, rfl, Hz.only [0, 3, 4], mz.ren [(1, 20), (2, 2)] (by decide)⟩
 ·
  clear Hz m5
  rintro g Az w8 ⟨k, p, c, hkn, hg, Hz, m8⟩
  refine wp_seq_k (fun K2 hK2 => ?_)
  refine regS Hz (.move rfl <| .move rfl <| .c rfl (fun _ h => y_min h rfl rfl (r := (n : Int)) (by omega)) <| .lss rfl rfl <| .nil) ?_
  clear Hz Az; intro Az Hz
  refine bool_cases Hz (t := 10) rfl ?_ ?_
  ·
   clear Hz; intro hb13 Hz
   try simp only [Q1x, Q2x, Q3x, Q4x, Q5x, Q6x, Q7x, Q8x, Q9x, Q0x, Qax, Qbx] at hb13
   have hk : k < n := by have := hb13; first | omega | (simp at this; omega)
   refine wp_cond_true (Hz.ev (x := .tmp 10) rfl) ?_
   refine wp_skip ?_
   refine hK2 _ _ ?_; clear hK2; try clear K2
   refine wp_seq_k (fun K3 hK3 => ?_)
   refine wp_block ?_
   have m14 : MemOk _ _ [(1, _), (2, _)] _ := m8.only [1, 2]; clear m8
   refine region_p 7 (B := [(1, _), (2, _)]) (m14.to ⟨il, il, trivial⟩) m14 (by kernel_rfl) (fun w15 hP15 m15 => ?_); clear m14
   refine goR hP15 [0, 1, 2, 3, 4] [4] 5 0 31 Hz (m15.to ⟨il, il, trivial⟩) (.move rfl <| .move rfl <| .nilCheck rfl <| .fieldAddr (off := 0) rfl Tryd.underlying60 rfl (s := 0) (by kernel_rfl) rfl <| .loadB1 hh (i := 1) rfl rfl rfl Tryd.underlying22 rfl <| .nil) ?_
   clear Hz Az; intro Az Hz
   refine stepE_only 5 rfl (by kernel_rfl) rfl (fun K hK => ?_)
   refine e_call Hz Tryd.func23 rfl rfl rfl rfl (sector_x [] none 0 _ (Rd.nilN _ _ .u8 none) (by simp)) ?_
   rintro e w21 ⟨p21, c21, rfl, ho21, hb21⟩
   have m22 := m15.newN 100 hb21 ho21
   clear m15
   clear hb21 ho21
   refine ⟨_, rfl, ?_⟩; clear Hz Az; intro Az Hz
   refine hK _ _ (m22.to ⟨il, il, trivial⟩) ?_; clear hK K
   have m25 := m22.freezeN 100 rfl; clear m22
   refine stepE_only 6 rfl (by kernel_rfl) rfl (fun K hK => ?_)
   refine e_litR Hz m25 101 (mm := 1) rfl (.cons rfl rfl (.cons (m25.rd (i := 100) rfl) .nil) <| .nil) Tryd.underlying22 inf24rnd rfl rfl rfl rfl rfl ?_
   clear Hz Az m25; intro g24 Az w26 Hz m26
   refine hK _ _ (m26.to ⟨il, il, trivial⟩) ?_; clear hK K
   have m28 := m26.freezeR 101 rfl; clear m26
   refine stepE_end 7 rfl (by kernel_rfl) rfl (by rfl) (fun K hK => ?_)
   refine e_appR Hz m28 2 rfl rfl rfl (m28.rd (i := 101) rfl) Tryd.underlying22 inf24rnd rfl rfl (by decide) (by simp; omega) rfl ?_
   clear Hz Az m28; intro p27 c27 Az w29 Hz m29
   refine hK _ _ ?_; clear hK K
   refine goB hP15 [8, 9] 2 255 1023 Hz (.nilCheck rfl <| .fieldAddr (off := 0) rfl Tryd.underlying60 rfl (s := 0) (by kernel_rfl) rfl <| .nil) ?_
   clear Hz Az; intro Az Hz
   refine stepE_end 10 rfl (by kernel_rfl) rfl (by rfl) (fun K hK => ?_)
   refine e_store1 Hz m29 1 rfl rfl rfl rfl rfl sz22rnd (by dsimp only [List.set] <;> rfl) ?_
   clear m29; intro w32 m32 hB32
   clear hB32
   refine hK _ _ ?_; clear hK K
   refine wpAnyE_done (by kernel_rfl) ?_ _
   refine hK3 _ _ ?_; clear hK3; try clear K3
   replace Hz : Has 24 [(0, _), (3, _), (4, _)] Az := Hz.only [0, 3, 4]
   refine wp_region_lit ?_
   refine goCh Hz (.move rfl <| .add rfl rfl (r := ((k + 1 : Nat) : Int)) (by rw [IntWalk.i64_in _ (by omega)]; omega) <| .assign rfl <| .nil) ?_
   clear Hz Az; intro Az Hz
   refine wpList_nil ?_
   show ∃ n', n' < _ ∧ _
   have e9 : ((List.replicate k zeros).map bD) ++ [[D.ns .u8 (pad [])]] = ((List.replicate (k + 1) zeros).map bD) := by rw [List.replicate_succ', List.map_append]; rfl
   rw [e9] at m32
   exact ⟨n - (k + 1), by omega, k + 1, _, _, by omega, rfl, Hz.only [0, 3, 4], m32.only [1, 2]⟩
  ·
   clear Hz; intro hb13 Hz
   try simp only [Q1x, Q2x, Q3x, Q4x, Q5x, Q6x, Q7x, Q8x, Q9x, Q0x, Qax, Qbx] at hb13
   obtain rfl : k = n := by have := hb13; first | omega | (simp at this; omega)
   refine wp_cond_false (Hz.ev (x := .tmp 10) rfl) ?_
   refine wp_exit ?_
   refine hK1 _ _ ?_; clear hK1; try clear K1
   refine regS Hz (.move rfl <| .assign rfl <| .nil) ?_
   clear Hz Az; intro Az Hz
   refine wp_ret ?_
   try dsimp only [Exit.then, Exit.inBlock]
   refine (ret1 (fn := Tryd.f9) Hz rfl rfl ?_)
   have m39 := m8.freezeR 2 rfl; clear m8
   rw [List.length_map] at m39
   exact ⟨_, _, _, rfl, m39.only [1, 2]⟩
theorem rread_x (X : Cx) (B : Nat) (secs : List (List Int)) (wl : List (Int × List Int)) (i : Nat) (pS pl : Option Addr) (cS cl : Nat) (w0 : World) (hi : i < secs.length) (hwl : wl.length ≤ 1000000) (hsz : (curV secs wl i).length ≤ 1000) (m0 : MemOk X w0 [(1, .box B 60 [.slice pS secs.length cS, .slice pl wl.length cl, .int .i64 (-1)]), (2, .dat (.slice pS secs.length cS) (.l 1 (secs.map bD))), (3, .dat (.slice pl wl.length cl) (.l 2 (wl.map wD)))] w0) :
   Calls Tryd.prog 49 #[.pointer (some ⟨B, 0, none⟩), .int .i64 i] w0 fun e w' => ∃ (p : Option Addr) (c : Nat), e = .returned (.slice p (curV secs wl i).length c) ∧ MemOk X w0 [(1, .box B 60 [.slice pS secs.length cS, .slice pl wl.length cl, .int .i64 (-1)]), (2, .dat (.slice pS secs.length cS) (.l 1 (secs.map bD))), (3, .dat (.slice pl wl.length cl) (.l 2 (wl.map wD))), (4, .num (.slice p (curV secs wl i).length c) 5 .u8 (curV secs wl i))] w' := by
 refine enter (fn := Tryd.f49) Tryd.func49 rfl Tryd.ntmps49 rfl (fun Az Hz => ?_)
 simp only [List.zipIdx_cons, List.zipIdx_nil, List.map_cons, List.map_nil, Nat.reduceAdd, Nat.zero_add] at Hz
 refine regS Hz (.assign rfl <| .nil) ?_
 clear Hz Az; intro Az Hz
 refine wp_seq_k (fun K0 hK0 => ?_)
 refine wp_seq_k (fun K1 hK1 => ?_)
 refine wp_region_lit ?_
 refine goCh Hz (.move rfl <| .lss rfl rfl <| .move rfl <| .nil) ?_
 clear Hz Az; intro Az Hz
 refine bool_cases Hz (t := 9) rfl ?_ ?_
 · intro hb _; exact absurd hb (by rw [decide_eq_true_eq]; omega)
 clear Hz; intro _ Hz
 refine goCh Hz (.moveZ rfl <| .moveZ rfl <| .nilCheckZ rfl <| .fieldAddrZ (off := 0) rfl Tryd.underlying60 rfl (s := 0) (by kernel_rfl) rfl <| .loadB1Z m0 (i := 1) rfl rfl rfl Tryd.underlying22 rfl <| .lenZ rfl Tryd.underlying22 <| .geqZ rfl rfl <| .pickF rfl rfl <| .nil) ?_
 clear Hz Az; intro Az Hz
 refine wpList_nil ?_
 refine hK1 _ _ ?_; clear hK1; try clear K1
 refine bool_cases Hz (t := 17) rfl ?_ ?_
 · intro hb _; exact absurd hb (by rw [decide_eq_true_eq]; omega)
 clear Hz; intro _ Hz
 refine wp_cond_false (Hz.ev (x := .tmp 17) rfl) ?_
 refine wp_skip ?_
 refine hK0 _ _ ?_; clear hK0; try clear K0
 replace Hz : Has 54 [(0, _), (1, _), (4, _)] Az := Hz.only [0, 1, 4]
 refine wp_seq_k (fun K2 hK2 => ?_)
 refine wp_region_lit ?_
 refine goCh Hz (.move rfl <| .nilCheck rfl <| .fieldAddr (off := 0) rfl Tryd.underlying60 rfl (s := 0) (by kernel_rfl) rfl <| .loadB1 m0 (i := 1) rfl rfl rfl Tryd.underlying22 rfl <| .move rfl <| .nil) ?_
 clear Hz Az; intro Az Hz
 obtain ⟨b30, o30, vs30, hp30, hR30, ho30, m30⟩ := m0.openR (i := 2) rfl (i) (r := bD (secs.getD i [])) (bD_at hi) 20 rfl
 cases hp30; clear m0 ho30
 rcases hR30 with _ | ⟨hd30_0, _ | _⟩
 obtain ⟨p31, c31, hv31, hc31⟩ := hd30_0.ns_shape; subst hv31
 have m31 := m30.dat 21 rfl (hd30_0.cast (fun _ h => (free_add rfl h))); clear m30 hd30_0
 refine goCh Hz (.c rfl (fun _ h => y_idx h rfl rfl Tryd.underlying22 sz24rry (i) rfl hi) <| .loadC0 m31 (i := 20) rfl rfl Tryd.underlying24 rfl <| .assign rfl <| .nil) ?_
 clear Hz Az; intro Az Hz
 refine wpList_nil ?_
 refine hK2 _ _ ?_; clear hK2; try clear K2
 refine wp_seq_k (fun K3 hK3 => ?_)
 replace Hz : Has 54 [(0, _), (1, _), (4, _), (5, _)] Az := Hz.only [0, 1, 4, 5]
 refine regS Hz (.assign rfl <| .nil) ?_
 clear Hz Az; intro Az Hz
 refine wp_block ?_
 refine wp_loop_ghost (fun g a w => ∃ (k : Nat) (z : List Int) (pz : Option Addr) (cz : Nat), k ≤ wl.length ∧ g = wl.length - k ∧ z = curV secs (wl.take k) i ∧ Has 54 [(0, .pointer (some ⟨B, 0, none⟩)), (1, .int .i64 i), (5, .slice pz z.length cz), (6, .int .i64 k)] a ∧ MemOk X w0 [(1, .box B 60 [.slice (some ⟨b30, o30, none⟩) secs.length cS, .slice pl wl.length cl, .int .i64 (-1)]), (2, .dat (.slice (some ⟨b30, o30, none⟩) secs.length cS) (.l 1 (secs.map bD))), (3, .dat (.slice pl wl.length cl) (.l 2 (wl.map wD))), (7, .dat (.slice pz z.length cz) (.ns .u8 z))] w) (wl.length) ?_ ?_
 · exact ⟨0, _, _, _, Nat.zero_le _, rfl, rfl, Hz.only [0, 1, 5, 6], m31.ren [(1, 1), (2, 2), (3, 3), (7, 21)] (by decide)⟩
 ·
  clear Hz m31
  rintro g Az w37 ⟨k, z, pz, cz, hkl, hg, hz, Hz, m37⟩
  refine wp_seq_k (fun K4 hK4 => ?_)
  refine regS Hz (.move rfl <| .move rfl <| .nilCheck rfl <| .fieldAddr (off := 1) rfl Tryd.underlying60 rfl (s := 0) (by kernel_rfl) rfl <| .loadB1 m37 (i := 1) rfl rfl rfl Tryd.underlying58 rfl <| .len rfl Tryd.underlying58 <| .lss rfl rfl <| .nil) ?_
  clear Hz Az; intro Az Hz
  refine bool_cases Hz (t := 31) rfl ?_ ?_
  ·
   clear Hz; intro hb45 Hz
   try simp only [Q1x, Q2x, Q3x, Q4x, Q5x, Q6x, Q7x, Q8x, Q9x, Q0x, Qax, Qbx] at hb45
   have hk : k < wl.length := by have := hb45; first | omega | (simp at this; omega)
   refine wp_cond_true (Hz.ev (x := .tmp 31) rfl) ?_
   refine wp_skip ?_
   refine hK4 _ _ ?_; clear hK4; try clear K4
   refine wp_seq_k (fun K5 hK5 => ?_)
   refine wp_block ?_
   replace Hz : Has 54 [(0, _), (1, _), (5, _), (6, _)] Az := Hz.only [0, 1, 5, 6]
   refine wp_seq_k (fun K6 hK6 => ?_)
   refine wp_region_lit ?_
   refine goCh Hz (.move rfl <| .nilCheck rfl <| .fieldAddr (off := 1) rfl Tryd.underlying60 rfl (s := 0) (by kernel_rfl) rfl <| .loadB1 m37 (i := 1) rfl rfl rfl Tryd.underlying58 rfl <| .move rfl <| .nil) ?_
   clear Hz Az; intro Az Hz
   obtain ⟨b58, o58, vs58, hp58, hR58, ho58, m58⟩ := m37.openR (i := 3) rfl (k) (r := wD (wl.getD k (0, []))) (wD_at hk) 100 rfl
   cases hp58; clear m37 ho58
   rcases hR58 with _ | ⟨hd58_0, _ | ⟨hd58_1, _ | _⟩⟩
   obtain rfl := hd58_0.v_out
   clear hd58_0
   obtain ⟨p59, c59, hv59, hc59⟩ := hd58_1.ns_shape; subst hv59
   have m59 := m58.dat 101 rfl (hd58_1.cast (fun _ h => (free_add rfl h))); clear m58 hd58_1
   refine goCh Hz (.c rfl (fun _ h => y_idx h rfl rfl Tryd.underlying58 sz77rry (k) rfl hk) <| .fieldAddrQ 0 rfl Tryd.underlying77 rfl (s := 0) (by kernel_rfl) rfl <| .loadC0 m59 (i := 100) rfl rfl Tryd.underlying3 rfl <| .move rfl <| .eql rfl rfl <| .nil) ?_
   clear Hz Az; intro Az Hz
   refine wpList_nil ?_
   refine hK6 _ _ ?_; clear hK6; try clear K6
   refine bool_cases Hz (t := 43) rfl ?_ ?_
   ·
    clear Hz; intro hb65 Hz
    try simp only [Q1x, Q2x, Q3x, Q4x, Q5x, Q6x, Q7x, Q8x, Q9x, Q0x, Qax, Qbx] at hb65
    have hq : (wl.getD k (0, [])).1 = i := by have := hb65; simpa using this
    have e10 : curV secs (wl.take (k + 1)) i = (wl.getD k (0, [])).2 := by rw [curV_take hk, if_pos hq]
    refine wp_cond_true (Hz.ev (x := .tmp 43) rfl) ?_
    replace Hz : Has 54 [(0, _), (1, _), (5, _), (6, _)] Az := Hz.only [0, 1, 5, 6]
    refine wp_region_lit ?_
    refine goCh Hz (.move rfl <| .nilCheck rfl <| .fieldAddr (off := 1) rfl Tryd.underlying60 rfl (s := 0) (by kernel_rfl) rfl <| .loadB1 m59 (i := 1) rfl rfl rfl Tryd.underlying58 rfl <| .move rfl <| .nil) ?_
    clear Hz Az; intro Az Hz
    obtain ⟨b72, o72, vs72, hp72, hR72, ho72, m72⟩ := m59.openR (i := 3) rfl (k) (r := wD (wl.getD k (0, []))) (wD_at hk) 102 rfl
    cases hp72; clear m59 ho72
    rcases hR72 with _ | ⟨hd72_0, _ | ⟨hd72_1, _ | _⟩⟩
    obtain rfl := hd72_0.v_out
    clear hd72_0
    obtain ⟨p73, c73, hv73, hc73⟩ := hd72_1.ns_shape; subst hv73
    have m73 := m72.dat 103 rfl (hd72_1.cast (fun _ h => (free_add rfl h))); clear m72 hd72_1
    refine goCh Hz (.c rfl (fun _ h => y_idx h rfl rfl Tryd.underlying58 sz77rry (k) rfl hk) <| .fieldAddrQ 1 rfl Tryd.underlying77 rfl (s := 0) (by kernel_rfl) rfl <| .loadC1 m73 (i := 102) (q := 1) rfl rfl rfl Tryd.underlying24 rfl <| .assign rfl <| .nil) ?_
    clear Hz Az; intro Az Hz
    refine wpList_nil ?_
    refine hK5 _ _ ?_; clear hK5; try clear K5
    replace Hz : Has 54 [(0, _), (1, _), (5, _), (6, _)] Az := Hz.only [0, 1, 5, 6]
    refine wp_region_lit ?_
    refine goCh Hz (.move rfl <| .add rfl rfl (r := ((k + 1 : Nat) : Int)) (by rw [IntWalk.i64_in _ (by omega)]; omega) <| .assign rfl <| .nil) ?_
    clear Hz Az; intro Az Hz
    refine wpList_nil ?_
    show ∃ n', n' < _ ∧ _
    exact ⟨wl.length - (k + 1), by omega, k + 1, _, _, _, by omega, rfl, e10.symm, Hz.only [0, 1, 5, 6], m73.ren [(1, 1), (2, 2), (3, 3), (7, 103)] (by decide)⟩
   ·
    clear Hz; intro hb65 Hz
    try simp only [Q1x, Q2x, Q3x, Q4x, Q5x, Q6x, Q7x, Q8x, Q9x, Q0x, Qax, Qbx] at hb65
    have hq : ¬ (wl.getD k (0, [])).1 = i := by have := hb65; simpa using this
    have e10 : curV secs (wl.take (k + 1)) i = z := by rw [curV_take hk, if_neg hq, hz]
    refine wp_cond_false (Hz.ev (x := .tmp 43) rfl) ?_
    refine wp_skip ?_
    refine hK5 _ _ ?_; clear hK5; try clear K5
    replace Hz : Has 54 [(0, _), (1, _), (5, _), (6, _)] Az := Hz.only [0, 1, 5, 6]
    refine wp_region_lit ?_
    refine goCh Hz (.move rfl <| .add rfl rfl (r := ((k + 1 : Nat) : Int)) (by rw [IntWalk.i64_in _ (by omega)]; omega) <| .assign rfl <| .nil) ?_
    clear Hz Az; intro Az Hz
    refine wpList_nil ?_
    show ∃ n', n' < _ ∧ _
    exact ⟨wl.length - (k + 1), by omega, k + 1, _, _, _, by omega, rfl, e10.symm, Hz.only [0, 1, 5, 6], m59.ren [(1, 1), (2, 2), (3, 3), (7, 7)] (by decide)⟩
  ·
   clear Hz; intro hb45 Hz
   try simp only [Q1x, Q2x, Q3x, Q4x, Q5x, Q6x, Q7x, Q8x, Q9x, Q0x, Qax, Qbx] at hb45
   obtain rfl : k = wl.length := by have := hb45; first | omega | (simp at this; omega)
   rw [List.take_length] at hz
   have hzl : z.length ≤ 1000 := by rw [hz]; exact hsz
   refine wp_cond_false (Hz.ev (x := .tmp 31) rfl) ?_
   refine wp_exit ?_
   refine hK3 _ _ ?_; clear hK3; try clear K3
   replace Hz : Has 54 [(0, _), (1, _), (5, _), (6, _)] Az := Hz.only [0, 1, 5, 6]
   refine wp_seq_k (fun K7 hK7 => ?_)
   refine wp_region_lit ?_
   refine goCh Hz (.move rfl .nil) ?_
   clear Hz Az; intro Az Hz
   refine wpList_plain rfl (fun K hK => ?_)
   refine e_app0N Hz m37 100 rfl rfl (m37.nums (i := 7) rfl) Tryd.underlying24 inf5rry (by decide) (by omega) rfl ?_
   clear Hz Az m37; intro p89 c89 Az w90 Hz m90
   refine hK _ _ ?_; clear hK K
   refine goCh Hz (.assign rfl .nil) ?_
   clear Hz Az; intro Az Hz
   refine wpList_nil ?_
   refine hK7 _ _ ?_; clear hK7; try clear K7
   refine wp_ret ?_
   try dsimp only [Exit.then, Exit.inBlock]
   refine (ret1 (fn := Tryd.f49) Hz rfl rfl ?_)
   subst hz
   exact ⟨_, _, rfl, m90.ren [(1, 1), (2, 2), (3, 3), (4, 100)] (by decide)⟩
end Go.Proofs.YtogjhjiapinmcaaDoor.K
