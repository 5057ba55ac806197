/- The reference's disk in the frame: eight, sector, spend, Write. -/
import Derived.Test.YtogjhjiapinmcaaDoorWalR0
namespace Go.Proofs.YtogjhjiapinmcaaDoor.K
open Go.ChangeShapes Go.WideShapes Go.ChangeAt Go.RowKit
set_option linter.unusedVariables false
set_option linter.unusedSimpArgs false

theorem inf5re8 : (Tryd.prog.info? 5).map (fun i => (i.zero, i.size, i.bytes)) = some (some (.int .u8 0), 1, 1) := by kernel_rfl
theorem inf5rse : (Tryd.prog.info? 5).map (fun i => (i.zero, i.size, i.bytes)) = some (some (.int .u8 0), 1, 1) := by kernel_rfl

theorem fl77rwy : flatS Tryd.prog 77 [.int .i64 0, .slice none 0 0] = true := by kernel_rfl
theorem inf77rwy : (Tryd.prog.info? 77).map (fun i => (i.zero, i.size, i.bytes)) = some (some (.agg #[.int .i64 0, .slice none 0 0]), 2, 32) := by kernel_rfl
theorem sz58rwy : (Tryd.prog.info? 58).map (·.size) = some 1 := by kernel_rfl
theorem zc77rwy : ((Tryd.prog.info? 77).bind (·.zero)).map (·.cells.toList) = some [.int .i64 0, .slice none 0 0] := by kernel_rfl


set_option maxRecDepth 100000
set_option maxHeartbeats 4000000
theorem gb_snoc (g : Int) : ∀ {k : Nat}, k < 8 → (genB g).take k ++ [g / 2 ^ (8 * k) % 256] = (genB g).take (k + 1)
 | 0, _ => rfl
 | 1, _ => rfl
 | 2, _ => rfl
 | 3, _ => rfl
 | 4, _ => rfl
 | 5, _ => rfl
 | 6, _ => rfl
 | 7, _ => rfl
 | n + 8, h => by omega
theorem padS {b : List Int} {k : Nat} : (b ++ List.replicate k 0) ++ [0] = b ++ List.replicate (k + 1) 0 := by
 rw [List.append_assoc, List.replicate_succ']
def wD (e : Int × List Int) : List D := [.v (.int .i64 e.1), .ns .u8 e.2]
theorem eight_x (gn : Int) (w0 : World) :
   Calls Tryd.prog 42 #[.int .u64 gn] w0 fun e w' => ∃ (p : Option Addr) (c : Nat), e = .returned (.slice p (genB gn).length c) ∧ w'.ownsRow w0.heap.size 5 1 (.slice p (genB gn).length c) (genB gn).length ((genB gn).map (Value.int .u8)) ∧ Below w0.heap.size w0 w' := by
 refine enter (fn := Tryd.f42) Tryd.func42 rfl Tryd.ntmps42 rfl (fun Az Hz => ?_)
 simp only [List.zipIdx_cons, List.zipIdx_nil, List.map_cons, List.map_nil, Nat.reduceAdd, Nat.zero_add] at Hz
 have m0 := MemOk.start (fun _ => False) w0
 refine regS Hz (.assign rfl <| .nil) ?_
 clear Hz Az; intro Az Hz
 refine regS Hz (.assign rfl <| .nil) ?_
 clear Hz Az; intro Az Hz
 refine wp_seq_k (fun K0 hK0 => ?_)
 refine regS Hz (.assign rfl <| .nil) ?_
 clear Hz Az; intro Az Hz
 refine wp_block ?_
 refine wp_loop_ghost (fun g a w => ∃ (k : Nat) (p : Option Addr) (c : Nat), k ≤ 8 ∧ g = 8 - k ∧ Has 18 [(0, .int .u64 gn), (3, .slice p ((genB gn).take k).length c), (4, .int .i64 k)] a ∧ MemOk (cn w0) w0 [(9, .num (.slice p ((genB gn).take k).length c) 5 .u8 ((genB gn).take k))] w) (8) ?_ ?_
 · have mz := m0.nilN 9 5 .u8
   exact ⟨0, _, _, by omega, rfl, Hz.only [0, 3, 4], mz.only [9]⟩
 ·
  clear Hz m0
  rintro g Az w4 ⟨k, p, c, hk8, hg, Hz, m4⟩
  refine wp_seq_k (fun K1 hK1 => ?_)
  refine regS Hz (.move rfl <| .lss rfl rfl <| .nil) ?_
  clear Hz Az; intro Az Hz
  refine bool_cases Hz (t := 6) rfl ?_ ?_
  ·
   clear Hz; intro hb7 Hz
   try simp only [Q1x, Q2x, Q3x, Q4x, Q5x, Q6x, Q7x, Q8x, Q9x, Q0x, Qax, Qbx] at hb7
   have hk : k < 8 := by have := hb7; first | omega | (simp at this; omega)
   refine wp_cond_true (Hz.ev (x := .tmp 6) rfl) ?_
   refine wp_skip ?_
   refine hK1 _ _ ?_; clear hK1; try clear K1
   refine wp_seq_k (fun K2 hK2 => ?_)
   refine wp_block ?_
   refine wp_region_lit ?_
   refine goCh Hz (.move rfl <| .move rfl <| .move rfl <| .mul rfl rfl (r := 8 * (k : Int)) (IntWalk.i64_in _ (by omega)) <| .shr rfl rfl (by omega) (r := gn / 2 ^ (8 * k)) (by rw [shg hk, Int.fdiv_eq_ediv_of_nonneg _ (two_nn _)]) <| .conv rfl Tryd.underlying32 Tryd.underlying5 (r := gn / 2 ^ (8 * k) % 256) (by simp [IntKind.wrap, IntKind.signed, IntKind.bits]) <| .nil) ?_
   clear Hz Az; intro Az Hz
   refine wpList_plain rfl (fun K hK => ?_)
   refine e_litN Hz m4 100 (k := .u8) rfl rfl Tryd.underlying24 inf5re8 rfl rfl rfl rfl ?_
   clear Hz Az m4; intro g14 Az w15 Hz m15
   refine hK _ _ ?_; clear hK K
   refine wpList_plain rfl (fun K hK => ?_)
   refine e_appN Hz m15 9 rfl rfl rfl (m15.numsO (i := 100) rfl) Tryd.underlying24 inf5re8 (by decide) (by rw [List.length_take]; simp; omega) rfl ?_
   clear Hz Az m15; intro p16 c16 Az w17 Hz m17
   refine hK _ _ ?_; clear hK K
   refine goCh Hz (.assign rfl .nil) ?_
   clear Hz Az; intro Az Hz
   refine wpList_nil ?_
   refine hK2 _ _ ?_; clear hK2; try clear K2
   replace Hz : Has 18 [(0, _), (3, _), (4, _)] Az := Hz.only [0, 3, 4]
   refine wp_region_lit ?_
   refine goCh Hz (.move rfl <| .add rfl rfl (r := ((k + 1 : Nat) : Int)) (by rw [IntWalk.i64_in _ (by omega)]; omega) <| .assign rfl <| .nil) ?_
   clear Hz Az; intro Az Hz
   refine wpList_nil ?_
   show ∃ n', n' < _ ∧ _
   rw [gb_snoc gn hk] at Hz m17
   exact ⟨8 - (k + 1), by omega, k + 1, _, _, by omega, rfl, Hz.only [0, 3, 4], m17.only [9]⟩
  ·
   clear Hz; intro hb7 Hz
   try simp only [Q1x, Q2x, Q3x, Q4x, Q5x, Q6x, Q7x, Q8x, Q9x, Q0x, Qax, Qbx] at hb7
   obtain rfl : k = 8 := by have := hb7; first | omega | (simp at this; omega)
   refine wp_cond_false (Hz.ev (x := .tmp 6) rfl) ?_
   refine wp_exit ?_
   refine hK0 _ _ ?_; clear hK0; try clear K0
   refine regS Hz (.move rfl <| .assign rfl <| .nil) ?_
   clear Hz Az; intro Az Hz
   refine wp_ret ?_
   try dsimp only [Exit.then, Exit.inBlock]
   refine (ret1 (fn := Tryd.f42) Hz rfl rfl ?_)
   have e9 : (genB gn).take 8 = genB gn := rfl
   rw [e9] at m4
   exact ⟨_, _, rfl, m4.ok 9 _ rfl, m4.below⟩
theorem sector_x (b : List Int) (pb : Option Addr) (cb : Nat) (w0 : World) (h0 : Rd (fun _ => True) w0 (.slice pb b.length cb) (.ns .u8 b)) (hb : b.length ≤ 64) :
   Calls Tryd.prog 23 #[.slice pb b.length cb] w0 fun e w' => ∃ (p : Option Addr) (c : Nat), e = .returned (.slice p (pad b).length c) ∧ w'.ownsRow w0.heap.size 5 1 (.slice p (pad b).length c) (pad b).length ((pad b).map (Value.int .u8)) ∧ Below w0.heap.size w0 w' := by
 refine enter (fn := Tryd.f23) Tryd.func23 rfl Tryd.ntmps23 rfl (fun Az Hz => ?_)
 simp only [List.zipIdx_cons, List.zipIdx_nil, List.map_cons, List.map_nil, Nat.reduceAdd, Nat.zero_add] at Hz
 have m0 := MemOk.start (fun _ => False) w0
 refine regS Hz (.assign rfl <| .nil) ?_
 clear Hz Az; intro Az Hz
 refine wp_seq_k (fun K0 hK0 => ?_)
 refine wp_region_lit ?_
 refine goCh Hz (.move rfl .nil) ?_
 clear Hz Az; intro Az Hz
 refine wpList_plain rfl (fun K hK => ?_)
 refine e_app0N Hz m0 20 rfl rfl (h0.now' m0 rfl).ns_out.nums Tryd.underlying24 inf5rse (by decide) (by omega) rfl ?_
 clear Hz Az m0; intro p4 c4 Az w5 Hz m5
 refine hK _ _ ?_; clear hK K
 refine goCh Hz (.assign rfl .nil) ?_
 clear Hz Az; intro Az Hz
 refine wpList_nil ?_
 refine hK0 _ _ ?_; clear hK0; try clear K0
 refine wp_seq_k (fun K1 hK1 => ?_)
 refine wp_block ?_
 refine wp_loop_ghost (fun g a w => ∃ (k : Nat) (p : Option Addr) (c : Nat), b.length + k ≤ 64 ∧ g = 64 - (b.length + k) ∧ Has 13 [(3, .slice p (b ++ List.replicate k 0).length c)] a ∧ MemOk (cn w0) w0 [(9, .num (.slice p (b ++ List.replicate k 0).length c) 5 .u8 (b ++ List.replicate k 0))] w) ((64 - b.length)) ?_ ?_
 · have e8 : b ++ List.replicate 0 0 = b := by simp
   exact ⟨0, _, _, by omega, rfl, by rw [e8]; exact Hz.only [3], by rw [e8]; exact m5.ren [(9, 20)] (by decide)⟩
 ·
  clear Hz m5
  rintro g Az w7 ⟨k, p, c, hk64, hg, Hz, m7⟩
  refine wp_seq_k (fun K2 hK2 => ?_)
  refine regS Hz (.move rfl <| .len rfl Tryd.underlying24 <| .lss rfl rfl <| .nil) ?_
  clear Hz Az; intro Az Hz
  refine bool_cases Hz (t := 8) rfl ?_ ?_
  ·
   clear Hz; intro hb11 Hz
   try simp only [Q1x, Q2x, Q3x, Q4x, Q5x, Q6x, Q7x, Q8x, Q9x, Q0x, Qax, Qbx] at hb11
   have hk : b.length + k < 64 := by have := hb11; rw [List.length_append, List.length_replicate] at this; omega
   refine wp_cond_true (Hz.ev (x := .tmp 8) rfl) ?_
   refine wp_skip ?_
   refine hK2 _ _ ?_; clear hK2; try clear K2
   refine wp_block ?_
   refine wp_region_lit ?_
   refine goCh Hz (.move rfl .nil) ?_
   clear Hz Az; intro Az Hz
   refine wpList_plain rfl (fun K hK => ?_)
   refine e_litN Hz m7 100 (k := .u8) rfl rfl Tryd.underlying24 inf5rse rfl rfl rfl rfl ?_
   clear Hz Az m7; intro g13 Az w14 Hz m14
   refine hK _ _ ?_; clear hK K
   refine wpList_plain rfl (fun K hK => ?_)
   refine e_appN Hz m14 9 rfl rfl rfl (m14.numsO (i := 100) rfl) Tryd.underlying24 inf5rse (by decide) (by rw [List.length_append, List.length_replicate]; simp; omega) rfl ?_
   clear Hz Az m14; intro p15 c15 Az w16 Hz m16
   refine hK _ _ ?_; clear hK K
   refine goCh Hz (.assign rfl .nil) ?_
   clear Hz Az; intro Az Hz
   refine wpList_nil ?_
   show ∃ n', n' < _ ∧ _
   rw [padS] at Hz m16
   exact ⟨64 - (b.length + (k + 1)), by omega, k + 1, _, _, by omega, rfl, Hz.only [3], m16.only [9]⟩
  ·
   clear Hz; intro hb11 Hz
   try simp only [Q1x, Q2x, Q3x, Q4x, Q5x, Q6x, Q7x, Q8x, Q9x, Q0x, Qax, Qbx] at hb11
   have hk : b.length + k = 64 := by have := hb11; rw [List.length_append, List.length_replicate] at this; omega
   refine wp_cond_false (Hz.ev (x := .tmp 8) rfl) ?_
   refine wp_exit ?_
   refine hK1 _ _ ?_; clear hK1; try clear K1
   refine regS Hz (.move rfl <| .assign rfl <| .nil) ?_
   clear Hz Az; intro Az Hz
   refine wp_ret ?_
   try dsimp only [Exit.then, Exit.inBlock]
   refine (ret1 (fn := Tryd.f23) Hz rfl rfl ?_)
   have e9 : (b ++ List.replicate k 0) = pad b := by unfold pad; congr 2; omega
   rw [e9] at m7
   rw [e9]
   exact ⟨_, _, rfl, m7.ok 9 _ rfl, m7.below⟩
theorem spend_x (X : Cx) (B : Nat) (pS pl : Option Addr) (nS cS nl cl : Nat) (w0 : World) (m0 : MemOk X w0 [(1, .box B 60 [.slice pS nS cS, .slice pl nl cl, .int .i64 (-1)])] w0) :
   Calls Tryd.prog 35 #[.pointer (some ⟨B, 0, none⟩)] w0 fun e w' => e = .returned (.bool true) ∧ MemOk X w0 [(1, .box B 60 [.slice pS nS cS, .slice pl nl cl, .int .i64 (-1)])] w' := by
 refine enter (fn := Tryd.f35) Tryd.func35 rfl Tryd.ntmps35 rfl (fun Az Hz => ?_)
 simp only [List.zipIdx_cons, List.zipIdx_nil, List.map_cons, List.map_nil, Nat.reduceAdd, Nat.zero_add] at Hz
 refine regS Hz (.assign rfl <| .nil) ?_
 clear Hz Az; intro Az Hz
 refine wp_seq_k (fun K0 hK0 => ?_)
 refine regS Hz (.move rfl <| .nilCheck rfl <| .fieldAddr (off := 2) rfl Tryd.underlying60 rfl (s := 0) (by kernel_rfl) rfl <| .loadB1 m0 (i := 1) rfl rfl rfl Tryd.underlying3 rfl <| .lss rfl rfl <| .nil) ?_
 clear Hz Az; intro Az Hz
 refine bool_cases Hz (t := 7) rfl ?_ ?_
 rotate_left
 · intro hb _; exact absurd hb (by simp)
 clear Hz; intro _ Hz
 refine wp_cond_true (Hz.ev (x := .tmp 7) rfl) ?_
 refine regS Hz (.assign rfl <| .nil) ?_
 clear Hz Az; intro Az Hz
 refine wp_ret ?_
 try dsimp only [Exit.then, Exit.inBlock]
 refine (ret1 (fn := Tryd.f35) Hz rfl rfl ?_)
 exact ⟨rfl, m0.only [1]⟩
theorem rwrite_x (X : Cx) (B : Nat) (secs : List (List Int)) (wl : List (Int × List Int)) (i : Int) (b : List Int) (pS pl pb : Option Addr) (cS cl cb : Nat) (w0 : World) (hi : 0 ≤ i ∧ i < secs.length) (hb : b.length ≤ 64) (hw : wl.length ≤ 1000000) (m0 : MemOk X w0 [(1, .box B 60 [.slice pS secs.length cS, .slice pl wl.length cl, .int .i64 (-1)]), (2, .dat (.slice pS secs.length cS) (.l 1 (secs.map bD))), (3, .dat (.slice pl wl.length cl) (.l 2 (wl.map wD))), (4, .dat (.slice pb b.length cb) (.ns .u8 b))] w0) :
   Calls Tryd.prog 19 #[.pointer (some ⟨B, 0, none⟩), .int .i64 i, .slice pb b.length cb] w0 fun e w' => e = .returned (.int .i64 0) ∧ ∃ (pl' : Option Addr) (cl' : Nat), MemOk X w0 [(1, .box B 60 [.slice pS secs.length cS, .slice pl' (wl ++ [(i, pad b)]).length cl', .int .i64 (-1)]), (2, .dat (.slice pS secs.length cS) (.l 1 (secs.map bD))), (3, .dat (.slice pl' (wl ++ [(i, pad b)]).length cl') (.l 2 ((wl ++ [(i, pad b)]).map wD))), (4, .dat (.slice pb b.length cb) (.ns .u8 b))] w' := by
 refine enter (fn := Tryd.f19) Tryd.func19 rfl Tryd.ntmps19 rfl (fun Az Hz => ?_)
 simp only [List.zipIdx_cons, List.zipIdx_nil, List.map_cons, List.map_nil, Nat.reduceAdd, Nat.zero_add] at Hz
 refine regS Hz (.assign rfl <| .nil) ?_
 clear Hz Az; intro Az Hz
 refine wp_seq_k (fun K0 hK0 => ?_)
 refine wp_seq_k (fun K1 hK1 => ?_)
 refine wp_region_lit ?_
 refine goCh Hz (.move rfl <| .lss rfl rfl <| .move rfl <| .nil) ?_
 clear Hz Az; intro Az Hz
 refine bool_cases Hz (t := 9) rfl ?_ ?_
 · intro hb _; exact absurd hb (by rw [decide_eq_true_eq]; omega)
 clear Hz; intro _ Hz
 refine goCh Hz (.moveZ rfl <| .moveZ rfl <| .nilCheckZ rfl <| .fieldAddrZ (off := 0) rfl Tryd.underlying60 rfl (s := 0) (by kernel_rfl) rfl <| .loadB1Z m0 (i := 1) rfl rfl rfl Tryd.underlying22 rfl <| .lenZ rfl Tryd.underlying22 <| .geqZ rfl rfl <| .pickF rfl rfl <| .nil) ?_
 clear Hz Az; intro Az Hz
 refine wpList_nil ?_
 refine hK1 _ _ ?_; clear hK1; try clear K1
 refine bool_cases Hz (t := 17) rfl ?_ ?_
 · intro hb _; exact absurd hb (by rw [decide_eq_true_eq]; omega)
 clear Hz; intro _ Hz
 refine wp_cond_false (Hz.ev (x := .tmp 17) rfl) ?_
 refine wp_skip ?_
 refine hK0 _ _ ?_; clear hK0; try clear K0
 refine wp_seq_k (fun K2 hK2 => ?_)
 replace Hz : Has 38 [(0, _), (1, _), (2, _), (6, _)] Az := Hz.only [0, 1, 2, 6]
 refine regS Hz (.move rfl <| .len rfl Tryd.underlying24 <| .gtr rfl rfl <| .nil) ?_
 clear Hz Az; intro Az Hz
 refine bool_cases Hz (t := 20) rfl ?_ ?_
 · intro hb _; exact absurd hb (by rw [decide_eq_true_eq]; omega)
 clear Hz; intro _ Hz
 refine wp_cond_false (Hz.ev (x := .tmp 20) rfl) ?_
 refine wp_skip ?_
 refine hK2 _ _ ?_; clear hK2; try clear K2
 refine wp_seq_k (fun K3 hK3 => ?_)
 refine wp_seq_k (fun K4 hK4 => ?_)
 refine wp_region_lit ?_
 refine goCh Hz (.move rfl .nil) ?_
 clear Hz Az; intro Az Hz
 refine wpList_plain rfl (fun K hK => ?_)
 refine e_call Hz Tryd.func35 rfl rfl rfl rfl (spend_x _ _ _ _ _ _ _ _ _ (m0.into [(1, 1)] (by decide) rfl)) ?_
 rintro e w25 ⟨rfl, hm25⟩
 have mx25 := m0.back hm25 [(1, 1)] (by decide); clear hm25 m0
 have m25 : MemOk _ _ [(1, _), (2, _), (3, _), (4, _)] _ := mx25.only [1, 2, 3, 4]; clear mx25
 refine ⟨_, rfl, ?_⟩; clear Hz Az; intro Az Hz
 refine hK _ _ ?_; clear hK K
 refine goCh Hz (.not rfl .nil) ?_
 clear Hz Az; intro Az Hz
 refine wpList_nil ?_
 refine hK4 _ _ ?_; clear hK4; try clear K4
 refine wp_cond_false (Hz.ev (x := .tmp 23) rfl) ?_
 refine wp_skip ?_
 refine hK3 _ _ ?_; clear hK3; try clear K3
 replace Hz : Has 38 [(0, _), (1, _), (2, _), (6, _)] Az := Hz.only [0, 1, 2, 6]
 refine wp_seq_k (fun K5 hK5 => ?_)
 refine wp_region_lit ?_
 refine goCh Hz (.move rfl <| .move rfl <| .nilCheck rfl <| .fieldAddr (off := 1) rfl Tryd.underlying60 rfl (s := 0) (by kernel_rfl) rfl <| .loadB1 m25 (i := 1) rfl rfl rfl Tryd.underlying58 rfl <| .nil) ?_
 clear Hz Az; intro Az Hz
 have m39 := m25.nilR 20 77 2
 clear m25
 refine wpList_plain rfl (fun K hK => ?_)
 refine e_appR Hz m39 20 rfl rfl rfl (m39.rd (i := 3) rfl) Tryd.underlying58 inf77rwy rfl rfl (by decide) (by simp; omega) rfl ?_
 clear Hz Az m39; intro p40 c40 Az w41 Hz m41
 refine hK _ _ ?_; clear hK K
 refine goCh Hz (.move rfl <| .move rfl <| .nil) ?_
 clear Hz Az; intro Az Hz
 refine wpList_plain rfl (fun K hK => ?_)
 refine e_call Hz Tryd.func23 rfl rfl rfl rfl (sector_x b _ _ _ (m41.rd (i := 4) rfl).any hb) ?_
 rintro e w44 ⟨p44, c44, rfl, ho44, hb44⟩
 have m45 := m41.newN 21 hb44 ho44
 clear m41
 clear hb44 ho44
 refine ⟨_, rfl, ?_⟩; clear Hz Az; intro Az Hz
 refine hK _ _ ?_; clear hK K
 refine goCh Hz (.build rfl zc77rwy fl77rwy rfl (by dsimp only [setL, List.set] <;> rfl) .nil) ?_
 clear Hz Az; intro Az Hz
 have m49 := m45.freezeN 21 rfl; clear m45
 refine wpList_plain rfl (fun K hK => ?_)
 refine e_litR Hz m49 22 (mm := 2) rfl (.cons rfl rfl (.cons (.v _) (.cons (m49.rd (i := 21) rfl) .nil)) <| .nil) Tryd.underlying58 inf77rwy rfl rfl rfl rfl rfl ?_
 clear Hz Az m49; intro g48 Az w50 Hz m50
 refine hK _ _ ?_; clear hK K
 have m52 := m50.freezeR 22 rfl; clear m50
 refine wpList_plain rfl (fun K hK => ?_)
 refine e_appR Hz m52 20 rfl rfl rfl (m52.rd (i := 22) rfl) Tryd.underlying58 inf77rwy rfl rfl (by decide) (by simp; omega) rfl ?_
 clear Hz Az m52; intro p51 c51 Az w53 Hz m53
 refine hK _ _ ?_; clear hK K
 refine goCh Hz (.nilCheck rfl <| .fieldAddr (off := 1) rfl Tryd.underlying60 rfl (s := 0) (by kernel_rfl) rfl <| .nil) ?_
 clear Hz Az; intro Az Hz
 refine wpList_plain rfl (fun K hK => ?_)
 refine e_store1 Hz m53 1 rfl rfl rfl rfl rfl sz58rwy (by dsimp only [List.set] <;> rfl) ?_
 clear m53; intro w56 m56 hB56
 clear hB56
 refine hK _ _ ?_; clear hK K
 refine wpList_nil ?_
 refine hK5 _ _ ?_; clear hK5; try clear K5
 replace Hz : Has 38 [(6, _)] Az := Hz.only [6]
 refine regS Hz (.assign rfl <| .nil) ?_
 clear Hz Az; intro Az Hz
 refine wp_ret ?_
 try dsimp only [Exit.then, Exit.inBlock]
 refine (ret1 (fn := Tryd.f19) Hz rfl rfl ?_)
 have m59 := m56.freezeR 20 rfl; clear m56
 have e9 : ([] : List (List D)) ++ wl.map wD ++ [[.v (.int .i64 i), .ns .u8 (pad b)]] = (wl ++ [(i, pad b)]).map wD := by rw [List.nil_append, List.map_append]; rfl
 rw [e9, List.length_map] at m59
 exact ⟨rfl, _, _, m59.ren [(1, 1), (2, 2), (3, 20), (4, 4)] (by decide)⟩
theorem rwrite_no (X : Cx) (B : Nat) (secs : List (List Int)) (wl : List (Int × List Int)) (i : Int) (b : List Int) (pS pl pb : Option Addr) (cS cl cb : Nat) (w0 : World) (hi : ¬ (0 ≤ i ∧ i < secs.length)) (m0 : MemOk X w0 [(1, .box B 60 [.slice pS secs.length cS, .slice pl wl.length cl, .int .i64 (-1)]), (2, .dat (.slice pS secs.length cS) (.l 1 (secs.map bD))), (3, .dat (.slice pl wl.length cl) (.l 2 (wl.map wD))), (4, .dat (.slice pb b.length cb) (.ns .u8 b))] w0) :
   Calls Tryd.prog 19 #[.pointer (some ⟨B, 0, none⟩), .int .i64 i, .slice pb b.length cb] w0 fun e w' => e = .returned (.int .i64 25) ∧ MemOk X w0 [(1, .box B 60 [.slice pS secs.length cS, .slice pl wl.length cl, .int .i64 (-1)]), (2, .dat (.slice pS secs.length cS) (.l 1 (secs.map bD))), (3, .dat (.slice pl wl.length cl) (.l 2 (wl.map wD))), (4, .dat (.slice pb b.length cb) (.ns .u8 b))] w' := by
 refine enter (fn := Tryd.f19) Tryd.func19 rfl Tryd.ntmps19 rfl (fun Az Hz => ?_)
 simp only [List.zipIdx_cons, List.zipIdx_nil, List.map_cons, List.map_nil, Nat.reduceAdd, Nat.zero_add] at Hz
 refine regS Hz (.assign rfl <| .nil) ?_
 clear Hz Az; intro Az Hz
 refine wp_seq_k (fun K0 hK0 => ?_)
 refine wp_seq_k (fun K1 hK1 => ?_)
 refine wp_region_lit ?_
 refine goCh Hz (.move rfl <| .lss rfl rfl <| .move rfl <| .nil) ?_
 clear Hz Az; intro Az Hz
 refine bool_cases Hz (t := 9) rfl ?_ ?_
 ·
  clear Hz; intro hb8 Hz
  try simp only [Q1x, Q2x, Q3x, Q4x, Q5x, Q6x, Q7x, Q8x, Q9x, Q0x, Qax, Qbx] at hb8
  refine goCh Hz (.sk <| .sk <| .sk <| .sk <| .sk <| .sk <| .sk <| .pickT rfl rfl <| .nil) ?_
  clear Hz Az; intro Az Hz
  refine wpList_nil ?_
  refine hK1 _ _ ?_; clear hK1; try clear K1
  refine wp_cond_true (Hz.ev (x := .tmp 17) rfl) ?_
  replace Hz : Has 38 [(0, _), (1, _), (2, _), (6, _)] Az := Hz.only [0, 1, 2, 6]
  refine regS Hz (.assign rfl <| .nil) ?_
  clear Hz Az; intro Az Hz
  refine wp_ret ?_
  try dsimp only [Exit.then, Exit.inBlock]
  refine (ret1 (fn := Tryd.f19) Hz rfl rfl ?_)
  exact ⟨rfl, m0.only [1, 2, 3, 4]⟩
 ·
  clear Hz; intro hb8 Hz
  try simp only [Q1x, Q2x, Q3x, Q4x, Q5x, Q6x, Q7x, Q8x, Q9x, Q0x, Qax, Qbx] at hb8
  refine goCh Hz (.moveZ rfl <| .moveZ rfl <| .nilCheckZ rfl <| .fieldAddrZ (off := 0) rfl Tryd.underlying60 rfl (s := 0) (by kernel_rfl) rfl <| .loadB1Z m0 (i := 1) rfl rfl rfl Tryd.underlying22 rfl <| .lenZ rfl Tryd.underlying22 <| .geqZ rfl rfl <| .pickF rfl rfl <| .nil) ?_
  clear Hz Az; intro Az Hz
  refine wpList_nil ?_
  refine hK1 _ _ ?_; clear hK1; try clear K1
  refine bool_cases Hz (t := 17) rfl ?_ ?_
  rotate_left
  · intro hb _; exact absurd hb (by rw [decide_eq_false_iff_not, Decidable.not_not]; omega)
  clear Hz; intro _ Hz
  refine wp_cond_true (Hz.ev (x := .tmp 17) rfl) ?_
  replace Hz : Has 38 [(0, _), (1, _), (2, _), (6, _)] Az := Hz.only [0, 1, 2, 6]
  refine regS Hz (.assign rfl <| .nil) ?_
  clear Hz Az; intro Az Hz
  refine wp_ret ?_
  try dsimp only [Exit.then, Exit.inBlock]
  refine (ret1 (fn := Tryd.f19) Hz rfl rfl ?_)
  exact ⟨rfl, m0.only [1, 2, 3, 4]⟩
end Go.Proofs.YtogjhjiapinmcaaDoor.K
