/- wal: gens, sectors, Need; pack.Lump. -/
import Derived.Test.YtogjhjiapinmcaaDoorWalM
namespace Go.Proofs.YtogjhjiapinmcaaDoor.K
open Go.ChangeShapes Go.WideShapes Go.ChangeAt Go.RowKit
set_option linter.unusedVariables false
set_option linter.unusedSimpArgs false

theorem inf5wge : (Tryd.prog.info? 5).map (fun i => (i.zero, i.size, i.bytes)) = some (some (.int .u8 0), 1, 1) := by kernel_rfl
theorem sz5wge : (Tryd.prog.info? 5).map (·.size) = some 1 := by kernel_rfl

theorem inf5wlu : (Tryd.prog.info? 5).map (fun i => (i.zero, i.size, i.bytes)) = some (some (.int .u8 0), 1, 1) := by kernel_rfl
theorem inf32wlu : (Tryd.prog.info? 32).map (fun i => (i.zero, i.size, i.bytes)) = some (some (.int .u64 0), 1, 8) := by kernel_rfl
theorem inf32wne : (Tryd.prog.info? 32).map (fun i => (i.zero, i.size, i.bytes)) = some (some (.int .u64 0), 1, 8) := by kernel_rfl
theorem sz24wne : (Tryd.prog.info? 24).map (·.size) = some 1 := by kernel_rfl

set_option maxRecDepth 100000
set_option maxHeartbeats 4000000
theorem bD_at {ls : List (List Int)} {k : Nat} (hk : k < ls.length) : (ls.map bD)[k]? = some (bD (ls.getD k [])) := by
 rw [List.getElem?_map, List.getD, List.getElem?_eq_getElem hk]; rfl
theorem gens_x (gn : Int) (w0 : World) :
   Calls Tryd.prog 24 #[.int .u64 gn] w0 fun e w' => ∃ (p : Option Addr) (c : Nat), e = .returned (.slice p (genB gn).length c) ∧ w'.ownsRow w0.heap.size 5 1 (.slice p (genB gn).length c) (genB gn).length ((genB gn).map (Value.int .u8)) ∧ Below w0.heap.size w0 w' := by
 refine enter (fn := Tryd.f24) Tryd.func24 rfl Tryd.ntmps24 rfl (fun Az Hz => ?_)
 simp only [List.zipIdx_cons, List.zipIdx_nil, List.map_cons, List.map_nil, Nat.reduceAdd, Nat.zero_add] at Hz
 have m0 := MemOk.start (fun _ => False) w0
 refine regS Hz (.assign rfl <| .nil) ?_
 clear Hz Az; intro Az Hz
 refine wp_seq_k (fun K0 hK0 => ?_)
 refine wp_region_lit ?_
 refine wpList_plain rfl (fun K hK => ?_)
 refine e_makeN Hz m0 20 (8) rfl rfl rfl rfl Tryd.underlying24 inf5wge (by decide) (by omega) rfl ?_
 clear Hz Az m0; intro p2 c2 Az w3 Hz m3
 refine hK _ _ ?_; clear hK K
 refine goCh Hz (.assign rfl .nil) ?_
 clear Hz Az; intro Az Hz
 refine wpList_nil ?_
 refine hK0 _ _ ?_; clear hK0; try clear K0
 refine wp_seq_k (fun K1 hK1 => ?_)
 refine regS Hz (.move rfl <| .len rfl Tryd.underlying24 <| .move rfl <| .nil) ?_
 clear Hz Az; intro Az Hz
 refine wp_block ?_
 refine wp_loop_ghost (fun g a w => ∃ (k : Nat), k ≤ 8 ∧ g = 8 - k ∧ Has 21 [(0, .int .u64 gn), (3, .slice p2 8 c2), (7, .int .i64 8), (8, .int .i64 k)] a ∧ MemOk (cn w0) w0 [(20, .num (.slice p2 8 c2) 5 .u8 ((genB gn).take k ++ List.replicate (8 - k) 0))] w) (8) ?_ ?_
 · exact ⟨0, by omega, rfl, Hz.only [0, 3, 7, 8], m3.only [20]⟩
 ·
  clear Hz m3
  rintro g Az w8 ⟨k, hk8, hg, Hz, m8⟩
  refine regS Hz (.lss rfl rfl <| .nil) ?_
  clear Hz Az; intro Az Hz
  refine wp_seq_k (fun K2 hK2 => ?_)
  refine bool_cases Hz (t := 9) rfl ?_ ?_
  ·
   clear Hz; intro hb10 Hz
   try simp only [Q1x, Q2x, Q3x, Q4x, Q5x, Q6x, Q7x, Q8x, Q9x, Q0x, Qax, Qbx] at hb10
   have hk : k < 8 := by have := hb10; first | omega | (simp at this; omega)
   refine wp_cond_true (Hz.ev (x := .tmp 9) rfl) ?_
   refine wp_skip ?_
   refine hK2 _ _ ?_; clear hK2; try clear K2
   refine wp_seq_k (fun K3 hK3 => ?_)
   refine wp_block ?_
   refine regS Hz (.move rfl <| .assign rfl <| .nil) ?_
   clear Hz Az; intro Az Hz
   refine wp_region_lit ?_
   refine goCh Hz (.move rfl <| .move rfl <| .move rfl <| .move rfl <| .mul rfl rfl (r := 8 * (k : Int)) (IntWalk.i64_in _ (by omega)) <| .shr rfl rfl (by omega) (r := gn / 2 ^ (8 * k)) (by rw [shg hk, Int.fdiv_eq_ediv_of_nonneg _ (two_nn _)]) <| .conv rfl Tryd.underlying32 Tryd.underlying5 (r := gn / 2 ^ (8 * k) % 256) (by simp [IntKind.wrap, IntKind.signed, IntKind.bits]) <| .nil) ?_
   clear Hz Az; intro Az Hz
   obtain ⟨g20, hpg20⟩ := m8.openO (i := 20) rfl (Nat.lt_of_le_of_lt (Nat.zero_le _) (show k < ((genB gn).take k ++ List.replicate (8 - k) 0).length by rw [gz_len gn hk8]; omega))
   cases hpg20
   refine goCh Hz (.c rfl (fun _ h => y_idxO h rfl rfl Tryd.underlying24 sz5wge (k) rfl hk) .nil) ?_
   clear Hz Az; intro Az Hz
   refine wpList_plain rfl (fun K hK => ?_)
   refine e_storeO Hz m8 20 rfl rfl rfl rfl (show k < ((genB gn).take k ++ List.replicate (8 - k) 0).length by rw [gz_len gn hk8]; omega) sz5wge ?_
   clear m8; intro w22 m22
   refine hK _ _ ?_; clear hK K
   refine wpList_nil ?_
   refine hK3 _ _ ?_; clear hK3; try clear K3
   replace Hz : Has 21 [(0, _), (3, _), (7, _), (8, _)] Az := Hz.only [0, 3, 7, 8]
   refine wp_region_lit ?_
   refine goCh Hz (.add rfl rfl (r := ((k + 1 : Nat) : Int)) (by rw [IntWalk.i64_in _ (by omega)]; omega) <| .move rfl <| .nil) ?_
   clear Hz Az; intro Az Hz
   refine wpList_nil ?_
   show ∃ n', n' < _ ∧ _
   rw [gz_set gn hk] at m22
   exact ⟨8 - (k + 1), by omega, k + 1, by omega, rfl, Hz.only [0, 3, 7, 8], m22.only [20]⟩
  ·
   clear Hz; intro hb10 Hz
   try simp only [Q1x, Q2x, Q3x, Q4x, Q5x, Q6x, Q7x, Q8x, Q9x, Q0x, Qax, Qbx] at hb10
   obtain rfl : k = 8 := by have := hb10; first | omega | (simp at this; omega)
   refine wp_cond_false (Hz.ev (x := .tmp 9) rfl) ?_
   refine wp_exit ?_
   refine hK1 _ _ ?_; clear hK1; try clear K1
   refine regS Hz (.move rfl <| .assign rfl <| .nil) ?_
   clear Hz Az; intro Az Hz
   refine wp_ret ?_
   try dsimp only [Exit.then, Exit.inBlock]
   refine (ret1 (fn := Tryd.f24) Hz rfl rfl ?_)
   have e9 : (genB gn).take 8 ++ List.replicate (8 - 8) 0 = genB gn := rfl
   rw [e9] at m8
   exact ⟨_, _, rfl, m8.ok 20 _ rfl, m8.below⟩
theorem sectors_x (n : Nat) (w0 : World) (hn : n ≤ 1000000000) :
   Calls Tryd.prog 29 #[.int .i64 n] w0 fun e w' => e = .returned (.int .i64 (secN n : Int)) ∧ Below w0.heap.size w0 w' := by
 refine enter (fn := Tryd.f29) Tryd.func29 rfl Tryd.ntmps29 rfl (fun Az Hz => ?_)
 simp only [List.zipIdx_cons, List.zipIdx_nil, List.map_cons, List.map_nil, Nat.reduceAdd, Nat.zero_add] at Hz
 have m0 := MemOk.start (fun _ => False) w0
 refine regS Hz (.assign rfl <| .nil) ?_
 clear Hz Az; intro Az Hz
 refine regS Hz (.move rfl <| .add rfl rfl (r := (n : Int) + 48) (IntWalk.i64_in _ (by omega)) <| .sub rfl rfl (r := (n : Int) + 47) (by rw [IntWalk.i64_in _ (by omega)]; omega) <| .quo rfl rfl (by omega) (r := (secN n : Int)) (by rw [show ((n : Int) + 47).tdiv 48 = ((n : Int) + 47) / 48 from Int.tdiv_eq_ediv_of_nonneg (by omega), IntWalk.i64_in _ (by omega)]; unfold secN; omega) <| .assign rfl <| .nil) ?_
 clear Hz Az; intro Az Hz
 refine wp_ret ?_
 try dsimp only [Exit.then, Exit.inBlock]
 refine (ret1 (fn := Tryd.f29) Hz rfl rfl ?_)
 exact ⟨rfl, m0.below⟩
theorem plump_x (b : List Int) (p : Option Addr) (c : Nat) (w0 : World) (h0 : Rd (fun _ => True) w0 (.slice p b.length c) (.ns .u8 b)) (hl : b.length ≤ 1000000) :
   Calls Tryd.prog 26 #[.slice p b.length c] w0 fun e w' => ∃ (p : Option Addr) (c : Nat), e = .returned (.slice p (enc b.length ++ b).length c) ∧ w'.ownsRow w0.heap.size 5 1 (.slice p (enc b.length ++ b).length c) (enc b.length ++ b).length ((enc b.length ++ b).map (Value.int .u8)) ∧ Below w0.heap.size w0 w' := by
 refine enter (fn := Tryd.f26) Tryd.func26 rfl Tryd.ntmps26 rfl (fun Az Hz => ?_)
 simp only [List.zipIdx_cons, List.zipIdx_nil, List.map_cons, List.map_nil, Nat.reduceAdd, Nat.zero_add] at Hz
 have m0 := MemOk.start (fun _ => False) w0
 refine regS Hz (.assign rfl <| .nil) ?_
 clear Hz Az; intro Az Hz
 refine wp_seq_k (fun K0 hK0 => ?_)
 refine wp_region_lit ?_
 refine goCh Hz (.move rfl <| .len rfl Tryd.underlying24 <| .conv rfl Tryd.underlying3 Tryd.underlying32 (r := (b.length : Int)) (IntWalk.u64_in _ (by omega)) <| .nil) ?_
 clear Hz Az; intro Az Hz
 refine wpList_plain rfl (fun K hK => ?_)
 refine e_litN Hz m0 20 (k := .u64) rfl rfl Tryd.underlying23 inf32wlu rfl rfl rfl rfl ?_
 clear Hz Az m0; intro g8 Az w9 Hz m9
 refine hK _ _ ?_; clear hK K
 have m10 := m9.freezeN 20 rfl; clear m9
 refine wpList_plain rfl (fun K hK => ?_)
 refine e_call Hz Tryd.func30 rfl rfl rfl rfl (pput_x _ [(b.length : Int)] _ ((m10.rd (i := 20) rfl).any) (by simp) (one63 (by omega))) ?_
 rintro e w11 ⟨p11, c11, rfl, ho11, hb11⟩
 have m12 := m10.newN 21 hb11 ho11
 clear m10
 clear hb11 ho11
 refine ⟨_, rfl, ?_⟩; clear Hz Az; intro Az Hz
 refine hK _ _ ?_; clear hK K
 refine goCh Hz (.move rfl .nil) ?_
 clear Hz Az; intro Az Hz
 refine wpList_plain rfl (fun K hK => ?_)
 refine e_appN Hz m12 21 rfl rfl rfl (h0.now' m12 rfl).ns_out.nums Tryd.underlying24 inf5wlu (by decide) (by rw [encs_one]; have := (enc_len (b.length : Int)).1; omega) rfl ?_
 clear Hz Az m12; intro p15 c15 Az w16 Hz m16
 refine hK _ _ ?_; clear hK K
 refine goCh Hz (.assign rfl .nil) ?_
 clear Hz Az; intro Az Hz
 refine wpList_nil ?_
 refine hK0 _ _ ?_; clear hK0; try clear K0
 refine wp_ret ?_
 try dsimp only [Exit.then, Exit.inBlock]
 refine (ret1 (fn := Tryd.f26) Hz rfl rfl ?_)
 rw [encs_one] at m16
 rw [encs_one]
 exact ⟨_, _, rfl, m16.ok 21 _ rfl, m16.below⟩
theorem need_x (ls : List (List Int)) (q : Option Addr) (cq : Nat) (w0 : World) (h0 : Rd (fun _ => True) w0 (.slice q ls.length cq) (.l 1 (ls.map bD))) (hl : ls.length ≤ 1000) (hb : ∀ l ∈ ls, l.length ≤ 1000000) :
   Calls Tryd.prog 13 #[.slice q ls.length cq] w0 fun e w' => e = .returned (.int .i64 (needN ls : Int)) ∧ Below w0.heap.size w0 w' := by
 refine enter (fn := Tryd.f13) Tryd.func13 rfl Tryd.ntmps13 rfl (fun Az Hz => ?_)
 simp only [List.zipIdx_cons, List.zipIdx_nil, List.map_cons, List.map_nil, Nat.reduceAdd, Nat.zero_add] at Hz
 have m0 := MemOk.start (fun _ => False) w0
 refine regS Hz (.assign rfl <| .nil) ?_
 clear Hz Az; intro Az Hz
 refine regS Hz (.assign rfl <| .nil) ?_
 clear Hz Az; intro Az Hz
 refine wp_seq_k (fun K0 hK0 => ?_)
 refine regS Hz (.move rfl <| .len rfl Tryd.underlying22 <| .move rfl <| .nil) ?_
 clear Hz Az; intro Az Hz
 refine wp_block ?_
 refine wp_loop_ghost (fun g a w => ∃ (k : Nat), k ≤ ls.length ∧ g = ls.length - k ∧ Has 27 [(3, .int .i64 (needN (ls.take k) : Nat)), (6, .slice q ls.length cq), (7, .int .i64 ls.length), (8, .int .i64 k)] a ∧ MemOk (cn w0) w0 [] w) (ls.length) ?_ ?_
 · exact ⟨0, Nat.zero_le _, rfl, Hz.only [3, 6, 7, 8], m0.only []⟩
 ·
  clear Hz m0
  rintro g Az w6 ⟨k, hkl, hg, Hz, m6⟩
  refine regS Hz (.lss rfl rfl <| .nil) ?_
  clear Hz Az; intro Az Hz
  refine wp_seq_k (fun K1 hK1 => ?_)
  refine bool_cases Hz (t := 9) rfl ?_ ?_
  ·
   clear Hz; intro hb8 Hz
   try simp only [Q1x, Q2x, Q3x, Q4x, Q5x, Q6x, Q7x, Q8x, Q9x, Q0x, Qax, Qbx] at hb8
   have hk : k < ls.length := by have := hb8; first | omega | (simp at this; omega)
   have hlk : (ls.getD k []).length ≤ 1000000 := hb _ (by rw [List.getD, List.getElem?_eq_getElem hk]; exact List.getElem_mem hk)
   have hE : (encs [((ls.getD k []).length : Int)]).length = (enc ((ls.getD k []).length : Int)).length := by rw [encs_one]
   have hE2 := (enc_len ((ls.getD k []).length : Int)).1
   have hNt := needN_take hk
   have hNl := needN_le (B := 1000000) (ls := ls.take k) (fun l hl => hb l (List.mem_of_mem_take hl))
   rw [List.length_take] at hNl
   have hr := recN_le (n := (ls.getD k []).length)
   have hs : secN (recN (ls.getD k []).length) ≤ recN (ls.getD k []).length + 47 := by unfold secN; omega
   refine wp_cond_true (Hz.ev (x := .tmp 9) rfl) ?_
   refine wp_skip ?_
   refine hK1 _ _ ?_; clear hK1; try clear K1
   refine wp_seq_k (fun K2 hK2 => ?_)
   refine wp_block ?_
   refine wp_seq_k (fun K3 hK3 => ?_)
   refine wp_region_lit ?_
   obtain ⟨gx10, ox10, vx10, hp10, hl10, hR10, hrg10⟩ := h0.extA (k) (r := bD (ls.getD k [])) (bD_at hk)
   cases hp10; clear hl10
   rcases hR10 with _ | ⟨hd10_0, _ | _⟩
   obtain ⟨p11, c11, hv11, hw11⟩ := hd10_0.ns_shape; subst hv11
   refine goCh Hz (.c rfl (fun _ h => y_idx h rfl rfl Tryd.underlying22 sz24wne (k) rfl hk) <| .loadAt1 (hrg10 m6 rfl) (q := 0) rfl rfl rfl Tryd.underlying24 rfl <| .assign rfl <| .nil) ?_
   clear Hz Az; intro Az Hz
   refine wpList_nil ?_
   refine hK3 _ _ ?_; clear hK3; try clear K3
   refine wp_region_lit ?_
   refine goCh Hz (.move rfl <| .move rfl <| .len rfl Tryd.underlying24 <| .conv rfl Tryd.underlying3 Tryd.underlying32 (r := ((ls.getD k []).length : Int)) (IntWalk.u64_in _ (by omega)) <| .nil) ?_
   clear Hz Az; intro Az Hz
   refine wpList_plain rfl (fun K hK => ?_)
   refine e_litN Hz m6 101 (k := .u64) rfl rfl Tryd.underlying23 inf32wne rfl rfl rfl rfl ?_
   clear Hz Az m6; intro g19 Az w20 Hz m20
   refine hK _ _ ?_; clear hK K
   have m21 := m20.freezeN 101 rfl; clear m20
   refine wpList_plain rfl (fun K hK => ?_)
   refine e_call Hz Tryd.func30 rfl rfl rfl rfl (pput_x _ [((ls.getD k []).length : Int)] _ ((m21.rd (i := 101) rfl).any) (by simp) (one63 (by omega))) ?_
   rintro e w22 ⟨p22, c22, rfl, ho22, hb22⟩
   have m23 := m21.newN 102 hb22 ho22
   clear m21
   clear hb22 ho22
   refine ⟨_, rfl, ?_⟩; clear Hz Az; intro Az Hz
   refine hK _ _ ?_; clear hK K
   refine goCh Hz (.len rfl Tryd.underlying24 <| .move rfl <| .len rfl Tryd.underlying24 <| .add rfl rfl (r := (((encs [((ls.getD k []).length : Int)]).length + (ls.getD k []).length : Nat) : Int)) (by rw [IntWalk.i64_in _ (by omega)]; omega) <| .add rfl rfl (r := ((recN (ls.getD k []).length : Nat) : Int)) (by rw [IntWalk.i64_in _ (by omega)]; unfold recN; omega) <| .nil) ?_
   clear Hz Az; intro Az Hz
   refine wpList_plain rfl (fun K hK => ?_)
   refine e_call Hz Tryd.func29 rfl rfl rfl rfl (sectors_x (recN (ls.getD k []).length) _ (by omega)) ?_
   rintro e w30 ⟨rfl, hb30⟩
   have m31 := m23.later hb30
   clear m23
   clear hb30
   refine ⟨_, rfl, ?_⟩; clear Hz Az; intro Az Hz
   refine hK _ _ ?_; clear hK K
   refine goCh Hz (.add rfl rfl (r := ((needN (ls.take (k + 1)) : Nat) : Int)) (by rw [hNt, IntWalk.i64_in _ (by omega)]; omega) <| .assign rfl <| .nil) ?_
   clear Hz Az; intro Az Hz
   refine wpList_nil ?_
   refine hK2 _ _ ?_; clear hK2; try clear K2
   replace Hz : Has 27 [(3, _), (6, _), (7, _), (8, _)] Az := Hz.only [3, 6, 7, 8]
   refine wp_region_lit ?_
   refine goCh Hz (.add rfl rfl (r := ((k + 1 : Nat) : Int)) (by rw [IntWalk.i64_in _ (by omega)]; omega) <| .move rfl <| .nil) ?_
   clear Hz Az; intro Az Hz
   refine wpList_nil ?_
   show ∃ n', n' < _ ∧ _
   exact ⟨ls.length - (k + 1), by omega, k + 1, by omega, rfl, Hz.only [3, 6, 7, 8], m31.only []⟩
  ·
   clear Hz; intro hb8 Hz
   try simp only [Q1x, Q2x, Q3x, Q4x, Q5x, Q6x, Q7x, Q8x, Q9x, Q0x, Qax, Qbx] at hb8
   obtain rfl : k = ls.length := by have := hb8; first | omega | (simp at this; omega)
   refine wp_cond_false (Hz.ev (x := .tmp 9) rfl) ?_
   refine wp_exit ?_
   refine hK0 _ _ ?_; clear hK0; try clear K0
   refine regS Hz (.move rfl <| .assign rfl <| .nil) ?_
   clear Hz Az; intro Az Hz
   refine wp_ret ?_
   try dsimp only [Exit.then, Exit.inBlock]
   refine (ret1 (fn := Tryd.f13) Hz rfl rfl ?_)
   rw [List.take_length]
   exact ⟨rfl, m6.below⟩
end Go.Proofs.YtogjhjiapinmcaaDoor.K
