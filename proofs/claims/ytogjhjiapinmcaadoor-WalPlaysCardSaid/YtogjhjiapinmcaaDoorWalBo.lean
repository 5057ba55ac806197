/- volume: Bodies says true of equal lists. -/
import Derived.Test.YtogjhjiapinmcaaDoorWal6
namespace Go.Proofs.YtogjhjiapinmcaaDoor.K
open Go.ChangeShapes Go.WideShapes Go.ChangeAt Go.RowKit
set_option linter.unusedVariables false
set_option linter.unusedSimpArgs false

theorem sz24bo2 : (Tryd.prog.info? 24).map (·.size) = some 1 := by kernel_rfl

set_option maxRecDepth 100000
set_option maxHeartbeats 4000000
theorem bodies_any (es : List (List Int)) (p1 p2 : Option Addr) (n1 n2 c1 c2 : Nat) (w0 : World) (h1 : Rd (fun _ => True) w0 (.slice p1 n1 c1) (.l 1 (es.map bD))) (h2 : Rd (fun _ => True) w0 (.slice p2 n2 c2) (.l 1 (es.map bD))) (hl : es.length ≤ 1000000) :
   Calls Tryd.prog 17 #[.slice p1 n1 c1, .slice p2 n2 c2] w0 fun e w' => e = .returned (.bool true) ∧ Below w0.heap.size w0 w' := by
 obtain rfl : n1 = es.length := by obtain ⟨pq, cq, hv, _⟩ := h1.l_shape; injection hv with _ e2 _; rw [List.length_map] at e2; exact e2
 obtain rfl : n2 = es.length := by obtain ⟨pq, cq, hv, _⟩ := h2.l_shape; injection hv with _ e2 _; rw [List.length_map] at e2; exact e2
 refine enter (fn := Tryd.f17) Tryd.func17 rfl Tryd.ntmps17 rfl (fun Az Hz => ?_)
 simp only [List.zipIdx_cons, List.zipIdx_nil, List.map_cons, List.map_nil, Nat.reduceAdd, Nat.zero_add] at Hz
 have m0 := MemOk.start (fun _ => False) w0
 refine regS Hz (.assign rfl <| .nil) ?_
 clear Hz Az; intro Az Hz
 refine wp_seq_k (fun K0 hK0 => ?_)
 refine regS Hz (.move rfl <| .len rfl Tryd.underlying22 <| .move rfl <| .len rfl Tryd.underlying22 <| .neq rfl rfl <| .nil) ?_
 clear Hz Az; intro Az Hz
 refine bool_cases Hz (t := 10) rfl ?_ ?_
 · intro hb _; exact absurd hb (by simp)
 clear Hz; intro _ Hz
 refine wp_cond_false (Hz.ev (x := .tmp 10) rfl) ?_
 refine wp_skip ?_
 refine hK0 _ _ ?_; clear hK0; try clear K0
 refine wp_seq_k (fun K1 hK1 => ?_)
 refine regS Hz (.assign rfl <| .nil) ?_
 clear Hz Az; intro Az Hz
 refine wp_block ?_
 refine wp_loop_ghost (fun g a w => ∃ k : Nat, k ≤ es.length ∧ g = es.length - k ∧ Has 28 [(0, .slice p1 es.length c1), (1, .slice p2 es.length c2), (5, .int .i64 k)] a ∧ MemOk (cn w0) w0 [] w) (es.length) ?_ ?_
 · exact ⟨0, Nat.zero_le _, rfl, Hz.only [0, 1, 5], m0.only []⟩
 ·
  clear Hz m0
  rintro g Az w9 ⟨k, hkl, hg, Hz, m9⟩
  refine wp_seq_k (fun K2 hK2 => ?_)
  refine regS Hz (.move rfl <| .move rfl <| .len rfl Tryd.underlying22 <| .lss rfl rfl <| .nil) ?_
  clear Hz Az; intro Az Hz
  refine bool_cases Hz (t := 14) rfl ?_ ?_
  ·
   clear Hz; intro hb14 Hz
   try simp only [Q1x, Q2x, Q3x, Q4x, Q5x, Q6x, Q7x, Q8x, Q9x, Q0x, Qax, Qbx] at hb14
   have hk : k < es.length := by omega
   refine wp_cond_true (Hz.ev (x := .tmp 14) rfl) ?_
   refine wp_skip ?_
   refine hK2 _ _ ?_; clear hK2; try clear K2
   refine wp_seq_k (fun K3 hK3 => ?_)
   refine wp_block ?_
   refine wp_seq_k (fun K4 hK4 => ?_)
   obtain ⟨gx16, ox16, vx16, hp16, hl16, hR16, hrg16⟩ := h1.extA (k) (r := [.ns .u8 (es.getD k [])]) (bD_at hk)
   cases hp16; clear hl16
   rcases hR16 with _ | ⟨hd16_0, _ | _⟩
   obtain ⟨p17, c17, hv17, hw17⟩ := hd16_0.ns_shape; subst hv17
   obtain ⟨gx19, ox19, vx19, hp19, hl19, hR19, hrg19⟩ := h2.extA (k) (r := [.ns .u8 (es.getD k [])]) (bD_at hk)
   cases hp19; clear hl19
   rcases hR19 with _ | ⟨hd19_0, _ | _⟩
   obtain ⟨p20, c20, hv20, hw20⟩ := hd19_0.ns_shape; subst hv20
   have m21 : MemOk _ _ [] _ := m9.only []; clear m9
   refine region_p 11 (B := []) (m21.to trivial) m21 (by kernel_rfl) (fun w22 hP22 m22 => ?_); clear m21
   refine goR hP22 [0, 1, 2, 3, 4, 5, 6, 7, 8, 9, 10] [3, 4, 8, 9] 11 0 2047 Hz (m22.to trivial) (.move rfl <| .move rfl <| .p (fun _ _ h => y_idx h rfl rfl Tryd.underlying22 sz24bo2 (k) rfl hk) <| .loadAt1 (fun _ h => (hrg16 h rfl)) (q := 0) rfl rfl rfl Tryd.underlying24 rfl <| .str rfl (fun _ h => (hd16_0.now' h rfl).ns_out.nums) Tryd.underlying24 Tryd.underlying5 Tryd.underlying9 <| .move rfl <| .move rfl <| .p (fun _ _ h => y_idx h rfl rfl Tryd.underlying22 sz24bo2 (k) rfl hk) <| .loadAt1 (fun _ h => (hrg19 h rfl)) (q := 0) rfl rfl rfl Tryd.underlying24 rfl <| .str rfl (fun _ h => (hd19_0.now' h rfl).ns_out.nums) Tryd.underlying24 Tryd.underlying5 Tryd.underlying9 <| .neqS rfl rfl <| .nil) ?_
   clear Hz Az; intro Az Hz
   refine wpAnyE_done (by kernel_rfl) ?_ _
   refine hK4 _ _ ?_; clear hK4; try clear K4
   refine bool_cases Hz (t := 27) rfl ?_ ?_
   · intro hb _; exact absurd hb (by simp)
   clear Hz; intro _ Hz
   refine wp_cond_false (Hz.ev (x := .tmp 27) rfl) ?_
   refine wp_skip ?_
   refine hK3 _ _ ?_; clear hK3; try clear K3
   replace Hz : Has 28 [(0, _), (1, _), (5, _)] Az := Hz.only [0, 1, 5]
   refine wp_region_lit ?_
   refine goCh Hz (.move rfl <| .add rfl rfl (r := ((k + 1 : Nat) : Int)) (by rw [IntWalk.i64_in _ (by omega)]; omega) <| .assign rfl <| .nil) ?_
   clear Hz Az; intro Az Hz
   refine wpList_nil ?_
   show ∃ n', n' < _ ∧ _
   exact ⟨es.length - (k + 1), by omega, k + 1, by omega, rfl, Hz.only [0, 1, 5], m22.only []⟩
  ·
   clear Hz; intro hb14 Hz
   try simp only [Q1x, Q2x, Q3x, Q4x, Q5x, Q6x, Q7x, Q8x, Q9x, Q0x, Qax, Qbx] at hb14
   obtain rfl : k = es.length := by omega
   refine wp_cond_false (Hz.ev (x := .tmp 14) rfl) ?_
   refine wp_exit ?_
   refine hK1 _ _ ?_; clear hK1; try clear K1
   refine regS Hz (.assign rfl <| .nil) ?_
   clear Hz Az; intro Az Hz
   refine wp_ret ?_
   try dsimp only [Exit.then, Exit.inBlock]
   refine (ret1 (fn := Tryd.f17) Hz rfl rfl ?_)
   exact ⟨by simp, m9.below⟩
end Go.Proofs.YtogjhjiapinmcaaDoor.K
