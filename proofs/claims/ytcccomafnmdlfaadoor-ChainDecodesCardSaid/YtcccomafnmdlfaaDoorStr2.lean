/- stream: numbers of the program as bytes: just which; the reference's four bytes. -/
import Derived.Test.YtcccomafnmdlfaaDoorStr1
namespace Go.Proofs.YtcccomafnmdlfaaDoor.K
open Go.ChangeShapes Go.WideShapes Go.ChangeAt Go.RowKit
set_option linter.unusedVariables false
set_option linter.unusedSimpArgs false
set_option maxRecDepth 100000
set_option maxHeartbeats 4000000
theorem pnums_x (xs : List Int) (q : Option Addr) (cq : Nat) (w0 : World) (h0 : Rd (fun _ => True) w0 (.slice q xs.length cq) (.ns .i64 xs)) (hl : xs.length ≤ 1000000) (hxb : ∀ k, k < xs.length → 0 ≤ xs.getD k 0 ∧ xs.getD k 0 ≤ 9223372036854775807) :
   Calls Tryd.prog 71 #[.slice q xs.length cq] w0 fun e w' => ∃ (p : Option Addr) (c : Nat), e = .returned (.slice p (encs xs).length c) ∧ w'.ownsRow w0.heap.size 5 1 (.slice p (encs xs).length c) (encs xs).length ((encs xs).map (Value.int .u8)) ∧ Below w0.heap.size w0 w' := by
 refine ent1 Tryd.func71 rfl Tryd.ntmps71 fun Az Hz => ?_
 have m0 := MemOk.start (fun _ => False) w0
 refine regS Hz (.assign rfl .nil) fun Az Hz => ?_
 refine regS Hz (.assign rfl .nil) fun Az Hz => ?_
 refine wsk fun K0 hK0 => ?_
 refine regS Hz (.move rfl <| .len rfl U27 <| .move rfl .nil) fun Az Hz => ?_
 refine wp_block ?_
 refine wp_loop_ghost (fun g a w => ∃ (k : Nat) (b : List Int) (p : Option Addr) (c : Nat), k ≤ xs.length ∧ g = xs.length - k ∧ b = encs (xs.take k) ∧ Has 20 [(3, .slice p b.length c), (6, .slice q xs.length cq), (7, .int .i64 xs.length), (8, .int .i64 k)] a ∧ MemOk (cn w0) w0 [(9, .num (.slice p b.length c) 5 .u8 b)] w) (xs.length) ?_ ?_
 · have mz := m0.nilN 9 5 .u8
   exact ⟨0, [], _, _, Nat.zero_le _, rfl, rfl, Hz.only [3, 6, 7, 8], mz.only [9]⟩
 clear Hz m0
 rintro g Az w6 ⟨k, b, p, c, hkl, hg, hbe, Hz, m6⟩
 refine regS Hz (.lss rfl rfl .nil) fun Az Hz => ?_
 refine wsk fun K1 hK1 => ?_
 refine bc Hz 9 ?_ ?_
 ·
  intro hb8 Hz; try simp only [QQ, Qax] at hb8
  have hk : k < xs.length := by have := hb8; first | omega | (simp at this; omega)
  have hxk := hxb k hk
  refine wct Hz ?_
  refine zss (hK1 _ _ ?_)
  refine wsk fun K2 hK2 => ?_
  refine wp_block ?_
  refine zsr fun K3 hK3 => ?_
  obtain ⟨gx10, ox10, hp10, hl10, hrg10⟩ := h0.extN (k) hk
  revert Hz
  cases hp10
  intro Hz
  refine gz hK3 Hz (.c rfl (fun _ h => y_idx h rfl rfl U27 fct0 (k) rfl hk) <| .loadAt1 (hrg10 m6 rfl) (q := 0) rfl rfl rfl U3 rfl <| .assign rfl <| .nil) fun Az Hz => ?_
  refine wp_region_lit ?_
  refine goCh Hz (.move rfl <| .move rfl <| .conv rfl U3 U63 (r := xs.getD k 0) (IntWalk.u64_in _ (by omega)) .nil) fun Az Hz => ?_
  refine plz (e_litN Hz m6 100 (k := .u64) rfl rfl U90 fct28 rfl rfl rfl rfl fun g17 Az w18 Hz m18 => ?_)
  have m19 := m18.freezeN 100 rfl
  refine plz (ecn Hz Tryd.func88 rfl m19 101 (pput_x _ [xs.getD k 0] _ ((m19.rd (i := 100) rfl).any) (by simp) (one63 (by omega))) fun p20 c20 Az w20 Hz m21 => ?_)
  refine plz (e_appN Hz m21 9 rfl rfl rfl (m21.numsO (i := 101) rfl) U22 fct4 (by decide) (by rw [hbe]; have h8 := encs_len (xs.take k); rw [List.length_take] at h8; have h9 := encs_len [xs.getD k 0]; rw [List.length_singleton] at h9; omega) rfl fun p23 c23 Az w24 Hz m24 => ?_)
  refine gz hK2 Hz (.assign rfl .nil) fun Az Hz => ?_
  replace Hz := Hz.oz [3, 6, 7, 8]
  refine wp_region_lit ?_
  refine goCh Hz (.inc (k + 1) <| .move rfl .nil) fun Az Hz => ?_
  refine wpList_nil ?_
  show ∃ n', n' < _ ∧ _
  exact ⟨xs.length - (k + 1), by omega, k + 1, _, _, _, by omega, rfl, by rw [encs_snoc _ _ hk, ← hbe, encs_one], Hz.only [3, 6, 7, 8], m24.only [9]⟩
 intro hb8 Hz; try simp only [QQ, Qax] at hb8
 revert Hz
 obtain rfl : k = xs.length := by have := hb8; first | omega | (simp at this; omega)
 intro Hz
 refine wcf Hz ?_
 refine wp_exit ?_
 refine hK0 _ _ ?_
 refine regS Hz (.move rfl <| .assign rfl .nil) fun Az Hz => ?_
 refine rt1 Hz ?_
 rw [List.take_length] at hbe
 revert Hz
 subst hbe
 intro Hz
 exact ⟨_, _, rfl, m6.ok 9 _ rfl, m6.below⟩
theorem pnuml_x (xs : List Int) (q : Option Addr) (cq : Nat) (w0 : World) (h0 : Rd (fun _ => True) w0 (.slice q xs.length cq) (.ns .i64 xs)) (hl : xs.length ≤ 1000000) (hxb : ∀ k, k < xs.length → 0 ≤ xs.getD k 0 ∧ xs.getD k 0 ≤ 9223372036854775807) :
   Calls Tryd.prog 68 #[.slice q xs.length cq] w0 fun e w' => ∃ (p : Option Addr) (c : Nat), e = .returned (.slice p (encs xs).length c) ∧ w'.ownsRow w0.heap.size 5 1 (.slice p (encs xs).length c) (encs xs).length ((encs xs).map (Value.int .u8)) ∧ Below w0.heap.size w0 w' := by
 refine ent1 Tryd.func68 rfl Tryd.ntmps68 fun Az Hz => ?_
 have m0 := MemOk.start (fun _ => False) w0
 refine regS Hz (.assign rfl .nil) fun Az Hz => ?_
 refine regS Hz (.assign rfl .nil) fun Az Hz => ?_
 refine wsk fun K0 hK0 => ?_
 refine regS Hz (.move rfl <| .len rfl U28 <| .move rfl .nil) fun Az Hz => ?_
 refine wp_block ?_
 refine wp_loop_ghost (fun g a w => ∃ (k : Nat) (b : List Int) (p : Option Addr) (c : Nat), k ≤ xs.length ∧ g = xs.length - k ∧ b = encs (xs.take k) ∧ Has 20 [(3, .slice p b.length c), (6, .slice q xs.length cq), (7, .int .i64 xs.length), (8, .int .i64 k)] a ∧ MemOk (cn w0) w0 [(9, .num (.slice p b.length c) 5 .u8 b)] w) (xs.length) ?_ ?_
 · have mz := m0.nilN 9 5 .u8
   exact ⟨0, [], _, _, Nat.zero_le _, rfl, rfl, Hz.only [3, 6, 7, 8], mz.only [9]⟩
 clear Hz m0
 rintro g Az w6 ⟨k, b, p, c, hkl, hg, hbe, Hz, m6⟩
 refine regS Hz (.lss rfl rfl .nil) fun Az Hz => ?_
 refine wsk fun K1 hK1 => ?_
 refine bc Hz 9 ?_ ?_
 ·
  intro hb8 Hz; try simp only [QQ, Qax] at hb8
  have hk : k < xs.length := by have := hb8; first | omega | (simp at this; omega)
  have hxk := hxb k hk
  refine wct Hz ?_
  refine zss (hK1 _ _ ?_)
  refine wsk fun K2 hK2 => ?_
  refine wp_block ?_
  refine zsr fun K3 hK3 => ?_
  obtain ⟨gx10, ox10, hp10, hl10, hrg10⟩ := h0.extN (k) hk
  revert Hz
  cases hp10
  intro Hz
  refine gz hK3 Hz (.c rfl (fun _ h => y_idx h rfl rfl U28 fct14 (k) rfl hk) <| .loadAt1 (hrg10 m6 rfl) (q := 0) rfl rfl rfl U2 rfl <| .assign rfl <| .nil) fun Az Hz => ?_
  refine wp_region_lit ?_
  refine goCh Hz (.move rfl <| .move rfl <| .conv rfl U2 U63 (r := xs.getD k 0) (IntWalk.u64_in _ (by omega)) .nil) fun Az Hz => ?_
  refine plz (e_litN Hz m6 100 (k := .u64) rfl rfl U90 fct28 rfl rfl rfl rfl fun g17 Az w18 Hz m18 => ?_)
  have m19 := m18.freezeN 100 rfl
  refine plz (ecn Hz Tryd.func88 rfl m19 101 (pput_x _ [xs.getD k 0] _ ((m19.rd (i := 100) rfl).any) (by simp) (one63 (by omega))) fun p20 c20 Az w20 Hz m21 => ?_)
  refine plz (e_appN Hz m21 9 rfl rfl rfl (m21.numsO (i := 101) rfl) U22 fct4 (by decide) (by rw [hbe]; have h8 := encs_len (xs.take k); rw [List.length_take] at h8; have h9 := encs_len [xs.getD k 0]; rw [List.length_singleton] at h9; omega) rfl fun p23 c23 Az w24 Hz m24 => ?_)
  refine gz hK2 Hz (.assign rfl .nil) fun Az Hz => ?_
  replace Hz := Hz.oz [3, 6, 7, 8]
  refine wp_region_lit ?_
  refine goCh Hz (.inc (k + 1) <| .move rfl .nil) fun Az Hz => ?_
  refine wpList_nil ?_
  show ∃ n', n' < _ ∧ _
  exact ⟨xs.length - (k + 1), by omega, k + 1, _, _, _, by omega, rfl, by rw [encs_snoc _ _ hk, ← hbe, encs_one], Hz.only [3, 6, 7, 8], m24.only [9]⟩
 intro hb8 Hz; try simp only [QQ, Qax] at hb8
 revert Hz
 obtain rfl : k = xs.length := by have := hb8; first | omega | (simp at this; omega)
 intro Hz
 refine wcf Hz ?_
 refine wp_exit ?_
 refine hK0 _ _ ?_
 refine regS Hz (.move rfl <| .assign rfl .nil) fun Az Hz => ?_
 refine rt1 Hz ?_
 rw [List.take_length] at hbe
 revert Hz
 subst hbe
 intro Hz
 exact ⟨_, _, rfl, m6.ok 9 _ rfl, m6.below⟩
theorem rfour_x (c0 : Int) (w0 : World) (hc : 0 ≤ c0 ∧ c0 < 4294967296) :
   Calls Tryd.prog 21 #[.int .u32 c0] w0 fun e w' => ∃ (p : Option Addr) (c : Nat), e = .returned (.slice p (fourC c0).length c) ∧ w'.ownsRow w0.heap.size 5 1 (.slice p (fourC c0).length c) (fourC c0).length ((fourC c0).map (Value.int .u8)) ∧ Below w0.heap.size w0 w' := by
 refine ent1 Tryd.func21 rfl Tryd.ntmps21 fun Az Hz => ?_
 have m0 := MemOk.start (fun _ => False) w0
 refine regS Hz (.assign rfl .nil) fun Az Hz => ?_
 refine zsr fun K0 hK0 => ?_
 refine goCh Hz (.move rfl <| .conv rfl U65 U5 (r := c0 % 256) (by simp [IntKind.wrap, IntKind.signed, IntKind.bits]) <| .move rfl <| .shr rfl rfl (by decide) (r := c0 / 256) (by rw [show (2 : Int) ^ min (8 : Int).toNat IntKind.u32.bits = 256 from by decide, Int.fdiv_eq_ediv_of_nonneg _ (by decide)]) <| .conv rfl U65 U5 (r := (c0 / 256) % 256) (by simp [IntKind.wrap, IntKind.signed, IntKind.bits]) <| .move rfl <| .shr rfl rfl (by decide) (r := c0 / 65536) (by rw [show (2 : Int) ^ min (16 : Int).toNat IntKind.u32.bits = 65536 from by decide, Int.fdiv_eq_ediv_of_nonneg _ (by decide)]) <| .conv rfl U65 U5 (r := (c0 / 65536) % 256) (by simp [IntKind.wrap, IntKind.signed, IntKind.bits]) <| .move rfl <| .shr rfl rfl (by decide) (r := c0 / 16777216) (by rw [show (2 : Int) ^ min (24 : Int).toNat IntKind.u32.bits = 16777216 from by decide, Int.fdiv_eq_ediv_of_nonneg _ (by decide)]) <| .conv rfl U65 U5 (r := (c0 / 16777216) % 256) (by simp [IntKind.wrap, IntKind.signed, IntKind.bits]) .nil) fun Az Hz => ?_
 refine plz (e_litN Hz m0 20 (k := .u8) rfl rfl U22 fct4 rfl rfl rfl rfl fun g24 Az w25 Hz m25 => ?_)
 refine gz hK0 Hz (.assign rfl .nil) fun Az Hz => ?_
 refine rt1 Hz ?_
 exact ⟨_, _, rfl, m25.ok 20 _ rfl, m25.below⟩
end Go.Proofs.YtcccomafnmdlfaaDoor.K
