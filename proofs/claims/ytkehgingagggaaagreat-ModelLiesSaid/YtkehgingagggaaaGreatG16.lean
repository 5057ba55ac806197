/- General laws of walks. -/
import Derived.Test.YtkehgingagggaaaGreatG15
import Derived.Laws.StructEq
import Derived.ChangeKeysEq
namespace Go.Proofs.YtkehgingagggaaaGreat.K
open Go.ChangeShapes Go.WideShapes Go.ChangeAt Go.RowKit
set_option linter.unusedVariables false
set_option linter.unusedSimpArgs false
section
theorem eqL_no {α : Type} [DecidableEq α] {xs ys : List α} (h : ¬ xs.length = ys.length) : decide (xs = ys) = false := decide_eq_false (fun e => h (by rw [e]))
theorem eqL_all {α : Type} [DecidableEq α] {xs ys : List α} {k : Nat} (hl : xs.length = ys.length) (hk : k = xs.length) (h : xs.take k = ys.take k) : decide (xs = ys) = true := by
 subst hk
 rw [List.take_of_length_le (Nat.le_refl _), List.take_of_length_le (by omega)] at h
 exact decide_eq_true h
theorem eqL_neP {α : Type} [DecidableEq α] {xs ys : List α} {k : Nat} {x y : α} (h1 : xs[k]? = some x) (h2 : ys[k]? = some y) (h : ¬ x = y) : decide (xs = ys) = false := decide_eq_false (fun e => h (by rw [e, h2] at h1; injection h1 with h1; exact h1.symm))
theorem eqL_stepP {α : Type} {xs ys : List α} {k : Nat} {x y : α} (ht : xs.take k = ys.take k) (h1 : xs[k]? = some x) (h2 : ys[k]? = some y) (h : x = y) : xs.take (k + 1) = ys.take (k + 1) := by
 obtain ⟨a1, a2⟩ := List.getElem?_eq_some_iff.1 h1
 obtain ⟨b1, b2⟩ := List.getElem?_eq_some_iff.1 h2
 rw [List.take_add_one, List.take_add_one, ht, h1, h2, h]
theorem eqL_neD {xs ys : List Int} {k : Nat} (h1 : k < xs.length) (h2 : k < ys.length) (h : ¬ xs.getD k 0 = ys.getD k 0) : decide (xs = ys) = false := decide_eq_false (fun e => h (by rw [e]))
theorem eqL_stepD {xs ys : List Int} {k : Nat} (ht : xs.take k = ys.take k) (h1 : k < xs.length) (h2 : k < ys.length) (h : xs.getD k 0 = ys.getD k 0) : xs.take (k + 1) = ys.take (k + 1) := by
 rw [List.getD, List.getD, List.getElem?_eq_getElem h1, List.getElem?_eq_getElem h2] at h
 exact eqL_stepP ht (List.getElem?_eq_getElem h1) (List.getElem?_eq_getElem h2) h
theorem eqP_yes {α : Type} [DecidableEq α] {a c : Int} {b d : α} (h : a = c) : decide ((a, b) = (c, d)) = decide (b = d) := by
 subst h; by_cases hb : b = d
 · rw [decide_eq_true hb, hb]; exact decide_eq_true rfl
 rw [decide_eq_false hb]; exact decide_eq_false (fun e => hb (Prod.mk.inj e).2)
theorem eqP_no {α : Type} [DecidableEq α] {a c : Int} {b d : α} (h : ¬ a = c) : decide ((a, b) = (c, d)) = false := decide_eq_false (fun e => h (Prod.mk.inj e).1)
set_option maxRecDepth 100000
set_option maxHeartbeats 4000000
theorem msE (xs ys : List Int) (p1 p2 : Option Addr) (c1 c2 : Nat) (w0 : World) (hx : xs.length ≤ 1000000) (hy : ys.length ≤ 1000000) (h1 : Rd (fun _ => True) w0 (.slice p1 xs.length c1) (.ns .i64 xs)) (h2 : Rd (fun _ => True) w0 (.slice p2 ys.length c2) (.ns .i64 ys)) :
   Calls Tryz.prog 83 #[.slice p1 xs.length c1, .slice p2 ys.length c2] w0 fun e w' => e = .returned (.bool (decide (xs = ys))) ∧ Below w0.heap.size w0 w' := by
 refine ent2 Tryz.func83 rfl Tryz.ntmps83 fun Az Hz => ?_
 have m0 := MemOk.start (fun _ => False) w0
 refine regS Hz (.assign rfl .nil) fun Az Hz => ?_
 refine wsk fun K0 hK0 => ?_
 refine regS Hz (.move rfl <| .len rfl U35 <| .move rfl <| .len rfl U35 <| .neq rfl rfl .nil) fun Az Hz => ?_
 refine bc Hz 10 ?_ ?_
 ·
  intro hb7 Hz; try simp only [QQ, Qax] at hb7
  have hR : decide (xs = ys) = false := eqL_no (by omega)
  refine wct Hz ?_
  refine regS Hz (.assign rfl .nil) fun Az Hz => ?_
  refine rt1 Hz ?_
  exact ⟨by rw [hR], m0.below⟩
 intro hb7 Hz; try simp only [QQ, Qax] at hb7
 have hlq : xs.length = ys.length := by omega
 refine wcf Hz ?_
 refine zss (hK0 _ _ ?_)
 refine wsk fun K1 hK1 => ?_
 refine regS Hz (.move rfl <| .len rfl U35 <| .move rfl .nil) fun Az Hz => ?_
 refine wp_block ?_
 refine wp_loop_ghost (fun g a w => ∃ k : Nat, k ≤ xs.length ∧ xs.length = ys.length ∧ xs.take k = ys.take k ∧ g = xs.length - k ∧ Has 26 [(0, .slice p1 xs.length c1), (1, .slice p2 ys.length c2), (12, .int .i64 xs.length), (13, .int .i64 k)] a ∧ MemOk (cn w0) w0 [] w) (xs.length) ?_ ?_
 · exact ⟨0, Nat.zero_le _, hlq, rfl, rfl, Hz.only [0, 1, 12, 13], m0.only []⟩
 clear Hz m0
 rintro g Az w12 ⟨k, hkl, hlq, htk, hg, Hz, m12⟩
 refine regS Hz (.lss rfl rfl .nil) fun Az Hz => ?_
 refine wsk fun K2 hK2 => ?_
 refine bc Hz 14 ?_ ?_
 ·
  intro hb14 Hz; try simp only [QQ, Qax] at hb14
  have hk : k < xs.length := by omega
  have hk2 : k < ys.length := by omega
  refine wct Hz ?_
  refine zss (hK2 _ _ ?_)
  refine wsk fun K3 hK3 => ?_
  refine wp_block ?_
  refine regS Hz (.move rfl <| .assign rfl .nil) fun Az Hz => ?_
  refine wsk fun K4 hK4 => ?_
  obtain ⟨gx18, ox18, hp18, hl18, hrg18⟩ := h1.extN (k) hk
  revert Hz
  cases hp18
  intro Hz
  obtain ⟨gx20, ox20, hp20, hl20, hrg20⟩ := h2.extN (k) hk2
  revert Hz
  cases hp20
  intro Hz
  have m21 : MemOk _ _ [] _ := m12.only []; clear m12
  refine region_p 9 (B := []) (m21.to trivial) m21 (by kernel_rfl) (fun w22 hP22 m22 => ?_); clear m21
  refine goR hP22 [0, 1, 2, 3, 4, 5, 6, 7, 8] [3, 7] 9 0 511 Hz (m22.to trivial) (.move rfl <| .move rfl <| .p (fun _ _ h_ => y_idx h_ rfl rfl U35 fct15 (k) rfl hk) <| .loadAt1 (fun _ h_ => (hrg18 h_ rfl)) (q := 0) rfl rfl rfl U3 rfl <| .move rfl <| .move rfl <| .p (fun _ _ h_ => y_idx h_ rfl rfl U35 fct15 (k) rfl hk2) <| .loadAt1 (fun _ h_ => (hrg20 h_ rfl)) (q := 0) rfl rfl rfl U3 rfl <| .neq rfl rfl .nil) fun Az Hz => ?_
  refine wpAnyE_done (by kernel_rfl) ?_ _
  refine hK4 _ _ ?_
  refine bc Hz 24 ?_ ?_
  ·
   intro hb32 Hz; try simp only [QQ, Qax] at hb32
   have hR : decide (xs = ys) = false := eqL_neD hk hk2 hb32
   refine wct Hz ?_
   replace Hz := Hz.oz [0, 1, 12, 13]
   refine regS Hz (.assign rfl .nil) fun Az Hz => ?_
   refine rt1 Hz ?_
   exact ⟨by rw [hR], m22.below⟩
  intro hb32 Hz; try simp only [QQ, Qax] at hb32
  have htk2 := eqL_stepD htk hk hk2 hb32
  refine wcf Hz ?_
  refine zss (hK3 _ _ ?_)
  replace Hz := Hz.oz [0, 1, 12, 13]
  refine wp_region_lit ?_
  refine goCh Hz (.inc (k + 1) <| .move rfl .nil) fun Az Hz => ?_
  refine wpList_nil ?_
  show ∃ n', n' < _ ∧ _
  exact ⟨xs.length - (k + 1), by omega, k + 1, by omega, hlq, htk2, rfl, Hz.only [0, 1, 12, 13], m22.only []⟩
 intro hb14 Hz; try simp only [QQ, Qax] at hb14
 have hR : decide (xs = ys) = true := eqL_all hlq (by omega) htk
 refine wcf Hz ?_
 refine wp_exit ?_
 refine hK1 _ _ ?_
 refine regS Hz (.assign rfl .nil) fun Az Hz => ?_
 refine rt1 Hz ?_
 exact ⟨by rw [hR], m12.below⟩
theorem msF (xs ys : List Int) (p1 p2 : Option Addr) (c1 c2 : Nat) (w0 : World) (hx : xs.length ≤ 1000000) (hy : ys.length ≤ 1000000) (h1 : Rd (fun _ => True) w0 (.slice p1 xs.length c1) (.ns .i64 xs)) (h2 : Rd (fun _ => True) w0 (.slice p2 ys.length c2) (.ns .i64 ys)) :
   Calls Tryz.prog 81 #[.slice p1 xs.length c1, .slice p2 ys.length c2] w0 fun e w' => e = .returned (.bool (decide (xs = ys))) ∧ Below w0.heap.size w0 w' := by
 refine ent2 Tryz.func81 rfl Tryz.ntmps81 fun Az Hz => ?_
 have m0 := MemOk.start (fun _ => False) w0
 refine regS Hz (.assign rfl .nil) fun Az Hz => ?_
 refine wsk fun K0 hK0 => ?_
 refine regS Hz (.move rfl <| .len rfl U48 <| .move rfl <| .len rfl U48 <| .neq rfl rfl .nil) fun Az Hz => ?_
 refine bc Hz 10 ?_ ?_
 ·
  intro hb7 Hz; try simp only [QQ, Qax] at hb7
  have hR : decide (xs = ys) = false := eqL_no (by omega)
  refine wct Hz ?_
  refine regS Hz (.assign rfl .nil) fun Az Hz => ?_
  refine rt1 Hz ?_
  exact ⟨by rw [hR], m0.below⟩
 intro hb7 Hz; try simp only [QQ, Qax] at hb7
 have hlq : xs.length = ys.length := by omega
 refine wcf Hz ?_
 refine zss (hK0 _ _ ?_)
 refine wsk fun K1 hK1 => ?_
 refine regS Hz (.move rfl <| .len rfl U48 <| .move rfl .nil) fun Az Hz => ?_
 refine wp_block ?_
 refine wp_loop_ghost (fun g a w => ∃ k : Nat, k ≤ xs.length ∧ xs.length = ys.length ∧ xs.take k = ys.take k ∧ g = xs.length - k ∧ Has 26 [(0, .slice p1 xs.length c1), (1, .slice p2 ys.length c2), (12, .int .i64 xs.length), (13, .int .i64 k)] a ∧ MemOk (cn w0) w0 [] w) (xs.length) ?_ ?_
 · exact ⟨0, Nat.zero_le _, hlq, rfl, rfl, Hz.only [0, 1, 12, 13], m0.only []⟩
 clear Hz m0
 rintro g Az w12 ⟨k, hkl, hlq, htk, hg, Hz, m12⟩
 refine regS Hz (.lss rfl rfl .nil) fun Az Hz => ?_
 refine wsk fun K2 hK2 => ?_
 refine bc Hz 14 ?_ ?_
 ·
  intro hb14 Hz; try simp only [QQ, Qax] at hb14
  have hk : k < xs.length := by omega
  have hk2 : k < ys.length := by omega
  refine wct Hz ?_
  refine zss (hK2 _ _ ?_)
  refine wsk fun K3 hK3 => ?_
  refine wp_block ?_
  refine regS Hz (.move rfl <| .assign rfl .nil) fun Az Hz => ?_
  refine wsk fun K4 hK4 => ?_
  obtain ⟨gx18, ox18, hp18, hl18, hrg18⟩ := h1.extN (k) hk
  revert Hz
  cases hp18
  intro Hz
  obtain ⟨gx20, ox20, hp20, hl20, hrg20⟩ := h2.extN (k) hk2
  revert Hz
  cases hp20
  intro Hz
  have m21 : MemOk _ _ [] _ := m12.only []; clear m12
  refine region_p 9 (B := []) (m21.to trivial) m21 (by kernel_rfl) (fun w22 hP22 m22 => ?_); clear m21
  refine goR hP22 [0, 1, 2, 3, 4, 5, 6, 7, 8] [3, 7] 9 0 511 Hz (m22.to trivial) (.move rfl <| .move rfl <| .p (fun _ _ h_ => y_idx h_ rfl rfl U48 fct18 (k) rfl hk) <| .loadAt1 (fun _ h_ => (hrg18 h_ rfl)) (q := 0) rfl rfl rfl U2 rfl <| .move rfl <| .move rfl <| .p (fun _ _ h_ => y_idx h_ rfl rfl U48 fct18 (k) rfl hk2) <| .loadAt1 (fun _ h_ => (hrg20 h_ rfl)) (q := 0) rfl rfl rfl U2 rfl <| .neq rfl rfl .nil) fun Az Hz => ?_
  refine wpAnyE_done (by kernel_rfl) ?_ _
  refine hK4 _ _ ?_
  refine bc Hz 24 ?_ ?_
  ·
   intro hb32 Hz; try simp only [QQ, Qax] at hb32
   have hR : decide (xs = ys) = false := eqL_neD hk hk2 hb32
   refine wct Hz ?_
   replace Hz := Hz.oz [0, 1, 12, 13]
   refine regS Hz (.assign rfl .nil) fun Az Hz => ?_
   refine rt1 Hz ?_
   exact ⟨by rw [hR], m22.below⟩
  intro hb32 Hz; try simp only [QQ, Qax] at hb32
  have htk2 := eqL_stepD htk hk hk2 hb32
  refine wcf Hz ?_
  refine zss (hK3 _ _ ?_)
  replace Hz := Hz.oz [0, 1, 12, 13]
  refine wp_region_lit ?_
  refine goCh Hz (.inc (k + 1) <| .move rfl .nil) fun Az Hz => ?_
  refine wpList_nil ?_
  show ∃ n', n' < _ ∧ _
  exact ⟨xs.length - (k + 1), by omega, k + 1, by omega, hlq, htk2, rfl, Hz.only [0, 1, 12, 13], m22.only []⟩
 intro hb14 Hz; try simp only [QQ, Qax] at hb14
 have hR : decide (xs = ys) = true := eqL_all hlq (by omega) htk
 refine wcf Hz ?_
 refine wp_exit ?_
 refine hK1 _ _ ?_
 refine regS Hz (.assign rfl .nil) fun Az Hz => ?_
 refine rt1 Hz ?_
 exact ⟨by rw [hR], m12.below⟩
theorem mbeq (xs ys : List Int) (p1 p2 : Option Addr) (c1 c2 : Nat) (w0 : World) (h1 : Rd (fun _ => True) w0 (.slice p1 xs.length c1) (.ns .u8 xs)) (h2 : Rd (fun _ => True) w0 (.slice p2 ys.length c2) (.ns .u8 ys)) (hb1 : BytesL xs) (hb2 : BytesL ys) :
   Calls Tryz.prog 64 #[.slice p1 xs.length c1, .slice p2 ys.length c2] w0 fun e w' => e = .returned (.bool (decide (xs = ys))) ∧ Below w0.heap.size w0 w' := by
 refine ent2 Tryz.func64 rfl Tryz.ntmps64 fun Az Hz => ?_
 have m0 := MemOk.start (fun _ => False) w0
 refine regS Hz (.assign rfl .nil) fun Az Hz => ?_
 refine regS Hz (.move rfl <| .str rfl (h1.now' m0 rfl).ns_out.nums U22 U5 U9 <| .move rfl <| .str rfl (h2.now' m0 rfl).ns_out.nums U22 U5 U9 <| .eqlS rfl rfl <| .assign rfl .nil) fun Az Hz => ?_
 refine rt1 Hz ?_
 exact ⟨by rw [str_beq hb1 hb2], m0.below⟩
theorem mclo (xb yb : Int) (xd yd : List Int) (p1 p2 : Option Addr) (c1 c2 : Nat) (w0 : World) (h1 : Rd (fun _ => True) w0 (.slice p1 xd.length c1) (.ns .u8 xd)) (h2 : Rd (fun _ => True) w0 (.slice p2 yd.length c2) (.ns .u8 yd)) (hb1 : BytesL xd) (hb2 : BytesL yd) :
   Calls Tryz.prog 142 #[.agg #[.int .i64 xb, .slice p1 xd.length c1], .agg #[.int .i64 yb, .slice p2 yd.length c2]] w0 fun e w' => e = .returned (.bool (decide ((xb, xd) = (yb, yd)))) ∧ Below w0.heap.size w0 w' := by
 refine ent2 Tryz.func142 rfl Tryz.ntmps142 fun Az Hz => ?_
 have m0 := MemOk.start (fun _ => False) w0
 refine zsr fun K0 hK0 => ?_
 refine plz (e_box Hz m0 9 (cs := [_, _]) rfl rfl rfl fun g1 Az w2 Hz m2 _ _ => ?_)
 refine plz (e_box Hz m2 10 (cs := [_, _]) rfl rfl rfl fun g3 Az w4 Hz m4 _ _ => ?_)
 refine gz hK0 Hz (.assign rfl .nil) fun Az Hz => ?_
 refine zsr fun K1 hK1 => ?_
 refine goCh Hz (.fa 0 rfl U59 <| .lb m4 9 U3 rfl rfl rfl <| .fa 0 rfl U59 <| .lb m4 10 U3 rfl rfl rfl <| .eql rfl rfl <| .move rfl .nil) fun Az Hz => ?_
 refine bc Hz 10 ?_ ?_
 ·
  intro hb18 Hz; try simp only [QQ, Qax] at hb18
  have hR : decide ((xb, xd) = (yb, yd)) = decide (xd = yd) := eqP_yes hb18
  refine goCh Hz (.faZ 1 rfl U59 <| .loadB1Z m4 (i := 9) rfl rfl rfl U22 rfl <| .faZ 1 rfl U59 <| .loadB1Z m4 (i := 10) rfl rfl rfl U22 rfl .nil) fun Az Hz => ?_
  refine stz Hz (ecb Hz Tryz.func64 rfl m4 (mbeq xd yd _ _ _ _ _ ((h1.now' m4 rfl).any) ((h2.now' m4 rfl).any) hb1 hb2) fun Az w23 Hz m24 => ?_)
  refine gz hK1 Hz (.pickT rfl rfl <| .assign rfl <| .nil) fun Az Hz => ?_
  refine rt1 Hz ?_
  exact ⟨by rw [hR], m24.below⟩
 intro hb18 Hz; try simp only [QQ, Qax] at hb18
 have hR : decide ((xb, xd) = (yb, yd)) = false := eqP_no hb18
 refine gz hK1 Hz (.sk <| .sk <| .sk <| .sk <| .sk <| .pickF rfl rfl <| .assign rfl <| .nil) fun Az Hz => ?_
 refine rt1 Hz ?_
 exact ⟨by rw [hR], m4.below⟩
theorem meqf (xs ys : List (Int × List Int)) (p1 p2 : Option Addr) (n1 n2 c1 c2 : Nat) (w0 : World) (h1 : Rd (fun _ => True) w0 (.slice p1 n1 c1) (.l 2 (xs.map itD))) (h2 : Rd (fun _ => True) w0 (.slice p2 n2 c2) (.l 2 (ys.map itD))) (hl1 : xs.length ≤ 1000000) (hl2 : ys.length ≤ 1000000) (hi1 : ∀ e ∈ xs, BytesL e.2) (hi2 : ∀ e ∈ ys, BytesL e.2) :
   Calls Tryz.prog 141 #[.slice p1 n1 c1, .slice p2 n2 c2, .func (.func 142) #[] #[]] w0 fun e w' => e = .returned (.bool (decide (xs = ys))) ∧ Below w0.heap.size w0 w' := by
 obtain rfl : n1 = xs.length := by obtain ⟨pq, cq, hv, _⟩ := h1.l_shape; injection hv with _ e2 _; rw [List.length_map] at e2; exact e2
 obtain rfl : n2 = ys.length := by obtain ⟨pq, cq, hv, _⟩ := h2.l_shape; injection hv with _ e2 _; rw [List.length_map] at e2; exact e2
 refine ent3 Tryz.func141 rfl Tryz.ntmps141 fun Az Hz => ?_
 have m0 := MemOk.start (fun _ => False) w0
 refine regS Hz (.assign rfl .nil) fun Az Hz => ?_
 refine wsk fun K0 hK0 => ?_
 refine regS Hz (.move rfl <| .len rfl U36 <| .move rfl <| .len rfl U36 <| .neq rfl rfl .nil) fun Az Hz => ?_
 refine bc Hz 14 ?_ ?_
 ·
  intro hb7 Hz; try simp only [QQ, Qax] at hb7
  have hR : decide (xs = ys) = false := eqL_no (by omega)
  refine wct Hz ?_
  refine regS Hz (.assign rfl .nil) fun Az Hz => ?_
  refine rt1 Hz ?_
  exact ⟨by rw [hR], m0.below⟩
 intro hb7 Hz; try simp only [QQ, Qax] at hb7
 have hlq : xs.length = ys.length := by omega
 refine wcf Hz ?_
 refine zss (hK0 _ _ ?_)
 refine wsk fun K1 hK1 => ?_
 refine regS Hz (.move rfl <| .len rfl U36 <| .move rfl .nil) fun Az Hz => ?_
 refine wp_block ?_
 refine wp_loop_ghost (fun g a w => ∃ k : Nat, k ≤ xs.length ∧ xs.length = ys.length ∧ xs.take k = ys.take k ∧ g = xs.length - k ∧ Has 32 [(0, .slice p1 xs.length c1), (1, .slice p2 ys.length c2), (2, .func (.func 142) #[] #[]), (15, .slice p1 xs.length c1), (16, .int .i64 xs.length), (17, .int .i64 k)] a ∧ MemOk (cn w0) w0 [] w) (xs.length) ?_ ?_
 · exact ⟨0, Nat.zero_le _, hlq, rfl, rfl, Hz.only [0, 1, 2, 15, 16, 17], m0.only []⟩
 clear Hz m0
 rintro g Az w12 ⟨k, hkl, hlq, htk, hg, Hz, m12⟩
 refine regS Hz (.lss rfl rfl .nil) fun Az Hz => ?_
 refine wsk fun K2 hK2 => ?_
 refine bc Hz 18 ?_ ?_
 ·
  intro hb14 Hz; try simp only [QQ, Qax] at hb14
  have hk : k < xs.length := by omega
  have hk2 : k < ys.length := by omega
  obtain ⟨⟨xb, xd⟩, hes⟩ : ∃ e, xs[k]? = some e := ⟨_, List.getElem?_eq_getElem hk⟩
  obtain ⟨⟨yb, yd⟩, hfs⟩ : ∃ e, ys[k]? = some e := ⟨_, List.getElem?_eq_getElem hk2⟩
  have hx1 := hi1 _ (List.mem_of_getElem? hes)
  have hy1 := hi2 _ (List.mem_of_getElem? hfs)
  refine wct Hz ?_
  refine zss (hK2 _ _ ?_)
  refine wsk fun K3 hK3 => ?_
  refine wp_block ?_
  refine zsr fun K4 hK4 => ?_
  refine goCh Hz (.move rfl .nil) fun Az Hz => ?_
  obtain ⟨gx18, ox18, vx18, hp18, hl18, hR18, hrg18⟩ := h1.extA (k) (r := [.v (.int .i64 xb), .ns .u8 xd]) (itD_get hes)
  revert Hz
  cases hp18
  rcases hR18 with _ | ⟨hd18_0, _ | ⟨hd18_1, _ | _⟩⟩
  obtain rfl := hd18_0.v_out
  clear hd18_0
  obtain ⟨p19, c19, hv19, hw19⟩ := hd18_1.ns_shape; subst hv19
  intro Hz
  refine goCh Hz (.c rfl (fun _ h_ => y_idx h_ rfl rfl U36 fct3 (k) rfl hk) <| .loadAt (hrg18 m12 rfl) rfl U59 rfl fct3 .nil) fun Az Hz => ?_
  refine plz (e_alloc Hz m12 101 fct4 rfl fun g22 Az w23 Hz m23 _ _ => ?_)
  refine goCh Hz (.assign rfl .nil) fun Az Hz => ?_
  refine plz (stw Hz m23 101 fct3 fun w25 m25 _ => ?_)
  refine znl (hK4 _ _ ?_)
  refine zsr fun K5 hK5 => ?_
  refine goCh Hz (.move rfl <| .move rfl .nil) fun Az Hz => ?_
  obtain ⟨gx31, ox31, vx31, hp31, hl31, hR31, hrg31⟩ := h2.extA (k) (r := [.v (.int .i64 yb), .ns .u8 yd]) (itD_get hfs)
  revert Hz
  cases hp31
  rcases hR31 with _ | ⟨hd31_0, _ | ⟨hd31_1, _ | _⟩⟩
  obtain rfl := hd31_0.v_out
  clear hd31_0
  obtain ⟨p32, c32, hv32, hw32⟩ := hd31_1.ns_shape; subst hv32
  intro Hz
  refine goCh Hz (.c rfl (fun _ h_ => y_idx h_ rfl rfl U36 fct3 (k) rfl hk2) <| .loadAt (hrg31 m25 rfl) rfl U59 rfl fct3 .nil) fun Az Hz => ?_
  refine plz (e_alloc Hz m25 103 fct4 rfl fun g35 Az w36 Hz m36 _ _ => ?_)
  refine plz (stw Hz m36 103 fct3 fun w37 m37 _ => ?_)
  refine znl (hK5 _ _ ?_)
  replace Hz := Hz.oz [0, 1, 2, 15, 16, 17, 8, 9]
  refine zsr fun K6 hK6 => ?_
  refine goCh Hz (.move rfl <| .loadBR m37 (i := 101) rfl rfl U59 rfl fct3 (by simp) (by dsimp only [List.drop, List.take] <;> rfl) <| .loadBR m37 (i := 103) rfl rfl U59 rfl fct3 (by simp) (by dsimp only [List.drop, List.take] <;> rfl) .nil) fun Az Hz => ?_
  refine plz (e_callV Hz rfl Tryz.func142 rfl rfl rfl rfl (mclo xb yb xd yd _ _ _ _ _ ((hd18_1.now' m37 rfl).any) ((hd31_1.now' m37 rfl).any) hx1 hy1) ?_)
  rintro e w45 ⟨rfl, hb45⟩
  have m46 := m37.later hb45
  refine ⟨_, rfl, ?_⟩; intro Az Hz
  refine gz hK6 Hz (.not rfl .nil) fun Az Hz => ?_
  refine bc Hz 30 ?_ ?_
  ·
   intro hb49 Hz; try simp only [QQ, Qax] at hb49
   have hR : decide (xs = ys) = false := eqL_neP hes hfs hb49
   refine wct Hz ?_
   replace Hz := Hz.oz [0, 1, 2, 15, 16, 17]
   refine regS Hz (.assign rfl .nil) fun Az Hz => ?_
   refine rt1 Hz ?_
   exact ⟨by rw [hR], m46.below⟩
  intro hb49 Hz; try simp only [QQ, Qax] at hb49
  have htk2 := eqL_stepP htk hes hfs hb49
  refine wcf Hz ?_
  refine zss (hK3 _ _ ?_)
  replace Hz := Hz.oz [0, 1, 2, 15, 16, 17]
  refine wp_region_lit ?_
  refine goCh Hz (.inc (k + 1) <| .move rfl .nil) fun Az Hz => ?_
  refine wpList_nil ?_
  show ∃ n', n' < _ ∧ _
  exact ⟨xs.length - (k + 1), by omega, k + 1, by omega, hlq, htk2, rfl, Hz.only [0, 1, 2, 15, 16, 17], m46.only []⟩
 intro hb14 Hz; try simp only [QQ, Qax] at hb14
 have hR : decide (xs = ys) = true := eqL_all hlq (by omega) htk
 refine wcf Hz ?_
 refine wp_exit ?_
 refine hK1 _ _ ?_
 refine regS Hz (.assign rfl .nil) fun Az Hz => ?_
 refine rt1 Hz ?_
 exact ⟨by rw [hR], m12.below⟩
theorem mpsi (xs ys : List (Int × List Int)) (p1 p2 : Option Addr) (n1 n2 c1 c2 : Nat) (w0 : World) (h1 : Rd (fun _ => True) w0 (.slice p1 n1 c1) (.l 2 (xs.map itD))) (h2 : Rd (fun _ => True) w0 (.slice p2 n2 c2) (.l 2 (ys.map itD))) (hl1 : xs.length ≤ 1000000) (hl2 : ys.length ≤ 1000000) (hi1 : ∀ e ∈ xs, BytesL e.2) (hi2 : ∀ e ∈ ys, BytesL e.2) :
   Calls Tryz.prog 124 #[.slice p1 n1 c1, .slice p2 n2 c2] w0 fun e w' => e = .returned (.bool (decide (xs = ys))) ∧ Below w0.heap.size w0 w' := by
 refine ent2 Tryz.func124 rfl Tryz.ntmps124 fun Az Hz => ?_
 have m0 := MemOk.start (fun _ => False) w0
 refine regS Hz (.assign rfl .nil) fun Az Hz => ?_
 refine zsr fun K0 hK0 => ?_
 refine goCh Hz (.move rfl <| .move rfl .nil) fun Az Hz => ?_
 refine plz (ecb Hz Tryz.func141 rfl m0 (meqf xs ys _ _ _ _ _ _ _ ((h1.now' m0 rfl).any) ((h2.now' m0 rfl).any) hl1 hl2 hi1 hi2) fun Az w6 Hz m7 => ?_)
 refine gz hK0 Hz (.assign rfl .nil) fun Az Hz => ?_
 refine rt1 Hz ?_
 exact ⟨rfl, m7.below⟩
theorem mclw (xb yb : Int) (xd yd : List (Int × List Int)) (p1 p2 : Option Addr) (n1 n2 c1 c2 : Nat) (w0 : World) (h1 : Rd (fun _ => True) w0 (.slice p1 n1 c1) (.l 2 (xd.map itD))) (h2 : Rd (fun _ => True) w0 (.slice p2 n2 c2) (.l 2 (yd.map itD))) (hl1 : xd.length ≤ 1000000) (hl2 : yd.length ≤ 1000000) (hi1 : ∀ e ∈ xd, BytesL e.2) (hi2 : ∀ e ∈ yd, BytesL e.2) :
   Calls Tryz.prog 123 #[.agg #[.int .i64 xb, .slice p1 n1 c1], .agg #[.int .i64 yb, .slice p2 n2 c2]] w0 fun e w' => e = .returned (.bool (decide ((xb, xd) = (yb, yd)))) ∧ Below w0.heap.size w0 w' := by
 refine ent2 Tryz.func123 rfl Tryz.ntmps123 fun Az Hz => ?_
 have m0 := MemOk.start (fun _ => False) w0
 refine zsr fun K0 hK0 => ?_
 refine plz (e_box Hz m0 9 (cs := [_, _]) rfl rfl rfl fun g1 Az w2 Hz m2 _ _ => ?_)
 refine plz (e_box Hz m2 10 (cs := [_, _]) rfl rfl rfl fun g3 Az w4 Hz m4 _ _ => ?_)
 refine gz hK0 Hz (.assign rfl .nil) fun Az Hz => ?_
 refine zsr fun K1 hK1 => ?_
 refine goCh Hz (.fa 0 rfl U103 <| .lb m4 9 U2 rfl rfl rfl <| .fa 0 rfl U103 <| .lb m4 10 U2 rfl rfl rfl <| .eql rfl rfl <| .move rfl .nil) fun Az Hz => ?_
 refine bc Hz 10 ?_ ?_
 ·
  intro hb18 Hz; try simp only [QQ, Qax] at hb18
  have hR : decide ((xb, xd) = (yb, yd)) = decide (xd = yd) := eqP_yes hb18
  refine goCh Hz (.faZ 1 rfl U103 <| .loadB1Z m4 (i := 9) rfl rfl rfl U36 rfl <| .faZ 1 rfl U103 <| .loadB1Z m4 (i := 10) rfl rfl rfl U36 rfl .nil) fun Az Hz => ?_
  refine stz Hz (ecb Hz Tryz.func124 rfl m4 (mpsi xd yd _ _ _ _ _ _ _ ((h1.now' m4 rfl).any) ((h2.now' m4 rfl).any) hl1 hl2 hi1 hi2) fun Az w23 Hz m24 => ?_)
  refine gz hK1 Hz (.pickT rfl rfl <| .assign rfl <| .nil) fun Az Hz => ?_
  refine rt1 Hz ?_
  exact ⟨by rw [hR], m24.below⟩
 intro hb18 Hz; try simp only [QQ, Qax] at hb18
 have hR : decide ((xb, xd) = (yb, yd)) = false := eqP_no hb18
 refine gz hK1 Hz (.sk <| .sk <| .sk <| .sk <| .sk <| .pickF rfl rfl <| .assign rfl <| .nil) fun Az Hz => ?_
 refine rt1 Hz ?_
 exact ⟨by rw [hR], m4.below⟩
theorem meqw (xs ys : List (Int × List (Int × List Int))) (p1 p2 : Option Addr) (n1 n2 c1 c2 : Nat) (w0 : World) (h1 : Rd (fun _ => True) w0 (.slice p1 n1 c1) (.l 2 (xs.map wrD))) (h2 : Rd (fun _ => True) w0 (.slice p2 n2 c2) (.l 2 (ys.map wrD))) (hl1 : xs.length ≤ 1000000) (hl2 : ys.length ≤ 1000000) (hi1 : ∀ e ∈ xs, e.2.length ≤ 1000000 ∧ ∀ x ∈ e.2, BytesL x.2) (hi2 : ∀ e ∈ ys, e.2.length ≤ 1000000 ∧ ∀ x ∈ e.2, BytesL x.2) :
   Calls Tryz.prog 122 #[.slice p1 n1 c1, .slice p2 n2 c2, .func (.func 123) #[] #[]] w0 fun e w' => e = .returned (.bool (decide (xs = ys))) ∧ Below w0.heap.size w0 w' := by
 obtain rfl : n1 = xs.length := by obtain ⟨pq, cq, hv, _⟩ := h1.l_shape; injection hv with _ e2 _; rw [List.length_map] at e2; exact e2
 obtain rfl : n2 = ys.length := by obtain ⟨pq, cq, hv, _⟩ := h2.l_shape; injection hv with _ e2 _; rw [List.length_map] at e2; exact e2
 refine ent3 Tryz.func122 rfl Tryz.ntmps122 fun Az Hz => ?_
 have m0 := MemOk.start (fun _ => False) w0
 refine regS Hz (.assign rfl .nil) fun Az Hz => ?_
 refine wsk fun K0 hK0 => ?_
 refine regS Hz (.move rfl <| .len rfl U49 <| .move rfl <| .len rfl U49 <| .neq rfl rfl .nil) fun Az Hz => ?_
 refine bc Hz 14 ?_ ?_
 ·
  intro hb7 Hz; try simp only [QQ, Qax] at hb7
  have hR : decide (xs = ys) = false := eqL_no (by omega)
  refine wct Hz ?_
  refine regS Hz (.assign rfl .nil) fun Az Hz => ?_
  refine rt1 Hz ?_
  exact ⟨by rw [hR], m0.below⟩
 intro hb7 Hz; try simp only [QQ, Qax] at hb7
 have hlq : xs.length = ys.length := by omega
 refine wcf Hz ?_
 refine zss (hK0 _ _ ?_)
 refine wsk fun K1 hK1 => ?_
 refine regS Hz (.move rfl <| .len rfl U49 <| .move rfl .nil) fun Az Hz => ?_
 refine wp_block ?_
 refine wp_loop_ghost (fun g a w => ∃ k : Nat, k ≤ xs.length ∧ xs.length = ys.length ∧ xs.take k = ys.take k ∧ g = xs.length - k ∧ Has 32 [(0, .slice p1 xs.length c1), (1, .slice p2 ys.length c2), (2, .func (.func 123) #[] #[]), (15, .slice p1 xs.length c1), (16, .int .i64 xs.length), (17, .int .i64 k)] a ∧ MemOk (cn w0) w0 [] w) (xs.length) ?_ ?_
 · exact ⟨0, Nat.zero_le _, hlq, rfl, rfl, Hz.only [0, 1, 2, 15, 16, 17], m0.only []⟩
 clear Hz m0
 rintro g Az w12 ⟨k, hkl, hlq, htk, hg, Hz, m12⟩
 refine regS Hz (.lss rfl rfl .nil) fun Az Hz => ?_
 refine wsk fun K2 hK2 => ?_
 refine bc Hz 18 ?_ ?_
 ·
  intro hb14 Hz; try simp only [QQ, Qax] at hb14
  have hk : k < xs.length := by omega
  have hk2 : k < ys.length := by omega
  obtain ⟨⟨xb, xd⟩, hes⟩ : ∃ e, xs[k]? = some e := ⟨_, List.getElem?_eq_getElem hk⟩
  obtain ⟨⟨yb, yd⟩, hfs⟩ : ∃ e, ys[k]? = some e := ⟨_, List.getElem?_eq_getElem hk2⟩
  have hx1 := hi1 _ (List.mem_of_getElem? hes)
  have hy1 := hi2 _ (List.mem_of_getElem? hfs)
  refine wct Hz ?_
  refine zss (hK2 _ _ ?_)
  refine wsk fun K3 hK3 => ?_
  refine wp_block ?_
  refine zsr fun K4 hK4 => ?_
  refine goCh Hz (.move rfl .nil) fun Az Hz => ?_
  obtain ⟨gx18, ox18, vx18, hp18, hl18, hR18, hrg18⟩ := h1.extA (k) (r := [.v (.int .i64 xb), .l 2 (xd.map itD)]) (wrD_get hes)
  revert Hz
  cases hp18
  rcases hR18 with _ | ⟨hd18_0, _ | ⟨hd18_1, _ | _⟩⟩
  obtain rfl := hd18_0.v_out
  clear hd18_0
  obtain ⟨p19, c19, hv19, hw19⟩ := hd18_1.l_shape; subst hv19
  intro Hz
  refine goCh Hz (.c rfl (fun _ h_ => y_idx h_ rfl rfl U49 fct7 (k) rfl hk) <| .loadAt (hrg18 m12 rfl) rfl U103 rfl fct7 .nil) fun Az Hz => ?_
  refine plz (e_alloc Hz m12 101 fct8 rfl fun g22 Az w23 Hz m23 _ _ => ?_)
  refine goCh Hz (.assign rfl .nil) fun Az Hz => ?_
  refine plz (stw Hz m23 101 fct7 fun w25 m25 _ => ?_)
  refine znl (hK4 _ _ ?_)
  refine zsr fun K5 hK5 => ?_
  refine goCh Hz (.move rfl <| .move rfl .nil) fun Az Hz => ?_
  obtain ⟨gx31, ox31, vx31, hp31, hl31, hR31, hrg31⟩ := h2.extA (k) (r := [.v (.int .i64 yb), .l 2 (yd.map itD)]) (wrD_get hfs)
  revert Hz
  cases hp31
  rcases hR31 with _ | ⟨hd31_0, _ | ⟨hd31_1, _ | _⟩⟩
  obtain rfl := hd31_0.v_out
  clear hd31_0
  obtain ⟨p32, c32, hv32, hw32⟩ := hd31_1.l_shape; subst hv32
  intro Hz
  refine goCh Hz (.c rfl (fun _ h_ => y_idx h_ rfl rfl U49 fct7 (k) rfl hk2) <| .loadAt (hrg31 m25 rfl) rfl U103 rfl fct7 .nil) fun Az Hz => ?_
  refine plz (e_alloc Hz m25 103 fct8 rfl fun g35 Az w36 Hz m36 _ _ => ?_)
  refine plz (stw Hz m36 103 fct7 fun w37 m37 _ => ?_)
  refine znl (hK5 _ _ ?_)
  replace Hz := Hz.oz [0, 1, 2, 15, 16, 17, 8, 9]
  refine zsr fun K6 hK6 => ?_
  refine goCh Hz (.move rfl <| .loadBR m37 (i := 101) rfl rfl U103 rfl fct7 (by simp) (by dsimp only [List.drop, List.take] <;> rfl) <| .loadBR m37 (i := 103) rfl rfl U103 rfl fct7 (by simp) (by dsimp only [List.drop, List.take] <;> rfl) .nil) fun Az Hz => ?_
  refine plz (e_callV Hz rfl Tryz.func123 rfl rfl rfl rfl (mclw xb yb xd yd _ _ _ _ _ _ _ ((hd18_1.now' m37 rfl).any) ((hd31_1.now' m37 rfl).any) hx1.1 hy1.1 hx1.2 hy1.2) ?_)
  rintro e w45 ⟨rfl, hb45⟩
  have m46 := m37.later hb45
  refine ⟨_, rfl, ?_⟩; intro Az Hz
  refine gz hK6 Hz (.not rfl .nil) fun Az Hz => ?_
  refine bc Hz 30 ?_ ?_
  ·
   intro hb49 Hz; try simp only [QQ, Qax] at hb49
   have hR : decide (xs = ys) = false := eqL_neP hes hfs hb49
   refine wct Hz ?_
   replace Hz := Hz.oz [0, 1, 2, 15, 16, 17]
   refine regS Hz (.assign rfl .nil) fun Az Hz => ?_
   refine rt1 Hz ?_
   exact ⟨by rw [hR], m46.below⟩
  intro hb49 Hz; try simp only [QQ, Qax] at hb49
  have htk2 := eqL_stepP htk hes hfs hb49
  refine wcf Hz ?_
  refine zss (hK3 _ _ ?_)
  replace Hz := Hz.oz [0, 1, 2, 15, 16, 17]
  refine wp_region_lit ?_
  refine goCh Hz (.inc (k + 1) <| .move rfl .nil) fun Az Hz => ?_
  refine wpList_nil ?_
  show ∃ n', n' < _ ∧ _
  exact ⟨xs.length - (k + 1), by omega, k + 1, by omega, hlq, htk2, rfl, Hz.only [0, 1, 2, 15, 16, 17], m46.only []⟩
 intro hb14 Hz; try simp only [QQ, Qax] at hb14
 have hR : decide (xs = ys) = true := eqL_all hlq (by omega) htk
 refine wcf Hz ?_
 refine wp_exit ?_
 refine hK1 _ _ ?_
 refine regS Hz (.assign rfl .nil) fun Az Hz => ?_
 refine rt1 Hz ?_
 exact ⟨by rw [hR], m12.below⟩
theorem mpsw (xs ys : List (Int × List (Int × List Int))) (p1 p2 : Option Addr) (n1 n2 c1 c2 : Nat) (w0 : World) (h1 : Rd (fun _ => True) w0 (.slice p1 n1 c1) (.l 2 (xs.map wrD))) (h2 : Rd (fun _ => True) w0 (.slice p2 n2 c2) (.l 2 (ys.map wrD))) (hl1 : xs.length ≤ 1000000) (hl2 : ys.length ≤ 1000000) (hi1 : ∀ e ∈ xs, e.2.length ≤ 1000000 ∧ ∀ x ∈ e.2, BytesL x.2) (hi2 : ∀ e ∈ ys, e.2.length ≤ 1000000 ∧ ∀ x ∈ e.2, BytesL x.2) :
   Calls Tryz.prog 84 #[.slice p1 n1 c1, .slice p2 n2 c2] w0 fun e w' => e = .returned (.bool (decide (xs = ys))) ∧ Below w0.heap.size w0 w' := by
 refine ent2 Tryz.func84 rfl Tryz.ntmps84 fun Az Hz => ?_
 have m0 := MemOk.start (fun _ => False) w0
 refine regS Hz (.assign rfl .nil) fun Az Hz => ?_
 refine zsr fun K0 hK0 => ?_
 refine goCh Hz (.move rfl <| .move rfl .nil) fun Az Hz => ?_
 refine plz (ecb Hz Tryz.func122 rfl m0 (meqw xs ys _ _ _ _ _ _ _ ((h1.now' m0 rfl).any) ((h2.now' m0 rfl).any) hl1 hl2 hi1 hi2) fun Az w6 Hz m7 => ?_)
 refine gz hK0 Hz (.assign rfl .nil) fun Az Hz => ?_
 refine rt1 Hz ?_
 exact ⟨rfl, m7.below⟩
end
section
theorem fl129oO : flatS Tryz.prog 129 [.int .i64 0, .int .i64 0, .int .i64 0, .int .i64 0, .int .i64 0] = true := by kernel_rfl
def VolB (x : VolV) : Prop := x.place.length ≤ 1000000 ∧ x.pins.length ≤ 1000000 ∧ x.ws.length ≤ 1000000 ∧ ∀ e ∈ x.ws, e.2.length ≤ 1000000 ∧ ∀ z ∈ e.2, BytesL z.2
abbrev shpE (x y : VolV) : Prop := x.vo = y.vo ∧ x.bl = y.bl ∧ x.sz = y.sz ∧ x.pe = y.pe ∧ x.place = y.place ∧ x.to = y.to
abbrev preE (x y : VolV) : Prop := shpE x y ∧ x.ws.length ≤ y.ws.length ∧ x.ws = y.ws.take x.ws.length
abbrev samE (x y : VolV) : Prop := shpE x y ∧ x.ne = y.ne ∧ x.hi = y.hi ∧ x.fl = y.fl ∧ x.pins = y.pins ∧ x.ws = y.ws
abbrev samP (x y : VolV) : Prop := preE x y ∧ x.ws.length = y.ws.length ∧ x.ne = y.ne ∧ x.hi = y.hi ∧ x.fl = y.fl ∧ x.pins = y.pins
theorem samP_iff {x y : VolV} : samP x y ↔ samE x y := by
 constructor
 · rintro ⟨⟨h1, h2, h3⟩, h4, h5, h6, h7, h8⟩
   exact ⟨h1, h5, h6, h7, h8, by rw [h3, List.take_of_length_le (by omega)]⟩
 rintro ⟨h1, h5, h6, h7, h8, h9⟩
 exact ⟨⟨h1, by rw [h9]; exact Nat.le_refl _, by rw [h9, List.take_length]⟩, by rw [h9], h5, h6, h7, h8⟩
theorem takeW {w : World} {p : Option Addr} {l c : Nat} {ws : List (Int × List (Int × List Int))} {j : Nat} (h : Rd (fun _ => True) w (.slice p l c) (.l 2 (ws.map wrD))) (hj : j ≤ ws.length) : Rd (fun _ => True) w (.slice p j c) (.l 2 ((ws.take j).map wrD)) := by
 rw [List.map_take]; exact h.takeL j (by rw [List.length_map]; exact hj)
theorem Rd.capW {S : Nat → Prop} {w : World} {p : Option Addr} {l c : Nat} {ws : List (Int × List (Int × List Int))} (h : Rd S w (.slice p l c) (.l 2 (ws.map wrD))) : ws.length ≤ c := by
 have := h.capL; rwa [List.length_map] at this
theorem eqF_int {P : Program} (w : World) (d : Nat) (xs ys : Array Value) (f : Field) (fs : List Field) (hn : (f.name == "_") = false) {t o : Nat} {k k' : IntKind} (ht : f.type = t) (ho : f.offset = o) (hp : P.plainKey t = true) (hu : P.underlying t = some (.int k')) {x y : Int} (hx : xs[o]? = some (.int k x)) (hy : ys[o]? = some (.int k y)) :
   (Op.eqFields (d + 1) xs ys (f :: fs)).run P w = if x = y then (Op.eqFields (d + 1) xs ys fs).run P w else .ok false w := by
 have hne : f.name ≠ "_" := by simpa using hn
 subst ht; subst ho
 rw [Op.eqFields, if_pos hne]
 simp only [Sem.run_bind, run_part_plain w hp hx, run_part_plain w hp hy, Result.andThen_ok, run_equalIn_int w d _ k k' x y hu]
 by_cases h : x = y
 · subst h; simp
 have : (x == y) = false := by simpa using h
 simp [h, this]
theorem shp_fields : (Tryz.prog.fieldsOf 129).toList.map (fun f => (f.name == "_", f.type, f.offset)) = [(false, 3, 0), (false, 3, 1), (false, 3, 2), (false, 3, 3), (false, 3, 4)] := by kernel_rfl
theorem neq_shp (w : World) (a1 a2 a3 a4 a5 b1 b2 b3 b4 b5 : Int) : (binOp .neq 129 (.agg #[.int .i64 a1, .int .i64 a2, .int .i64 a3, .int .i64 a4, .int .i64 a5]) (.agg #[.int .i64 b1, .int .i64 b2, .int .i64 b3, .int .i64 b4, .int .i64 b5])).run Tryz.prog w = .ok (.bool (decide (¬ (a1 = b1 ∧ a2 = b2 ∧ a3 = b3 ∧ a4 = b4 ∧ a5 = b5)))) w := by
 rw [run_neq_struct, run_equalIn_agg w 9999 129 _ _ (by kernel_rfl) (by kernel_rfl)]
 have hf := shp_fields
 generalize (Tryz.prog.fieldsOf 129).toList = L at hf
 have hL : L.length = 5 := by have := congrArg List.length hf; simpa using this
 match L, hL, hf with
 | [f1, f2, f3, f4, f5], _, hf =>
   simp only [List.map_cons, List.map_nil, List.cons.injEq, Prod.mk.injEq, and_true] at hf
   obtain ⟨⟨n1, t1, o1⟩, ⟨n2, t2, o2⟩, ⟨n3, t3, o3⟩, ⟨n4, t4, o4⟩, ⟨n5, t5, o5⟩⟩ := hf
   rw [eqF_int w 9998 _ _ f1 _ n1 t1 o1 (by kernel_rfl) (k' := .i64) (by kernel_rfl) rfl rfl, eqF_int w 9998 _ _ f2 _ n2 t2 o2 (by kernel_rfl) (k' := .i64) (by kernel_rfl) rfl rfl, eqF_int w 9998 _ _ f3 _ n3 t3 o3 (by kernel_rfl) (k' := .i64) (by kernel_rfl) rfl rfl, eqF_int w 9998 _ _ f4 _ n4 t4 o4 (by kernel_rfl) (k' := .i64) (by kernel_rfl) rfl rfl, eqF_int w 9998 _ _ f5 _ n5 t5 o5 (by kernel_rfl) (k' := .i64) (by kernel_rfl) rfl rfl]
   by_cases h1 : a1 = b1 <;> by_cases h2 : a2 = b2 <;> by_cases h3 : a3 = b3 <;> by_cases h4 : a4 = b4 <;> by_cases h5 : a5 = b5 <;> simp [Op.eqFields, h1, h2, h3, h4, h5]
theorem y_neqH {T : List (Nat × Value)} {n : Nat} {a : Act} {w : World} {d : Option Tmp} {x y : Operand} {t2 tt : TypeId} {pos : String} {af : Array Edge} {gd : Option (Nat × Bool)} (h : Has n T a) {a1 a2 a3 a4 a5 b1 b2 b3 b4 b5 : Int} (hx : evT T x = some (.agg #[.int .i64 a1, .int .i64 a2, .int .i64 a3, .int .i64 a4, .int .i64 a5])) (hy : evT T y = some (.agg #[.int .i64 b1, .int .i64 b2, .int .i64 b3, .int .i64 b4, .int .i64 b5])) : Yl Tryz.prog a w ⟨d, .binOp .neq 129 x y t2, tt, pos, af, gd⟩ (.bool (decide (¬ (a1 = b1 ∧ a2 = b2 ∧ a3 = b3 ∧ a4 = b4 ∧ a5 = b5)))) := by
 show (execOp _ _).run _ w = _
 have hg := run_eqGuard_agg (P := Tryz.prog) w .neq 129 x y #[.int .i64 a1, .int .i64 a2, .int .i64 a3, .int .i64 a4, .int .i64 a5] #[.int .i64 b1, .int .i64 b2, .int .i64 b3, .int .i64 b4, .int .i64 b5] (by kernel_rfl)
 simp only [execOp, h.ev hx, h.ev hy, Sem.run_bind, hg, Result.andThen_ok, neq_shp, Sem.run_pure]
set_option maxRecDepth 100000
set_option maxHeartbeats 4000000
theorem mshp (x : VolV) (p1 p2 p3 : Option Addr) (c1 c2 c3 nx : Nat) (w0 : World) :
   Calls Tryz.prog 82 #[.agg #[.int .i64 x.vo, .int .i64 x.bl, .int .i64 x.sz, .int .i64 x.pe, .slice p1 x.place.length c1, .int .i64 x.to, .int .i64 x.ne, .bool x.hi, .int .i64 x.fl, .slice p2 x.pins.length c2, .slice p3 nx c3]] w0 fun e w' => e = .returned (.agg #[.int .i64 x.vo, .int .i64 x.bl, .int .i64 x.sz, .int .i64 x.pe, .int .i64 x.to]) ∧ Below w0.heap.size w0 w' := by
 refine ent1 Tryz.func82 rfl Tryz.ntmps82 fun Az Hz => ?_
 have m0 := MemOk.start (fun _ => False) w0
 refine zsr fun K0 hK0 => ?_
 refine plz (e_box Hz m0 20 (cs := [_, _, _, _, _, _, _, _, _, _, _]) rfl rfl rfl fun g1 Az w2 Hz m2 _ _ => ?_)
 refine plz (e_alloc Hz m2 21 fct31 rfl fun g3 Az w4 Hz m4 _ _ => ?_)
 refine znl (hK0 _ _ ?_)
 refine zsr fun K1 hK1 => ?_
 refine goCh Hz (.fa 0 rfl U51 <| .lb m4 20 U3 rfl rfl rfl <| .fa 1 rfl U51 <| .lb m4 20 U3 rfl rfl rfl <| .fa 2 rfl U51 <| .lb m4 20 U3 rfl rfl rfl <| .fa 3 rfl U51 <| .lb m4 20 U3 rfl rfl rfl <| .fa 5 rfl U51 <| .lb m4 20 U3 rfl rfl rfl <| .build rfl fct31 fl129oO rfl (by dsimp only [setL, List.set] <;> rfl) .nil) fun Az Hz => ?_
 refine plz (stw Hz m4 21 fct30 fun w27 m27 _ => ?_)
 refine znl (hK1 _ _ ?_)
 refine rtd (retC (fn := Tryz.f82) Hz m27 (i := 21) rfl rfl rfl U129 rfl fct30 ?_)
 exact ⟨rfl, m27.below⟩
theorem mpre (x y : VolV) (p1 p2 p3 q1 q2 q3 : Option Addr) (c1 c2 c3 d1 d2 d3 nx ny : Nat) (w0 : World) (hx : VolB x) (hy : VolB y) (h1 : Rd (fun _ => True) w0 (.slice p1 x.place.length c1) (.ns .i64 x.place)) (h3 : Rd (fun _ => True) w0 (.slice p3 nx c3) (.l 2 (x.ws.map wrD))) (h4 : Rd (fun _ => True) w0 (.slice q1 y.place.length d1) (.ns .i64 y.place)) (h6 : Rd (fun _ => True) w0 (.slice q3 ny d3) (.l 2 (y.ws.map wrD))) :
   Calls Tryz.prog 36 #[.agg #[.int .i64 x.vo, .int .i64 x.bl, .int .i64 x.sz, .int .i64 x.pe, .slice p1 x.place.length c1, .int .i64 x.to, .int .i64 x.ne, .bool x.hi, .int .i64 x.fl, .slice p2 x.pins.length c2, .slice p3 nx c3], .agg #[.int .i64 y.vo, .int .i64 y.bl, .int .i64 y.sz, .int .i64 y.pe, .slice q1 y.place.length d1, .int .i64 y.to, .int .i64 y.ne, .bool y.hi, .int .i64 y.fl, .slice q2 y.pins.length d2, .slice q3 ny d3]] w0 fun e w' => e = .returned (.bool (decide (preE x y))) ∧ Below w0.heap.size w0 w' := by
 obtain rfl : nx = x.ws.length := by obtain ⟨pq, cq, hv, _⟩ := h3.l_shape; injection hv with _ e2 _; rw [List.length_map] at e2; exact e2
 obtain rfl : ny = y.ws.length := by obtain ⟨pq, cq, hv, _⟩ := h6.l_shape; injection hv with _ e2 _; rw [List.length_map] at e2; exact e2
 refine ent2 Tryz.func36 rfl Tryz.ntmps36 fun Az Hz => ?_
 have m0 := MemOk.start (fun _ => False) w0
 refine zsr fun K0 hK0 => ?_
 refine plz (e_box Hz m0 20 (cs := [_, _, _, _, _, _, _, _, _, _, _]) rfl rfl rfl fun g1 Az w2 Hz m2 _ _ => ?_)
 refine plz (e_box Hz m2 21 (cs := [_, _, _, _, _, _, _, _, _, _, _]) rfl rfl rfl fun g3 Az w4 Hz m4 _ _ => ?_)
 refine gz hK0 Hz (.assign rfl .nil) fun Az Hz => ?_
 refine wsk fun K1 hK1 => ?_
 refine wsk fun K2 hK2 => ?_
 have m6 := m4.oz [20, 21]
 refine region_p 22 (B := [(20, _), (21, _)]) (m6.to ⟨il, il, trivial⟩) m6 (by kernel_rfl) (fun w7 hP7 m7 => ?_); clear m6
 refine goR hP7 [0, 2] [0, 2] 2 0 5 Hz (m7.to ⟨il, il, trivial⟩) (.loadBR hh (i := 20) rfl rfl U51 rfl fct13 (by simp) (by dsimp only [List.drop, List.take] <;> rfl) <| .loadBR hh (i := 21) rfl rfl U51 rfl fct13 (by simp) (by dsimp only [List.drop, List.take] <;> rfl) .nil) fun Az Hz => ?_
 refine so 1 ?_
 refine ecb Hz Tryz.func82 rfl m7 (mshp x _ _ _ _ _ _ _ _) fun Az w10 Hz m11 => ?_
 refine ⟨m11.to ⟨il, il, trivial⟩, ?_⟩
 refine so 3 ?_
 refine ecb Hz Tryz.func82 rfl m11 (mshp y _ _ _ _ _ _ _ _) fun Az w13 Hz m14 => ?_
 refine ⟨m14.to ⟨il, il, trivial⟩, ?_⟩
 refine goA hP7 [4, 5] 2 15 63 Hz (m14.to ⟨il, il, trivial⟩) (.p (fun _ _ h_ => y_neqH h_ rfl rfl) <| .move rfl .nil) fun Az Hz => ?_
 refine bc Hz 10 ?_ ?_
 ·
  intro hb18 Hz; try simp only [QQ, Qax] at hb18
  refine goA hP7 [6, 7, 8, 9, 10, 11, 12, 13, 14, 15, 16, 17, 18, 19, 20, 21] 16 63 4194303 Hz (m14.to ⟨il, il, trivial⟩) (.s <| .s <| .s <| .s <| .s <| .s <| .pickT rfl rfl <| .move rfl <| .s <| .s <| .s <| .s <| .s <| .s <| .s <| .pickT rfl rfl .nil) fun Az Hz => ?_
  refine wpAnyE_done (by kernel_rfl) ?_ _
  refine hK2 _ _ ?_
  refine wct Hz ?_
  replace Hz := Hz.oz [2, 3, 4]
  refine regS Hz (.assign rfl .nil) fun Az Hz => ?_
  refine rt1 Hz ?_
  exact ⟨congrArg (fun b9 => Ending.returned (.bool b9)) ((Eq.symm (decide_eq_false (by rintro ⟨⟨g1, g2, g3, g4, g5, g6⟩, g7, g8⟩; first | omega | contradiction)))), m14.below⟩
 intro hb18 Hz; try simp only [QQ, Qax] at hb18
 have hsh := hb18
 refine goR hP7 [6, 7, 8, 9] [7, 9] 4 63 1023 Hz (m14.to ⟨il, il, trivial⟩) (.fa 4 rfl U51 <| .lb hh 20 U35 rfl rfl rfl <| .fa 4 rfl U51 <| .lb hh 21 U35 rfl rfl rfl .nil) fun Az Hz => ?_
 refine stepE_only 10 rfl (by kernel_rfl) (wantedG Hz rfl rfl rfl rfl) (fun K hK => ?_)
 refine e_call Hz Tryz.func83 rfl rfl rfl rfl (msE x.place y.place _ _ _ _ _ hx.1 hy.1 ((h1.now' m14 rfl).any) ((h4.now' m14 rfl).any)) ?_
 rintro e w41 ⟨rfl, hb41⟩
 have m42 := m14.later hb41
 refine ⟨_, rfl, ?_⟩; intro Az Hz
 refine hK _ _ (m42.to ⟨il, il, trivial⟩) ?_; clear hK K
 refine goA hP7 [11, 12, 13] 3 2047 16383 Hz (m42.to ⟨il, il, trivial⟩) (.not rfl <| .pickF rfl rfl <| .move rfl .nil) fun Az Hz => ?_
 refine bc Hz 18 ?_ ?_
 ·
  intro hb47 Hz; try simp only [QQ, Qax] at hb47
  refine goA hP7 [14, 15, 16, 17, 18, 19, 20, 21] 8 16383 4194303 Hz (m42.to ⟨il, il, trivial⟩) (.s <| .s <| .s <| .s <| .s <| .s <| .s <| .pickT rfl rfl .nil) fun Az Hz => ?_
  refine wpAnyE_done (by kernel_rfl) ?_ _
  refine hK2 _ _ ?_
  refine wct Hz ?_
  replace Hz := Hz.oz [2, 3, 4]
  refine regS Hz (.assign rfl .nil) fun Az Hz => ?_
  refine rt1 Hz ?_
  exact ⟨congrArg (fun b9 => Ending.returned (.bool b9)) ((Eq.symm (decide_eq_false (by rintro ⟨⟨g1, g2, g3, g4, g5, g6⟩, g7, g8⟩; first | omega | contradiction)))), m42.below⟩
 intro hb47 Hz; try simp only [QQ, Qax] at hb47
 have hpl := hb47
 refine goR hP7 [14, 15, 16, 17, 18, 19, 20, 21] [15, 18] 8 16383 4194303 Hz (m42.to ⟨il, il, trivial⟩) (.fa 10 rfl U51 <| .lb hh 20 U49 rfl rfl rfl <| .len rfl U49 <| .fa 10 rfl U51 <| .lb hh 21 U49 rfl rfl rfl <| .len rfl U49 <| .gtr rfl rfl <| .pickF rfl rfl .nil) fun Az Hz => ?_
 refine wpAnyE_done (by kernel_rfl) ?_ _
 refine hK2 _ _ ?_
 refine bc Hz 26 ?_ ?_
 ·
  intro hb66 Hz; try simp only [QQ, Qax] at hb66
  refine wct Hz ?_
  replace Hz := Hz.oz [2, 3, 4]
  refine regS Hz (.assign rfl .nil) fun Az Hz => ?_
  refine rt1 Hz ?_
  exact ⟨congrArg (fun b9 => Ending.returned (.bool b9)) ((Eq.symm (decide_eq_false (by rintro ⟨⟨g1, g2, g3, g4, g5, g6⟩, g7, g8⟩; first | omega | contradiction)))), m42.below⟩
 intro hb66 Hz; try simp only [QQ, Qax] at hb66
 have hle : x.ws.length ≤ y.ws.length := by omega
 refine wcf Hz ?_
 refine zss (hK1 _ _ ?_)
 refine wsk fun K3 hK3 => ?_
 replace Hz := Hz.oz [2, 3, 4]
 have m70 := m42.oz [20, 21]
 refine region_p 10 (B := [(20, _), (21, _)]) (m70.to ⟨il, il, trivial⟩) m70 (by kernel_rfl) (fun w71 hP71 m71 => ?_); clear m70
 refine goR hP71 [0, 1, 2, 3, 4, 5, 6] [1, 3, 5] 7 0 127 Hz (m71.to ⟨il, il, trivial⟩) (.fa 10 rfl U51 <| .lb hh 20 U49 rfl rfl rfl <| .fa 10 rfl U51 <| .lb hh 21 U49 rfl rfl rfl <| .fa 10 rfl U51 <| .lb hh 20 U49 rfl rfl rfl <| .len rfl U49 .nil) fun Az Hz => ?_
 have h6t := takeW h6 hle
 refine goA hP71 [7] 1 127 255 Hz (m71.to ⟨il, il, trivial⟩) (.p (fun _ _ h_ => y_sliceHn h_ x.ws.length rfl rfl U49 fct7 rfl (Nat.le_trans hle h6.capW)) .nil) fun Az Hz => ?_
 refine so 8 ?_
 refine ecb Hz Tryz.func84 rfl m71 (mpsw x.ws (y.ws.take x.ws.length) _ _ _ _ _ _ _ ((h3.now' m71 rfl).any) ((h6t.now' m71 rfl).any) hx.2.2.1 (Nat.le_trans (List.length_take_le _ _) hx.2.2.1) hx.2.2.2 (fun e he => hy.2.2.2 e (List.mem_of_mem_take he))) fun Az w80 Hz m81 => ?_
 refine ⟨m81.to ⟨il, il, trivial⟩, ?_⟩
 refine goA hP71 [9] 1 511 1023 Hz (m81.to ⟨il, il, trivial⟩) (.assign rfl .nil) fun Az Hz => ?_
 refine wpAnyE_done (by kernel_rfl) ?_ _
 refine hK3 _ _ ?_
 refine rt1 Hz ?_
 exact ⟨congrArg (fun b9 => Ending.returned (.bool b9)) (decide_eq_decide.2 ⟨fun h9 => ⟨⟨hsh.1, hsh.2.1, hsh.2.2.1, hsh.2.2.2.1, hpl, hsh.2.2.2.2⟩, hle, h9⟩, fun h9 => h9.2.2⟩), m81.below⟩
theorem msmP (x y : VolV) (p1 p2 p3 q1 q2 q3 : Option Addr) (c1 c2 c3 d1 d2 d3 nx ny : Nat) (w0 : World) (hx : VolB x) (hy : VolB y) (h1 : Rd (fun _ => True) w0 (.slice p1 x.place.length c1) (.ns .i64 x.place)) (h2 : Rd (fun _ => True) w0 (.slice p2 x.pins.length c2) (.ns .i64 x.pins)) (h3 : Rd (fun _ => True) w0 (.slice p3 nx c3) (.l 2 (x.ws.map wrD))) (h4 : Rd (fun _ => True) w0 (.slice q1 y.place.length d1) (.ns .i64 y.place)) (h5 : Rd (fun _ => True) w0 (.slice q2 y.pins.length d2) (.ns .i64 y.pins)) (h6 : Rd (fun _ => True) w0 (.slice q3 ny d3) (.l 2 (y.ws.map wrD))) :
   Calls Tryz.prog 35 #[.agg #[.int .i64 x.vo, .int .i64 x.bl, .int .i64 x.sz, .int .i64 x.pe, .slice p1 x.place.length c1, .int .i64 x.to, .int .i64 x.ne, .bool x.hi, .int .i64 x.fl, .slice p2 x.pins.length c2, .slice p3 nx c3], .agg #[.int .i64 y.vo, .int .i64 y.bl, .int .i64 y.sz, .int .i64 y.pe, .slice q1 y.place.length d1, .int .i64 y.to, .int .i64 y.ne, .bool y.hi, .int .i64 y.fl, .slice q2 y.pins.length d2, .slice q3 ny d3]] w0 fun e w' => e = .returned (.bool (decide (samP x y))) ∧ Below w0.heap.size w0 w' := by
 obtain rfl : nx = x.ws.length := by obtain ⟨pq, cq, hv, _⟩ := h3.l_shape; injection hv with _ e2 _; rw [List.length_map] at e2; exact e2
 obtain rfl : ny = y.ws.length := by obtain ⟨pq, cq, hv, _⟩ := h6.l_shape; injection hv with _ e2 _; rw [List.length_map] at e2; exact e2
 refine ent2 Tryz.func35 rfl Tryz.ntmps35 fun Az Hz => ?_
 have m0 := MemOk.start (fun _ => False) w0
 refine zsr fun K0 hK0 => ?_
 refine plz (e_box Hz m0 20 (cs := [_, _, _, _, _, _, _, _, _, _, _]) rfl rfl rfl fun g1 Az w2 Hz m2 _ _ => ?_)
 refine plz (e_box Hz m2 21 (cs := [_, _, _, _, _, _, _, _, _, _, _]) rfl rfl rfl fun g3 Az w4 Hz m4 _ _ => ?_)
 refine gz hK0 Hz (.assign rfl .nil) fun Az Hz => ?_
 refine zsr fun K1 hK1 => ?_
 refine goCh Hz (.loadBR m4 (i := 20) rfl rfl U51 rfl fct13 (by simp) (by dsimp only [List.drop, List.take] <;> rfl) <| .loadBR m4 (i := 21) rfl rfl U51 rfl fct13 (by simp) (by dsimp only [List.drop, List.take] <;> rfl) .nil) fun Az Hz => ?_
 refine plz (ecb Hz Tryz.func36 rfl m4 (mpre x y _ _ _ _ _ _ _ _ _ _ _ _ _ _ _ hx hy ((h1.now' m4 rfl).any) ((h3.now' m4 rfl).any) ((h4.now' m4 rfl).any) ((h6.now' m4 rfl).any)) fun Az w10 Hz m11 => ?_)
 refine goCh Hz (.move rfl .nil) fun Az Hz => ?_
 refine bc Hz 8 ?_ ?_
 ·
  intro hb14 Hz; try simp only [QQ, Qax] at hb14
  refine goCh Hz (.faZ 10 rfl U51 <| .loadB1Z m11 (i := 20) rfl rfl rfl U49 rfl <| .lenZ rfl U49 <| .faZ 10 rfl U51 <| .loadB1Z m11 (i := 21) rfl rfl rfl U49 rfl <| .lenZ rfl U49 <| .eqlZ rfl rfl <| .pickT rfl rfl <| .move rfl .nil) fun Az Hz => ?_
  refine bc Hz 17 ?_ ?_
  ·
   intro hb24 Hz; try simp only [QQ, Qax] at hb24
   refine goCh Hz (.faZ 6 rfl U51 <| .loadB1Z m11 (i := 20) rfl rfl rfl U3 rfl <| .faZ 6 rfl U51 <| .loadB1Z m11 (i := 21) rfl rfl rfl U3 rfl <| .eqlZ rfl rfl <| .pickT rfl rfl <| .move rfl .nil) fun Az Hz => ?_
   refine bc Hz 24 ?_ ?_
   ·
    intro hb32 Hz; try simp only [QQ, Qax] at hb32
    refine goCh Hz (.faZ 7 rfl U51 <| .loadB1Z m11 (i := 20) rfl rfl rfl U4 rfl <| .faZ 7 rfl U51 <| .loadB1Z m11 (i := 21) rfl rfl rfl U4 rfl <| .eqlBZ rfl rfl U4 <| .pickT rfl rfl <| .move rfl .nil) fun Az Hz => ?_
    refine bc Hz 31 ?_ ?_
    ·
     intro hb40 Hz; try simp only [QQ, Qax] at hb40
     replace hb40 := beq_iff_eq.1 hb40
     refine goCh Hz (.faZ 8 rfl U51 <| .loadB1Z m11 (i := 20) rfl rfl rfl U2 rfl <| .faZ 8 rfl U51 <| .loadB1Z m11 (i := 21) rfl rfl rfl U2 rfl <| .eqlZ rfl rfl <| .pickT rfl rfl <| .move rfl .nil) fun Az Hz => ?_
     refine bc Hz 38 ?_ ?_
     ·
      intro hb48 Hz; try simp only [QQ, Qax] at hb48
      refine goCh Hz (.faZ 9 rfl U51 <| .loadB1Z m11 (i := 20) rfl rfl rfl U48 rfl <| .faZ 9 rfl U51 <| .loadB1Z m11 (i := 21) rfl rfl rfl U48 rfl .nil) fun Az Hz => ?_
      refine stz Hz (ecb Hz Tryz.func81 rfl m11 (msF x.pins y.pins _ _ _ _ _ hx.2.1 hy.2.1 ((h2.now' m11 rfl).any) ((h5.now' m11 rfl).any)) fun Az w53 Hz m54 => ?_)
      refine gz hK1 Hz (.pickT rfl rfl <| .assign rfl <| .nil) fun Az Hz => ?_
      refine rt1 Hz ?_
      exact ⟨congrArg (fun b9 => Ending.returned (.bool b9)) (decide_eq_decide.2 ⟨fun h9 => ⟨hb14, (by omega), hb32, hb40, hb48, h9⟩, fun h9 => h9.2.2.2.2.2⟩), m54.below⟩
     intro hb48 Hz; try simp only [QQ, Qax] at hb48
     refine gz hK1 Hz (.sk <| .sk <| .sk <| .sk <| .sk <| .pickF rfl rfl <| .assign rfl <| .nil) fun Az Hz => ?_
     refine rt1 Hz ?_
     exact ⟨congrArg (fun b9 => Ending.returned (.bool b9)) ((Eq.symm (decide_eq_false (by rintro ⟨g1, g2, g3, g4, g5, g6⟩; first | omega | contradiction | exact hb14 ⟨g1, g2, g3, g4, g5, g6⟩)))), m11.below⟩
    intro hb40 Hz; try simp only [QQ, Qax] at hb40
    replace hb40 := beq_eq_false_iff_ne.1 hb40
    refine gz hK1 Hz (.sk <| .sk <| .sk <| .sk <| .sk <| .pickF rfl rfl <| .move rfl <| .sk <| .sk <| .sk <| .sk <| .sk <| .pickF rfl rfl <| .assign rfl <| .nil) fun Az Hz => ?_
    refine rt1 Hz ?_
    exact ⟨congrArg (fun b9 => Ending.returned (.bool b9)) ((Eq.symm (decide_eq_false (by rintro ⟨g1, g2, g3, g4, g5, g6⟩; first | omega | contradiction | exact hb14 ⟨g1, g2, g3, g4, g5, g6⟩)))), m11.below⟩
   intro hb32 Hz; try simp only [QQ, Qax] at hb32
   refine gz hK1 Hz (.sk <| .sk <| .sk <| .sk <| .sk <| .pickF rfl rfl <| .move rfl <| .sk <| .sk <| .sk <| .sk <| .sk <| .pickF rfl rfl <| .move rfl <| .sk <| .sk <| .sk <| .sk <| .sk <| .pickF rfl rfl <| .assign rfl <| .nil) fun Az Hz => ?_
   refine rt1 Hz ?_
   exact ⟨congrArg (fun b9 => Ending.returned (.bool b9)) ((Eq.symm (decide_eq_false (by rintro ⟨g1, g2, g3, g4, g5, g6⟩; first | omega | contradiction | exact hb14 ⟨g1, g2, g3, g4, g5, g6⟩)))), m11.below⟩
  intro hb24 Hz; try simp only [QQ, Qax] at hb24
  refine gz hK1 Hz (.sk <| .sk <| .sk <| .sk <| .sk <| .pickF rfl rfl <| .move rfl <| .sk <| .sk <| .sk <| .sk <| .sk <| .pickF rfl rfl <| .move rfl <| .sk <| .sk <| .sk <| .sk <| .sk <| .pickF rfl rfl <| .move rfl <| .sk <| .sk <| .sk <| .sk <| .sk <| .pickF rfl rfl <| .assign rfl <| .nil) fun Az Hz => ?_
  refine rt1 Hz ?_
  exact ⟨congrArg (fun b9 => Ending.returned (.bool b9)) ((Eq.symm (decide_eq_false (by rintro ⟨g1, g2, g3, g4, g5, g6⟩; first | omega | contradiction | exact hb14 ⟨g1, g2, g3, g4, g5, g6⟩)))), m11.below⟩
 intro hb14 Hz; try simp only [QQ, Qax] at hb14
 refine gz hK1 Hz (.sk <| .sk <| .sk <| .sk <| .sk <| .sk <| .sk <| .pickF rfl rfl <| .move rfl <| .sk <| .sk <| .sk <| .sk <| .sk <| .pickF rfl rfl <| .move rfl <| .sk <| .sk <| .sk <| .sk <| .sk <| .pickF rfl rfl <| .move rfl <| .sk <| .sk <| .sk <| .sk <| .sk <| .pickF rfl rfl <| .move rfl <| .sk <| .sk <| .sk <| .sk <| .sk <| .pickF rfl rfl <| .assign rfl <| .nil) fun Az Hz => ?_
 refine rt1 Hz ?_
 exact ⟨congrArg (fun b9 => Ending.returned (.bool b9)) ((Eq.symm (decide_eq_false (by rintro ⟨g1, g2, g3, g4, g5, g6⟩; first | omega | contradiction | exact hb14 ⟨g1, g2, g3, g4, g5, g6⟩)))), m11.below⟩
end
section
set_option maxRecDepth 100000
set_option maxHeartbeats 4000000
theorem pnums_x (xs : List Int) (q : Option Addr) (cq : Nat) (w0 : World) (h0 : Rd (fun _ => True) w0 (.slice q xs.length cq) (.ns .i64 xs)) (hl : xs.length ≤ 1000000) (hxb : ∀ k, k < xs.length → 0 ≤ xs.getD k 0 ∧ xs.getD k 0 ≤ 9223372036854775807) :
   Calls Tryz.prog 57 #[.slice q xs.length cq] w0 fun e w' => ∃ (p : Option Addr) (c : Nat), e = .returned (.slice p (encs xs).length c) ∧ w'.ownsRow w0.heap.size 5 1 (.slice p (encs xs).length c) (encs xs).length ((encs xs).map (Value.int .u8)) ∧ Below w0.heap.size w0 w' := by
 refine ent1 Tryz.func57 rfl Tryz.ntmps57 fun Az Hz => ?_
 have m0 := MemOk.start (fun _ => False) w0
 refine regS Hz (.assign rfl .nil) fun Az Hz => ?_
 refine regS Hz (.assign rfl .nil) fun Az Hz => ?_
 refine wsk fun K0 hK0 => ?_
 refine regS Hz (.move rfl <| .len rfl U35 <| .move rfl .nil) fun Az Hz => ?_
 refine wp_block ?_
 refine wp_loop_ghost (fun g a w => ∃ (k : Nat) (b : List Int) (p : Option Addr) (c : Nat), k ≤ xs.length ∧ g = xs.length - k ∧ b = encs (xs.take k) ∧ Has 20 [(3, .slice p b.length c), (6, .slice q xs.length cq), (7, .int .i64 xs.length), (8, .int .i64 k)] a ∧ MemOk (cn w0) w0 [(9, .num (.slice p b.length c) 5 .u8 b)] w) (xs.length) ?_ ?_
 · have mz := m0.nilN 9 5 .u8
   exact ⟨0, [], _, _, Nat.zero_le _, rfl, rfl, Hz.only [3, 6, 7, 8], mz.only [9]⟩
 clear Hz m0
 rintro g Az w6 ⟨k, b, p, c, hkl, hg, hbe, Hz, m6⟩
 refine regS Hz (.lss rfl rfl .nil) fun Az Hz => ?_
 refine wsk fun K1 hK1 => ?_
 refine bc Hz 9 ?_ ?_
 ·
  intro hb8 Hz; try simp only [QQ, Qax] at hb8
  have hk : k < xs.length := by have := hb8; first | omega | (simp at this; omega)
  have hxk := hxb k hk
  refine wct Hz ?_
  refine zss (hK1 _ _ ?_)
  refine wsk fun K2 hK2 => ?_
  refine wp_block ?_
  refine zsr fun K3 hK3 => ?_
  obtain ⟨gx10, ox10, hp10, hl10, hrg10⟩ := h0.extN (k) hk
  revert Hz
  cases hp10
  intro Hz
  refine gz hK3 Hz (.c rfl (fun _ h_ => y_idx h_ rfl rfl U35 fct15 (k) rfl hk) <| .loadAt1 (hrg10 m6 rfl) (q := 0) rfl rfl rfl U3 rfl <| .assign rfl <| .nil) fun Az Hz => ?_
  refine wp_region_lit ?_
  refine goCh Hz (.move rfl <| .move rfl <| .conv rfl U3 U108 (r := xs.getD k 0) (IntWalk.u64_in _ (by omega)) .nil) fun Az Hz => ?_
  refine plz (e_litN Hz m6 100 (k := .u64) rfl rfl U168 fct27 rfl rfl rfl rfl fun g17 Az w18 Hz m18 => ?_)
  have m19 := m18.freezeN 100 rfl
  refine plz (ecn Hz Tryz.func104 rfl m19 101 (pput_x _ [xs.getD k 0] _ ((m19.rd (i := 100) rfl).any) (by simp) (one63 (by omega))) fun p20 c20 Az w20 Hz m21 => ?_)
  refine plz (e_appN Hz m21 9 rfl rfl rfl (m21.numsO (i := 101) rfl) U22 fct0 (by decide) (by rw [hbe]; have h8 := encs_len (xs.take k); rw [List.length_take] at h8; have h9 := encs_len [xs.getD k 0]; rw [List.length_singleton] at h9; omega) rfl fun p23 c23 Az w24 Hz m24 => ?_)
  refine gz hK2 Hz (.assign rfl .nil) fun Az Hz => ?_
  replace Hz := Hz.oz [3, 6, 7, 8]
  refine wp_region_lit ?_
  refine goCh Hz (.inc (k + 1) <| .move rfl .nil) fun Az Hz => ?_
  refine wpList_nil ?_
  show ∃ n', n' < _ ∧ _
  exact ⟨xs.length - (k + 1), by omega, k + 1, _, _, _, by omega, rfl, by rw [encs_snoc _ _ hk, ← hbe, encs_one], Hz.only [3, 6, 7, 8], m24.only [9]⟩
 intro hb8 Hz; try simp only [QQ, Qax] at hb8
 revert Hz
 obtain rfl : k = xs.length := by have := hb8; first | omega | (simp at this; omega)
 intro Hz
 refine wcf Hz ?_
 refine wp_exit ?_
 refine hK0 _ _ ?_
 refine regS Hz (.move rfl <| .assign rfl .nil) fun Az Hz => ?_
 refine rt1 Hz ?_
 rw [List.take_length] at hbe
 revert Hz
 subst hbe
 intro Hz
 exact ⟨_, _, rfl, m6.ok 9 _ rfl, m6.below⟩
end
end Go.Proofs.YtkehgingagggaaaGreat.K
