/- General laws of walks. -/
import Derived.Test.YtkehgingagggaaaGreatG15
namespace Go.Proofs.YtkehgingagggaaaGreat.K
open Go.ChangeShapes Go.WideShapes Go.ChangeAt Go.RowKit
set_option linter.unusedVariables false
set_option linter.unusedSimpArgs false
section
theorem eqL_no {α : Type} [DecidableEq α] {xs ys : List α} (h : ¬ xs.length = ys.length) : decide (xs = ys) = false := decide_eq_false (fun e => h (by rw [e]))
theorem eqL_all {α : Type} [DecidableEq α] {xs ys : List α} {k : Nat} (hl : xs.length = ys.length) (hk : k = xs.length) (h : xs.take k = ys.take k) : decide (xs = ys) = true := by
 subst hk
 rw [List.take_of_length_le (Nat.le_refl _),List.take_of_length_le (by omega)] at h
 exact decide_eq_true h
theorem eqL_neP {α : Type} [DecidableEq α] {xs ys : List α} {k : Nat} {x y : α} (h1 : xs[k]? = some x) (h2 : ys[k]? = some y) (h : ¬ x = y) : decide (xs = ys) = false := decide_eq_false (fun e => h (by rw [e,h2] at h1; injection h1 with h1; exact h1.symm))
theorem eqL_stepP {α : Type} {xs ys : List α} {k : Nat} {x y : α} (ht : xs.take k = ys.take k) (h1 : xs[k]? = some x) (h2 : ys[k]? = some y) (h : x = y) : xs.take (k + 1) = ys.take (k + 1) := by
 obtain ⟨a1,a2⟩ := List.getElem?_eq_some_iff.1 h1
 obtain ⟨b1,b2⟩ := List.getElem?_eq_some_iff.1 h2
 rw [List.take_add_one,List.take_add_one,ht,h1,h2,h]
theorem eqL_neD {xs ys : List Int} {k : Nat} (h1 : k < xs.length) (h2 : k < ys.length) (h : ¬ xs.getD k 0 = ys.getD k 0) : decide (xs = ys) = false := decide_eq_false (fun e => h (by rw [e]))
theorem eqL_stepD {xs ys : List Int} {k : Nat} (ht : xs.take k = ys.take k) (h1 : k < xs.length) (h2 : k < ys.length) (h : xs.getD k 0 = ys.getD k 0) : xs.take (k + 1) = ys.take (k + 1) := by
 rw [List.getD,List.getD,List.getElem?_eq_getElem h1,List.getElem?_eq_getElem h2] at h
 exact eqL_stepP ht (List.getElem?_eq_getElem h1) (List.getElem?_eq_getElem h2) h
theorem eqP_yes {α : Type} [DecidableEq α] {a c : Int} {b d : α} (h : a = c) : decide ((a,b) = (c,d)) = decide (b = d) := by
 subst h; by_cases hb : b = d
 · rw [decide_eq_true hb,hb]; exact decide_eq_true rfl
 rw [decide_eq_false hb]; exact decide_eq_false (fun e => hb (Prod.mk.inj e).2)
theorem eqP_no {α : Type} [DecidableEq α] {a c : Int} {b d : α} (h : ¬ a = c) : decide ((a,b) = (c,d)) = false := decide_eq_false (fun e => h (Prod.mk.inj e).1)
set_option maxRecDepth 100000
set_option maxHeartbeats 4000000
theorem msI (xs ys : List Int) (p1 p2 : Option Addr) (c1 c2 : Nat) (w0 : World) (hx : xs.length ≤ 1000000) (hy : ys.length ≤ 1000000) (h1 : Rd (fun _ => True) w0 (.slice p1 xs.length c1) (.ns .i64 xs)) (h2 : Rd (fun _ => True) w0 (.slice p2 ys.length c2) (.ns .i64 ys)) :
   Calls Tryz.prog 103 #[.slice p1 xs.length c1,.slice p2 ys.length c2] w0 fun e w' => e = .returned (.bool (decide (xs = ys))) ∧ Below w0.heap.size w0 w' := by
 refine ent2 Tryz.func103 rfl Tryz.ntmps103 fun Y U =>?_
 have m0 := MemOk.start (fun _ => False) w0
 refine regS U (.assign rfl .nil) fun Y U =>?_
 refine wsk fun K0 hK0 =>?_
 refine regS U (.move rfl<|.len rfl U35<|.move rfl<|.len rfl U35<|.neq rfl rfl .nil) fun Y U =>?_
 refine bc U 10 ?_ ?_
 ·
  intro hb7 U; try simp only [QQ,Qax] at hb7
  have hR : decide (xs = ys) = false := eqL_no (by omega)
  refine wct U ?_
  refine regS U (.assign rfl .nil) fun Y U =>?_
  refine rt1 U ?_
  exact ⟨by rw [hR],m0.below⟩
 intro hb7 U; try simp only [QQ,Qax] at hb7
 have hlq : xs.length = ys.length := by omega
 refine wcf U ?_
 refine zss (hK0 _ _ ?_)
 refine wsk fun K1 hK1 =>?_
 refine regS U (.assign rfl .nil) fun Y U =>?_
 refine wp_block ?_
 refine wp_loop_ghost (fun g a w => ∃ k : Nat,k ≤ xs.length ∧ xs.length = ys.length ∧ xs.take k = ys.take k ∧ g = xs.length - k ∧ Has 26 [(0,.slice p1 xs.length c1),(1,.slice p2 ys.length c2),(5,.int .i64 k)] a ∧ MemOk (cn w0) w0 [] w) (xs.length) ?_ ?_
 · exact ⟨0,Nat.zero_le _,hlq,rfl,rfl,U.only [0,1,5],m0.only []⟩
 clear U m0
 rintro g Y w10 ⟨k,hkl,hlq,htk,hg,U,m10⟩
 refine wsk fun K2 hK2 =>?_
 refine regS U (.move rfl<|.move rfl<|.len rfl U35<|.lss rfl rfl .nil) fun Y U =>?_
 refine bc U 14 ?_ ?_
 ·
  intro hb15 U; try simp only [QQ,Qax] at hb15
  have hk : k < xs.length := by omega
  have hk2 : k < ys.length := by omega
  refine wct U ?_
  refine zss (hK2 _ _ ?_)
  refine wsk fun K3 hK3 =>?_
  refine wp_block ?_
  refine wsk fun K4 hK4 =>?_
  obtain ⟨gx17,ox17,hp17,hl17,hrg17⟩ := h1.extN (k) hk
  revert U
  cases hp17
  intro U
  obtain ⟨gx19,ox19,hp19,hl19,hrg19⟩ := h2.extN (k) hk2
  revert U
  cases hp19
  intro U
  have m20 : MemOk _ _ [] _ := m10.only []; clear m10
  refine region_p 9 (B := []) (m20.to trivial) m20 (by kernel_rfl) (fun w21 hP21 m21 =>?_); clear m20
  refine goR hP21 [0,1,2,3,4,5,6,7,8] [3,7] 9 0 511 U (m21.to trivial) (.move rfl<|.move rfl<|.p (fun _ _ h_ => y_idx h_ rfl rfl U35 fct15 (k) rfl hk)<|.loadAt1 (fun _ h_ => (hrg17 h_ rfl)) (q := 0) rfl rfl rfl U3 rfl<|.move rfl<|.move rfl<|.p (fun _ _ h_ => y_idx h_ rfl rfl U35 fct15 (k) rfl hk2)<|.loadAt1 (fun _ h_ => (hrg19 h_ rfl)) (q := 0) rfl rfl rfl U3 rfl<|.neq rfl rfl .nil) fun Y U =>?_
  refine wpAnyE_done (by kernel_rfl) ?_ _
  refine hK4 _ _ ?_
  refine bc U 25 ?_ ?_
  ·
   intro hb31 U; try simp only [QQ,Qax] at hb31
   have hR : decide (xs = ys) = false := eqL_neD hk hk2 hb31
   refine wct U ?_
   replace U := U.oz [0,1,5]
   refine regS U (.assign rfl .nil) fun Y U =>?_
   refine rt1 U ?_
   exact ⟨by rw [hR],m21.below⟩
  intro hb31 U; try simp only [QQ,Qax] at hb31
  have htk2 := eqL_stepD htk hk hk2 hb31
  refine wcf U ?_
  refine zss (hK3 _ _ ?_)
  replace U := U.oz [0,1,5]
  refine wp_region_lit ?_
  refine goCh U (.move rfl<|.inc (k + 1)<|.assign rfl .nil) fun Y U =>?_
  refine wpList_nil ?_
  show ∃ n',n' < _ ∧ _
  exact ⟨xs.length - (k + 1),by omega,k + 1,by omega,hlq,htk2,rfl,U.only [0,1,5],m21.only []⟩
 intro hb15 U; try simp only [QQ,Qax] at hb15
 have hR : decide (xs = ys) = true := eqL_all hlq (by omega) htk
 refine wcf U ?_
 refine wp_exit ?_
 refine hK1 _ _ ?_
 refine regS U (.assign rfl .nil) fun Y U =>?_
 refine rt1 U ?_
 exact ⟨by rw [hR],m10.below⟩
theorem msP (xs ys : List Int) (p1 p2 : Option Addr) (c1 c2 : Nat) (w0 : World) (hx : xs.length ≤ 1000000) (hy : ys.length ≤ 1000000) (h1 : Rd (fun _ => True) w0 (.slice p1 xs.length c1) (.ns .i64 xs)) (h2 : Rd (fun _ => True) w0 (.slice p2 ys.length c2) (.ns .i64 ys)) :
   Calls Tryz.prog 54 #[.slice p1 xs.length c1,.slice p2 ys.length c2] w0 fun e w' => e = .returned (.bool (decide (xs = ys))) ∧ Below w0.heap.size w0 w' := by
 refine ent2 Tryz.func54 rfl Tryz.ntmps54 fun Y U =>?_
 have m0 := MemOk.start (fun _ => False) w0
 refine regS U (.assign rfl .nil) fun Y U =>?_
 refine wsk fun K0 hK0 =>?_
 refine regS U (.move rfl<|.len rfl U48<|.move rfl<|.len rfl U48<|.neq rfl rfl .nil) fun Y U =>?_
 refine bc U 10 ?_ ?_
 ·
  intro hb7 U; try simp only [QQ,Qax] at hb7
  have hR : decide (xs = ys) = false := eqL_no (by omega)
  refine wct U ?_
  refine regS U (.assign rfl .nil) fun Y U =>?_
  refine rt1 U ?_
  exact ⟨by rw [hR],m0.below⟩
 intro hb7 U; try simp only [QQ,Qax] at hb7
 have hlq : xs.length = ys.length := by omega
 refine wcf U ?_
 refine zss (hK0 _ _ ?_)
 refine wsk fun K1 hK1 =>?_
 refine regS U (.assign rfl .nil) fun Y U =>?_
 refine wp_block ?_
 refine wp_loop_ghost (fun g a w => ∃ k : Nat,k ≤ xs.length ∧ xs.length = ys.length ∧ xs.take k = ys.take k ∧ g = xs.length - k ∧ Has 26 [(0,.slice p1 xs.length c1),(1,.slice p2 ys.length c2),(5,.int .i64 k)] a ∧ MemOk (cn w0) w0 [] w) (xs.length) ?_ ?_
 · exact ⟨0,Nat.zero_le _,hlq,rfl,rfl,U.only [0,1,5],m0.only []⟩
 clear U m0
 rintro g Y w10 ⟨k,hkl,hlq,htk,hg,U,m10⟩
 refine wsk fun K2 hK2 =>?_
 refine regS U (.move rfl<|.move rfl<|.len rfl U48<|.lss rfl rfl .nil) fun Y U =>?_
 refine bc U 14 ?_ ?_
 ·
  intro hb15 U; try simp only [QQ,Qax] at hb15
  have hk : k < xs.length := by omega
  have hk2 : k < ys.length := by omega
  refine wct U ?_
  refine zss (hK2 _ _ ?_)
  refine wsk fun K3 hK3 =>?_
  refine wp_block ?_
  refine wsk fun K4 hK4 =>?_
  obtain ⟨gx17,ox17,hp17,hl17,hrg17⟩ := h1.extN (k) hk
  revert U
  cases hp17
  intro U
  obtain ⟨gx19,ox19,hp19,hl19,hrg19⟩ := h2.extN (k) hk2
  revert U
  cases hp19
  intro U
  have m20 : MemOk _ _ [] _ := m10.only []; clear m10
  refine region_p 9 (B := []) (m20.to trivial) m20 (by kernel_rfl) (fun w21 hP21 m21 =>?_); clear m20
  refine goR hP21 [0,1,2,3,4,5,6,7,8] [3,7] 9 0 511 U (m21.to trivial) (.move rfl<|.move rfl<|.p (fun _ _ h_ => y_idx h_ rfl rfl U48 fct18 (k) rfl hk)<|.loadAt1 (fun _ h_ => (hrg17 h_ rfl)) (q := 0) rfl rfl rfl U2 rfl<|.move rfl<|.move rfl<|.p (fun _ _ h_ => y_idx h_ rfl rfl U48 fct18 (k) rfl hk2)<|.loadAt1 (fun _ h_ => (hrg19 h_ rfl)) (q := 0) rfl rfl rfl U2 rfl<|.neq rfl rfl .nil) fun Y U =>?_
  refine wpAnyE_done (by kernel_rfl) ?_ _
  refine hK4 _ _ ?_
  refine bc U 25 ?_ ?_
  ·
   intro hb31 U; try simp only [QQ,Qax] at hb31
   have hR : decide (xs = ys) = false := eqL_neD hk hk2 hb31
   refine wct U ?_
   replace U := U.oz [0,1,5]
   refine regS U (.assign rfl .nil) fun Y U =>?_
   refine rt1 U ?_
   exact ⟨by rw [hR],m21.below⟩
  intro hb31 U; try simp only [QQ,Qax] at hb31
  have htk2 := eqL_stepD htk hk hk2 hb31
  refine wcf U ?_
  refine zss (hK3 _ _ ?_)
  replace U := U.oz [0,1,5]
  refine wp_region_lit ?_
  refine goCh U (.move rfl<|.inc (k + 1)<|.assign rfl .nil) fun Y U =>?_
  refine wpList_nil ?_
  show ∃ n',n' < _ ∧ _
  exact ⟨xs.length - (k + 1),by omega,k + 1,by omega,hlq,htk2,rfl,U.only [0,1,5],m21.only []⟩
 intro hb15 U; try simp only [QQ,Qax] at hb15
 have hR : decide (xs = ys) = true := eqL_all hlq (by omega) htk
 refine wcf U ?_
 refine wp_exit ?_
 refine hK1 _ _ ?_
 refine regS U (.assign rfl .nil) fun Y U =>?_
 refine rt1 U ?_
 exact ⟨by rw [hR],m10.below⟩
theorem msE (xs ys : List Int) (p1 p2 : Option Addr) (c1 c2 : Nat) (w0 : World) (hx : xs.length ≤ 1000000) (hy : ys.length ≤ 1000000) (h1 : Rd (fun _ => True) w0 (.slice p1 xs.length c1) (.ns .i64 xs)) (h2 : Rd (fun _ => True) w0 (.slice p2 ys.length c2) (.ns .i64 ys)) :
   Calls Tryz.prog 83 #[.slice p1 xs.length c1,.slice p2 ys.length c2] w0 fun e w' => e = .returned (.bool (decide (xs = ys))) ∧ Below w0.heap.size w0 w' := by
 refine ent2 Tryz.func83 rfl Tryz.ntmps83 fun Y U =>?_
 have m0 := MemOk.start (fun _ => False) w0
 refine regS U (.assign rfl .nil) fun Y U =>?_
 refine wsk fun K0 hK0 =>?_
 refine regS U (.move rfl<|.len rfl U35<|.move rfl<|.len rfl U35<|.neq rfl rfl .nil) fun Y U =>?_
 refine bc U 10 ?_ ?_
 ·
  intro hb7 U; try simp only [QQ,Qax] at hb7
  have hR : decide (xs = ys) = false := eqL_no (by omega)
  refine wct U ?_
  refine regS U (.assign rfl .nil) fun Y U =>?_
  refine rt1 U ?_
  exact ⟨by rw [hR],m0.below⟩
 intro hb7 U; try simp only [QQ,Qax] at hb7
 have hlq : xs.length = ys.length := by omega
 refine wcf U ?_
 refine zss (hK0 _ _ ?_)
 refine wsk fun K1 hK1 =>?_
 refine regS U (.move rfl<|.len rfl U35<|.move rfl .nil) fun Y U =>?_
 refine wp_block ?_
 refine wp_loop_ghost (fun g a w => ∃ k : Nat,k ≤ xs.length ∧ xs.length = ys.length ∧ xs.take k = ys.take k ∧ g = xs.length - k ∧ Has 26 [(0,.slice p1 xs.length c1),(1,.slice p2 ys.length c2),(12,.int .i64 xs.length),(13,.int .i64 k)] a ∧ MemOk (cn w0) w0 [] w) (xs.length) ?_ ?_
 · exact ⟨0,Nat.zero_le _,hlq,rfl,rfl,U.only [0,1,12,13],m0.only []⟩
 clear U m0
 rintro g Y w12 ⟨k,hkl,hlq,htk,hg,U,m12⟩
 refine regS U (.lss rfl rfl .nil) fun Y U =>?_
 refine wsk fun K2 hK2 =>?_
 refine bc U 14 ?_ ?_
 ·
  intro hb14 U; try simp only [QQ,Qax] at hb14
  have hk : k < xs.length := by omega
  have hk2 : k < ys.length := by omega
  refine wct U ?_
  refine zss (hK2 _ _ ?_)
  refine wsk fun K3 hK3 =>?_
  refine wp_block ?_
  refine regS U (.move rfl<|.assign rfl .nil) fun Y U =>?_
  refine wsk fun K4 hK4 =>?_
  obtain ⟨gx18,ox18,hp18,hl18,hrg18⟩ := h1.extN (k) hk
  revert U
  cases hp18
  intro U
  obtain ⟨gx20,ox20,hp20,hl20,hrg20⟩ := h2.extN (k) hk2
  revert U
  cases hp20
  intro U
  have m21 : MemOk _ _ [] _ := m12.only []; clear m12
  refine region_p 9 (B := []) (m21.to trivial) m21 (by kernel_rfl) (fun w22 hP22 m22 =>?_); clear m21
  refine goR hP22 [0,1,2,3,4,5,6,7,8] [3,7] 9 0 511 U (m22.to trivial) (.move rfl<|.move rfl<|.p (fun _ _ h_ => y_idx h_ rfl rfl U35 fct15 (k) rfl hk)<|.loadAt1 (fun _ h_ => (hrg18 h_ rfl)) (q := 0) rfl rfl rfl U3 rfl<|.move rfl<|.move rfl<|.p (fun _ _ h_ => y_idx h_ rfl rfl U35 fct15 (k) rfl hk2)<|.loadAt1 (fun _ h_ => (hrg20 h_ rfl)) (q := 0) rfl rfl rfl U3 rfl<|.neq rfl rfl .nil) fun Y U =>?_
  refine wpAnyE_done (by kernel_rfl) ?_ _
  refine hK4 _ _ ?_
  refine bc U 24 ?_ ?_
  ·
   intro hb32 U; try simp only [QQ,Qax] at hb32
   have hR : decide (xs = ys) = false := eqL_neD hk hk2 hb32
   refine wct U ?_
   replace U := U.oz [0,1,12,13]
   refine regS U (.assign rfl .nil) fun Y U =>?_
   refine rt1 U ?_
   exact ⟨by rw [hR],m22.below⟩
  intro hb32 U; try simp only [QQ,Qax] at hb32
  have htk2 := eqL_stepD htk hk hk2 hb32
  refine wcf U ?_
  refine zss (hK3 _ _ ?_)
  replace U := U.oz [0,1,12,13]
  refine wp_region_lit ?_
  refine goCh U (.inc (k + 1)<|.move rfl .nil) fun Y U =>?_
  refine wpList_nil ?_
  show ∃ n',n' < _ ∧ _
  exact ⟨xs.length - (k + 1),by omega,k + 1,by omega,hlq,htk2,rfl,U.only [0,1,12,13],m22.only []⟩
 intro hb14 U; try simp only [QQ,Qax] at hb14
 have hR : decide (xs = ys) = true := eqL_all hlq (by omega) htk
 refine wcf U ?_
 refine wp_exit ?_
 refine hK1 _ _ ?_
 refine regS U (.assign rfl .nil) fun Y U =>?_
 refine rt1 U ?_
 exact ⟨by rw [hR],m12.below⟩
theorem msF (xs ys : List Int) (p1 p2 : Option Addr) (c1 c2 : Nat) (w0 : World) (hx : xs.length ≤ 1000000) (hy : ys.length ≤ 1000000) (h1 : Rd (fun _ => True) w0 (.slice p1 xs.length c1) (.ns .i64 xs)) (h2 : Rd (fun _ => True) w0 (.slice p2 ys.length c2) (.ns .i64 ys)) :
   Calls Tryz.prog 81 #[.slice p1 xs.length c1,.slice p2 ys.length c2] w0 fun e w' => e = .returned (.bool (decide (xs = ys))) ∧ Below w0.heap.size w0 w' := by
 refine ent2 Tryz.func81 rfl Tryz.ntmps81 fun Y U =>?_
 have m0 := MemOk.start (fun _ => False) w0
 refine regS U (.assign rfl .nil) fun Y U =>?_
 refine wsk fun K0 hK0 =>?_
 refine regS U (.move rfl<|.len rfl U48<|.move rfl<|.len rfl U48<|.neq rfl rfl .nil) fun Y U =>?_
 refine bc U 10 ?_ ?_
 ·
  intro hb7 U; try simp only [QQ,Qax] at hb7
  have hR : decide (xs = ys) = false := eqL_no (by omega)
  refine wct U ?_
  refine regS U (.assign rfl .nil) fun Y U =>?_
  refine rt1 U ?_
  exact ⟨by rw [hR],m0.below⟩
 intro hb7 U; try simp only [QQ,Qax] at hb7
 have hlq : xs.length = ys.length := by omega
 refine wcf U ?_
 refine zss (hK0 _ _ ?_)
 refine wsk fun K1 hK1 =>?_
 refine regS U (.move rfl<|.len rfl U48<|.move rfl .nil) fun Y U =>?_
 refine wp_block ?_
 refine wp_loop_ghost (fun g a w => ∃ k : Nat,k ≤ xs.length ∧ xs.length = ys.length ∧ xs.take k = ys.take k ∧ g = xs.length - k ∧ Has 26 [(0,.slice p1 xs.length c1),(1,.slice p2 ys.length c2),(12,.int .i64 xs.length),(13,.int .i64 k)] a ∧ MemOk (cn w0) w0 [] w) (xs.length) ?_ ?_
 · exact ⟨0,Nat.zero_le _,hlq,rfl,rfl,U.only [0,1,12,13],m0.only []⟩
 clear U m0
 rintro g Y w12 ⟨k,hkl,hlq,htk,hg,U,m12⟩
 refine regS U (.lss rfl rfl .nil) fun Y U =>?_
 refine wsk fun K2 hK2 =>?_
 refine bc U 14 ?_ ?_
 ·
  intro hb14 U; try simp only [QQ,Qax] at hb14
  have hk : k < xs.length := by omega
  have hk2 : k < ys.length := by omega
  refine wct U ?_
  refine zss (hK2 _ _ ?_)
  refine wsk fun K3 hK3 =>?_
  refine wp_block ?_
  refine regS U (.move rfl<|.assign rfl .nil) fun Y U =>?_
  refine wsk fun K4 hK4 =>?_
  obtain ⟨gx18,ox18,hp18,hl18,hrg18⟩ := h1.extN (k) hk
  revert U
  cases hp18
  intro U
  obtain ⟨gx20,ox20,hp20,hl20,hrg20⟩ := h2.extN (k) hk2
  revert U
  cases hp20
  intro U
  have m21 : MemOk _ _ [] _ := m12.only []; clear m12
  refine region_p 9 (B := []) (m21.to trivial) m21 (by kernel_rfl) (fun w22 hP22 m22 =>?_); clear m21
  refine goR hP22 [0,1,2,3,4,5,6,7,8] [3,7] 9 0 511 U (m22.to trivial) (.move rfl<|.move rfl<|.p (fun _ _ h_ => y_idx h_ rfl rfl U48 fct18 (k) rfl hk)<|.loadAt1 (fun _ h_ => (hrg18 h_ rfl)) (q := 0) rfl rfl rfl U2 rfl<|.move rfl<|.move rfl<|.p (fun _ _ h_ => y_idx h_ rfl rfl U48 fct18 (k) rfl hk2)<|.loadAt1 (fun _ h_ => (hrg20 h_ rfl)) (q := 0) rfl rfl rfl U2 rfl<|.neq rfl rfl .nil) fun Y U =>?_
  refine wpAnyE_done (by kernel_rfl) ?_ _
  refine hK4 _ _ ?_
  refine bc U 24 ?_ ?_
  ·
   intro hb32 U; try simp only [QQ,Qax] at hb32
   have hR : decide (xs = ys) = false := eqL_neD hk hk2 hb32
   refine wct U ?_
   replace U := U.oz [0,1,12,13]
   refine regS U (.assign rfl .nil) fun Y U =>?_
   refine rt1 U ?_
   exact ⟨by rw [hR],m22.below⟩
  intro hb32 U; try simp only [QQ,Qax] at hb32
  have htk2 := eqL_stepD htk hk hk2 hb32
  refine wcf U ?_
  refine zss (hK3 _ _ ?_)
  replace U := U.oz [0,1,12,13]
  refine wp_region_lit ?_
  refine goCh U (.inc (k + 1)<|.move rfl .nil) fun Y U =>?_
  refine wpList_nil ?_
  show ∃ n',n' < _ ∧ _
  exact ⟨xs.length - (k + 1),by omega,k + 1,by omega,hlq,htk2,rfl,U.only [0,1,12,13],m22.only []⟩
 intro hb14 U; try simp only [QQ,Qax] at hb14
 have hR : decide (xs = ys) = true := eqL_all hlq (by omega) htk
 refine wcf U ?_
 refine wp_exit ?_
 refine hK1 _ _ ?_
 refine regS U (.assign rfl .nil) fun Y U =>?_
 refine rt1 U ?_
 exact ⟨by rw [hR],m12.below⟩
theorem mbeq (xs ys : List Int) (p1 p2 : Option Addr) (c1 c2 : Nat) (w0 : World) (h1 : Rd (fun _ => True) w0 (.slice p1 xs.length c1) (.ns .u8 xs)) (h2 : Rd (fun _ => True) w0 (.slice p2 ys.length c2) (.ns .u8 ys)) (hb1 : BytesL xs) (hb2 : BytesL ys) :
   Calls Tryz.prog 64 #[.slice p1 xs.length c1,.slice p2 ys.length c2] w0 fun e w' => e = .returned (.bool (decide (xs = ys))) ∧ Below w0.heap.size w0 w' := by
 refine ent2 Tryz.func64 rfl Tryz.ntmps64 fun Y U =>?_
 have m0 := MemOk.start (fun _ => False) w0
 refine regS U (.assign rfl .nil) fun Y U =>?_
 refine regS U (.move rfl<|.str rfl (h1.now' m0 rfl).ns_out.nums U22 U5 U9<|.move rfl<|.str rfl (h2.now' m0 rfl).ns_out.nums U22 U5 U9<|.eqlS rfl rfl<|.assign rfl .nil) fun Y U =>?_
 refine rt1 U ?_
 exact ⟨by rw [str_beq hb1 hb2],m0.below⟩
theorem mclo (xb yb : Int) (xd yd : List Int) (p1 p2 : Option Addr) (c1 c2 : Nat) (w0 : World) (h1 : Rd (fun _ => True) w0 (.slice p1 xd.length c1) (.ns .u8 xd)) (h2 : Rd (fun _ => True) w0 (.slice p2 yd.length c2) (.ns .u8 yd)) (hb1 : BytesL xd) (hb2 : BytesL yd) :
   Calls Tryz.prog 142 #[.agg #[.int .i64 xb,.slice p1 xd.length c1],.agg #[.int .i64 yb,.slice p2 yd.length c2]] w0 fun e w' => e = .returned (.bool (decide ((xb,xd) = (yb,yd)))) ∧ Below w0.heap.size w0 w' := by
 refine ent2 Tryz.func142 rfl Tryz.ntmps142 fun Y U =>?_
 have m0 := MemOk.start (fun _ => False) w0
 refine zsr fun K0 hK0 =>?_
 refine plz (e_box U m0 9 (cs := [_,_]) rfl rfl rfl fun g1 Y w2 U m2 _ _ =>?_)
 refine plz (e_box U m2 10 (cs := [_,_]) rfl rfl rfl fun g3 Y w4 U m4 _ _ =>?_)
 refine gz hK0 U (.assign rfl .nil) fun Y U =>?_
 refine zsr fun K1 hK1 =>?_
 refine goCh U (.fa 0 rfl U59<|.lb m4 9 U3 rfl rfl rfl<|.fa 0 rfl U59<|.lb m4 10 U3 rfl rfl rfl<|.eql rfl rfl<|.move rfl .nil) fun Y U =>?_
 refine bc U 10 ?_ ?_
 ·
  intro hb18 U; try simp only [QQ,Qax] at hb18
  have hR : decide ((xb,xd) = (yb,yd)) = decide (xd = yd) := eqP_yes hb18
  refine goCh U (.faZ 1 rfl U59<|.loadB1Z m4 (i := 9) rfl rfl rfl U22 rfl<|.faZ 1 rfl U59<|.loadB1Z m4 (i := 10) rfl rfl rfl U22 rfl .nil) fun Y U =>?_
  refine stz U (ecb U Tryz.func64 rfl m4 (mbeq xd yd _ _ _ _ _ ((h1.now' m4 rfl).any) ((h2.now' m4 rfl).any) hb1 hb2) fun Y w23 U m24 =>?_)
  refine gz hK1 U (.pickT rfl rfl<|.assign rfl<|.nil) fun Y U =>?_
  refine rt1 U ?_
  exact ⟨by rw [hR],m24.below⟩
 intro hb18 U; try simp only [QQ,Qax] at hb18
 have hR : decide ((xb,xd) = (yb,yd)) = false := eqP_no hb18
 refine gz hK1 U (.sk<|.sk<|.sk<|.sk<|.sk<|.pickF rfl rfl<|.assign rfl<|.nil) fun Y U =>?_
 refine rt1 U ?_
 exact ⟨by rw [hR],m4.below⟩
theorem meqf (xs ys : List (Int × List Int)) (p1 p2 : Option Addr) (n1 n2 c1 c2 : Nat) (w0 : World) (h1 : Rd (fun _ => True) w0 (.slice p1 n1 c1) (.l 2 (xs.map itD))) (h2 : Rd (fun _ => True) w0 (.slice p2 n2 c2) (.l 2 (ys.map itD))) (hl1 : xs.length ≤ 1000000) (hl2 : ys.length ≤ 1000000) (hi1 : ∀ e ∈ xs,BytesL e.2) (hi2 : ∀ e ∈ ys,BytesL e.2) :
   Calls Tryz.prog 141 #[.slice p1 n1 c1,.slice p2 n2 c2,.func (.func 142) #[] #[]] w0 fun e w' => e = .returned (.bool (decide (xs = ys))) ∧ Below w0.heap.size w0 w' := by
 obtain rfl : n1 = xs.length := by obtain ⟨pq,cq,hv,_⟩ := h1.l_shape; injection hv with _ e2 _; rw [List.length_map] at e2; exact e2
 obtain rfl : n2 = ys.length := by obtain ⟨pq,cq,hv,_⟩ := h2.l_shape; injection hv with _ e2 _; rw [List.length_map] at e2; exact e2
 refine ent3 Tryz.func141 rfl Tryz.ntmps141 fun Y U =>?_
 have m0 := MemOk.start (fun _ => False) w0
 refine regS U (.assign rfl .nil) fun Y U =>?_
 refine wsk fun K0 hK0 =>?_
 refine regS U (.move rfl<|.len rfl U36<|.move rfl<|.len rfl U36<|.neq rfl rfl .nil) fun Y U =>?_
 refine bc U 14 ?_ ?_
 ·
  intro hb7 U; try simp only [QQ,Qax] at hb7
  have hR : decide (xs = ys) = false := eqL_no (by omega)
  refine wct U ?_
  refine regS U (.assign rfl .nil) fun Y U =>?_
  refine rt1 U ?_
  exact ⟨by rw [hR],m0.below⟩
 intro hb7 U; try simp only [QQ,Qax] at hb7
 have hlq : xs.length = ys.length := by omega
 refine wcf U ?_
 refine zss (hK0 _ _ ?_)
 refine wsk fun K1 hK1 =>?_
 refine regS U (.move rfl<|.len rfl U36<|.move rfl .nil) fun Y U =>?_
 refine wp_block ?_
 refine wp_loop_ghost (fun g a w => ∃ k : Nat,k ≤ xs.length ∧ xs.length = ys.length ∧ xs.take k = ys.take k ∧ g = xs.length - k ∧ Has 32 [(0,.slice p1 xs.length c1),(1,.slice p2 ys.length c2),(2,.func (.func 142) #[] #[]),(15,.slice p1 xs.length c1),(16,.int .i64 xs.length),(17,.int .i64 k)] a ∧ MemOk (cn w0) w0 [] w) (xs.length) ?_ ?_
 · exact ⟨0,Nat.zero_le _,hlq,rfl,rfl,U.only [0,1,2,15,16,17],m0.only []⟩
 clear U m0
 rintro g Y w12 ⟨k,hkl,hlq,htk,hg,U,m12⟩
 refine regS U (.lss rfl rfl .nil) fun Y U =>?_
 refine wsk fun K2 hK2 =>?_
 refine bc U 18 ?_ ?_
 ·
  intro hb14 U; try simp only [QQ,Qax] at hb14
  have hk : k < xs.length := by omega
  have hk2 : k < ys.length := by omega
  obtain ⟨⟨xb,xd⟩,hes⟩ : ∃ e,xs[k]? = some e := ⟨_,List.getElem?_eq_getElem hk⟩
  obtain ⟨⟨yb,yd⟩,hfs⟩ : ∃ e,ys[k]? = some e := ⟨_,List.getElem?_eq_getElem hk2⟩
  have hx1 := hi1 _ (List.mem_of_getElem? hes)
  have hy1 := hi2 _ (List.mem_of_getElem? hfs)
  refine wct U ?_
  refine zss (hK2 _ _ ?_)
  refine wsk fun K3 hK3 =>?_
  refine wp_block ?_
  refine zsr fun K4 hK4 =>?_
  refine goCh U (.move rfl .nil) fun Y U =>?_
  obtain ⟨gx18,ox18,vx18,hp18,hl18,hR18,hrg18⟩ := h1.extA (k) (r := [.v (.int .i64 xb),.ns .u8 xd]) (itD_get hes)
  revert U
  cases hp18
  rcases hR18 with _ | ⟨hd18_0,_ | ⟨hd18_1,_ | _⟩⟩
  obtain rfl := hd18_0.v_out
  clear hd18_0
  obtain ⟨p19,c19,hv19,hw19⟩ := hd18_1.ns_shape; subst hv19
  intro U
  refine goCh U (.c rfl (fun _ h_ => y_idx h_ rfl rfl U36 fct3 (k) rfl hk)<|.loadAt (hrg18 m12 rfl) rfl U59 rfl fct3 .nil) fun Y U =>?_
  refine plz (e_alloc U m12 101 fct4 rfl fun g22 Y w23 U m23 _ _ =>?_)
  refine goCh U (.assign rfl .nil) fun Y U =>?_
  refine plz (stw U m23 101 fct3 fun w25 m25 _ =>?_)
  refine znl (hK4 _ _ ?_)
  refine zsr fun K5 hK5 =>?_
  refine goCh U (.move rfl<|.move rfl .nil) fun Y U =>?_
  obtain ⟨gx31,ox31,vx31,hp31,hl31,hR31,hrg31⟩ := h2.extA (k) (r := [.v (.int .i64 yb),.ns .u8 yd]) (itD_get hfs)
  revert U
  cases hp31
  rcases hR31 with _ | ⟨hd31_0,_ | ⟨hd31_1,_ | _⟩⟩
  obtain rfl := hd31_0.v_out
  clear hd31_0
  obtain ⟨p32,c32,hv32,hw32⟩ := hd31_1.ns_shape; subst hv32
  intro U
  refine goCh U (.c rfl (fun _ h_ => y_idx h_ rfl rfl U36 fct3 (k) rfl hk2)<|.loadAt (hrg31 m25 rfl) rfl U59 rfl fct3 .nil) fun Y U =>?_
  refine plz (e_alloc U m25 103 fct4 rfl fun g35 Y w36 U m36 _ _ =>?_)
  refine plz (stw U m36 103 fct3 fun w37 m37 _ =>?_)
  refine znl (hK5 _ _ ?_)
  replace U := U.oz [0,1,2,15,16,17,8,9]
  refine zsr fun K6 hK6 =>?_
  refine goCh U (.move rfl<|.loadBR m37 (i := 101) rfl rfl U59 rfl fct3 (by simp) (by dsimp only [List.drop,List.take] <;> rfl)<|.loadBR m37 (i := 103) rfl rfl U59 rfl fct3 (by simp) (by dsimp only [List.drop,List.take] <;> rfl) .nil) fun Y U =>?_
  refine plz (e_callV U rfl Tryz.func142 rfl rfl rfl rfl (mclo xb yb xd yd _ _ _ _ _ ((hd18_1.now' m37 rfl).any) ((hd31_1.now' m37 rfl).any) hx1 hy1) ?_)
  rintro e w45 ⟨rfl,hb45⟩
  have m46 := m37.later hb45
  refine ⟨_,rfl,?_⟩; intro Y U
  refine gz hK6 U (.not rfl .nil) fun Y U =>?_
  refine bc U 30 ?_ ?_
  ·
   intro hb49 U; try simp only [QQ,Qax] at hb49
   have hR : decide (xs = ys) = false := eqL_neP hes hfs hb49
   refine wct U ?_
   replace U := U.oz [0,1,2,15,16,17]
   refine regS U (.assign rfl .nil) fun Y U =>?_
   refine rt1 U ?_
   exact ⟨by rw [hR],m46.below⟩
  intro hb49 U; try simp only [QQ,Qax] at hb49
  have htk2 := eqL_stepP htk hes hfs hb49
  refine wcf U ?_
  refine zss (hK3 _ _ ?_)
  replace U := U.oz [0,1,2,15,16,17]
  refine wp_region_lit ?_
  refine goCh U (.inc (k + 1)<|.move rfl .nil) fun Y U =>?_
  refine wpList_nil ?_
  show ∃ n',n' < _ ∧ _
  exact ⟨xs.length - (k + 1),by omega,k + 1,by omega,hlq,htk2,rfl,U.only [0,1,2,15,16,17],m46.only []⟩
 intro hb14 U; try simp only [QQ,Qax] at hb14
 have hR : decide (xs = ys) = true := eqL_all hlq (by omega) htk
 refine wcf U ?_
 refine wp_exit ?_
 refine hK1 _ _ ?_
 refine regS U (.assign rfl .nil) fun Y U =>?_
 refine rt1 U ?_
 exact ⟨by rw [hR],m12.below⟩
theorem mpsi (xs ys : List (Int × List Int)) (p1 p2 : Option Addr) (n1 n2 c1 c2 : Nat) (w0 : World) (h1 : Rd (fun _ => True) w0 (.slice p1 n1 c1) (.l 2 (xs.map itD))) (h2 : Rd (fun _ => True) w0 (.slice p2 n2 c2) (.l 2 (ys.map itD))) (hl1 : xs.length ≤ 1000000) (hl2 : ys.length ≤ 1000000) (hi1 : ∀ e ∈ xs,BytesL e.2) (hi2 : ∀ e ∈ ys,BytesL e.2) :
   Calls Tryz.prog 124 #[.slice p1 n1 c1,.slice p2 n2 c2] w0 fun e w' => e = .returned (.bool (decide (xs = ys))) ∧ Below w0.heap.size w0 w' := by
 refine ent2 Tryz.func124 rfl Tryz.ntmps124 fun Y U =>?_
 have m0 := MemOk.start (fun _ => False) w0
 refine regS U (.assign rfl .nil) fun Y U =>?_
 refine zsr fun K0 hK0 =>?_
 refine goCh U (.move rfl<|.move rfl .nil) fun Y U =>?_
 refine plz (ecb U Tryz.func141 rfl m0 (meqf xs ys _ _ _ _ _ _ _ ((h1.now' m0 rfl).any) ((h2.now' m0 rfl).any) hl1 hl2 hi1 hi2) fun Y w6 U m7 =>?_)
 refine gz hK0 U (.assign rfl .nil) fun Y U =>?_
 refine rt1 U ?_
 exact ⟨rfl,m7.below⟩
theorem mclw (xb yb : Int) (xd yd : List (Int × List Int)) (p1 p2 : Option Addr) (n1 n2 c1 c2 : Nat) (w0 : World) (h1 : Rd (fun _ => True) w0 (.slice p1 n1 c1) (.l 2 (xd.map itD))) (h2 : Rd (fun _ => True) w0 (.slice p2 n2 c2) (.l 2 (yd.map itD))) (hl1 : xd.length ≤ 1000000) (hl2 : yd.length ≤ 1000000) (hi1 : ∀ e ∈ xd,BytesL e.2) (hi2 : ∀ e ∈ yd,BytesL e.2) :
   Calls Tryz.prog 123 #[.agg #[.int .i64 xb,.slice p1 n1 c1],.agg #[.int .i64 yb,.slice p2 n2 c2]] w0 fun e w' => e = .returned (.bool (decide ((xb,xd) = (yb,yd)))) ∧ Below w0.heap.size w0 w' := by
 refine ent2 Tryz.func123 rfl Tryz.ntmps123 fun Y U =>?_
 have m0 := MemOk.start (fun _ => False) w0
 refine zsr fun K0 hK0 =>?_
 refine plz (e_box U m0 9 (cs := [_,_]) rfl rfl rfl fun g1 Y w2 U m2 _ _ =>?_)
 refine plz (e_box U m2 10 (cs := [_,_]) rfl rfl rfl fun g3 Y w4 U m4 _ _ =>?_)
 refine gz hK0 U (.assign rfl .nil) fun Y U =>?_
 refine zsr fun K1 hK1 =>?_
 refine goCh U (.fa 0 rfl U103<|.lb m4 9 U2 rfl rfl rfl<|.fa 0 rfl U103<|.lb m4 10 U2 rfl rfl rfl<|.eql rfl rfl<|.move rfl .nil) fun Y U =>?_
 refine bc U 10 ?_ ?_
 ·
  intro hb18 U; try simp only [QQ,Qax] at hb18
  have hR : decide ((xb,xd) = (yb,yd)) = decide (xd = yd) := eqP_yes hb18
  refine goCh U (.faZ 1 rfl U103<|.loadB1Z m4 (i := 9) rfl rfl rfl U36 rfl<|.faZ 1 rfl U103<|.loadB1Z m4 (i := 10) rfl rfl rfl U36 rfl .nil) fun Y U =>?_
  refine stz U (ecb U Tryz.func124 rfl m4 (mpsi xd yd _ _ _ _ _ _ _ ((h1.now' m4 rfl).any) ((h2.now' m4 rfl).any) hl1 hl2 hi1 hi2) fun Y w23 U m24 =>?_)
  refine gz hK1 U (.pickT rfl rfl<|.assign rfl<|.nil) fun Y U =>?_
  refine rt1 U ?_
  exact ⟨by rw [hR],m24.below⟩
 intro hb18 U; try simp only [QQ,Qax] at hb18
 have hR : decide ((xb,xd) = (yb,yd)) = false := eqP_no hb18
 refine gz hK1 U (.sk<|.sk<|.sk<|.sk<|.sk<|.pickF rfl rfl<|.assign rfl<|.nil) fun Y U =>?_
 refine rt1 U ?_
 exact ⟨by rw [hR],m4.below⟩
theorem meqw (xs ys : List (Int × List (Int × List Int))) (p1 p2 : Option Addr) (n1 n2 c1 c2 : Nat) (w0 : World) (h1 : Rd (fun _ => True) w0 (.slice p1 n1 c1) (.l 2 (xs.map wrD))) (h2 : Rd (fun _ => True) w0 (.slice p2 n2 c2) (.l 2 (ys.map wrD))) (hl1 : xs.length ≤ 1000000) (hl2 : ys.length ≤ 1000000) (hi1 : ∀ e ∈ xs,e.2.length ≤ 1000000 ∧ ∀ x ∈ e.2,BytesL x.2) (hi2 : ∀ e ∈ ys,e.2.length ≤ 1000000 ∧ ∀ x ∈ e.2,BytesL x.2) :
   Calls Tryz.prog 122 #[.slice p1 n1 c1,.slice p2 n2 c2,.func (.func 123) #[] #[]] w0 fun e w' => e = .returned (.bool (decide (xs = ys))) ∧ Below w0.heap.size w0 w' := by
 obtain rfl : n1 = xs.length := by obtain ⟨pq,cq,hv,_⟩ := h1.l_shape; injection hv with _ e2 _; rw [List.length_map] at e2; exact e2
 obtain rfl : n2 = ys.length := by obtain ⟨pq,cq,hv,_⟩ := h2.l_shape; injection hv with _ e2 _; rw [List.length_map] at e2; exact e2
 refine ent3 Tryz.func122 rfl Tryz.ntmps122 fun Y U =>?_
 have m0 := MemOk.start (fun _ => False) w0
 refine regS U (.assign rfl .nil) fun Y U =>?_
 refine wsk fun K0 hK0 =>?_
 refine regS U (.move rfl<|.len rfl U49<|.move rfl<|.len rfl U49<|.neq rfl rfl .nil) fun Y U =>?_
 refine bc U 14 ?_ ?_
 ·
  intro hb7 U; try simp only [QQ,Qax] at hb7
  have hR : decide (xs = ys) = false := eqL_no (by omega)
  refine wct U ?_
  refine regS U (.assign rfl .nil) fun Y U =>?_
  refine rt1 U ?_
  exact ⟨by rw [hR],m0.below⟩
 intro hb7 U; try simp only [QQ,Qax] at hb7
 have hlq : xs.length = ys.length := by omega
 refine wcf U ?_
 refine zss (hK0 _ _ ?_)
 refine wsk fun K1 hK1 =>?_
 refine regS U (.move rfl<|.len rfl U49<|.move rfl .nil) fun Y U =>?_
 refine wp_block ?_
 refine wp_loop_ghost (fun g a w => ∃ k : Nat,k ≤ xs.length ∧ xs.length = ys.length ∧ xs.take k = ys.take k ∧ g = xs.length - k ∧ Has 32 [(0,.slice p1 xs.length c1),(1,.slice p2 ys.length c2),(2,.func (.func 123) #[] #[]),(15,.slice p1 xs.length c1),(16,.int .i64 xs.length),(17,.int .i64 k)] a ∧ MemOk (cn w0) w0 [] w) (xs.length) ?_ ?_
 · exact ⟨0,Nat.zero_le _,hlq,rfl,rfl,U.only [0,1,2,15,16,17],m0.only []⟩
 clear U m0
 rintro g Y w12 ⟨k,hkl,hlq,htk,hg,U,m12⟩
 refine regS U (.lss rfl rfl .nil) fun Y U =>?_
 refine wsk fun K2 hK2 =>?_
 refine bc U 18 ?_ ?_
 ·
  intro hb14 U; try simp only [QQ,Qax] at hb14
  have hk : k < xs.length := by omega
  have hk2 : k < ys.length := by omega
  obtain ⟨⟨xb,xd⟩,hes⟩ : ∃ e,xs[k]? = some e := ⟨_,List.getElem?_eq_getElem hk⟩
  obtain ⟨⟨yb,yd⟩,hfs⟩ : ∃ e,ys[k]? = some e := ⟨_,List.getElem?_eq_getElem hk2⟩
  have hx1 := hi1 _ (List.mem_of_getElem? hes)
  have hy1 := hi2 _ (List.mem_of_getElem? hfs)
  refine wct U ?_
  refine zss (hK2 _ _ ?_)
  refine wsk fun K3 hK3 =>?_
  refine wp_block ?_
  refine zsr fun K4 hK4 =>?_
  refine goCh U (.move rfl .nil) fun Y U =>?_
  obtain ⟨gx18,ox18,vx18,hp18,hl18,hR18,hrg18⟩ := h1.extA (k) (r := [.v (.int .i64 xb),.l 2 (xd.map itD)]) (wrD_get hes)
  revert U
  cases hp18
  rcases hR18 with _ | ⟨hd18_0,_ | ⟨hd18_1,_ | _⟩⟩
  obtain rfl := hd18_0.v_out
  clear hd18_0
  obtain ⟨p19,c19,hv19,hw19⟩ := hd18_1.l_shape; subst hv19
  intro U
  refine goCh U (.c rfl (fun _ h_ => y_idx h_ rfl rfl U49 fct7 (k) rfl hk)<|.loadAt (hrg18 m12 rfl) rfl U103 rfl fct7 .nil) fun Y U =>?_
  refine plz (e_alloc U m12 101 fct8 rfl fun g22 Y w23 U m23 _ _ =>?_)
  refine goCh U (.assign rfl .nil) fun Y U =>?_
  refine plz (stw U m23 101 fct7 fun w25 m25 _ =>?_)
  refine znl (hK4 _ _ ?_)
  refine zsr fun K5 hK5 =>?_
  refine goCh U (.move rfl<|.move rfl .nil) fun Y U =>?_
  obtain ⟨gx31,ox31,vx31,hp31,hl31,hR31,hrg31⟩ := h2.extA (k) (r := [.v (.int .i64 yb),.l 2 (yd.map itD)]) (wrD_get hfs)
  revert U
  cases hp31
  rcases hR31 with _ | ⟨hd31_0,_ | ⟨hd31_1,_ | _⟩⟩
  obtain rfl := hd31_0.v_out
  clear hd31_0
  obtain ⟨p32,c32,hv32,hw32⟩ := hd31_1.l_shape; subst hv32
  intro U
  refine goCh U (.c rfl (fun _ h_ => y_idx h_ rfl rfl U49 fct7 (k) rfl hk2)<|.loadAt (hrg31 m25 rfl) rfl U103 rfl fct7 .nil) fun Y U =>?_
  refine plz (e_alloc U m25 103 fct8 rfl fun g35 Y w36 U m36 _ _ =>?_)
  refine plz (stw U m36 103 fct7 fun w37 m37 _ =>?_)
  refine znl (hK5 _ _ ?_)
  replace U := U.oz [0,1,2,15,16,17,8,9]
  refine zsr fun K6 hK6 =>?_
  refine goCh U (.move rfl<|.loadBR m37 (i := 101) rfl rfl U103 rfl fct7 (by simp) (by dsimp only [List.drop,List.take] <;> rfl)<|.loadBR m37 (i := 103) rfl rfl U103 rfl fct7 (by simp) (by dsimp only [List.drop,List.take] <;> rfl) .nil) fun Y U =>?_
  refine plz (e_callV U rfl Tryz.func123 rfl rfl rfl rfl (mclw xb yb xd yd _ _ _ _ _ _ _ ((hd18_1.now' m37 rfl).any) ((hd31_1.now' m37 rfl).any) hx1.1 hy1.1 hx1.2 hy1.2) ?_)
  rintro e w45 ⟨rfl,hb45⟩
  have m46 := m37.later hb45
  refine ⟨_,rfl,?_⟩; intro Y U
  refine gz hK6 U (.not rfl .nil) fun Y U =>?_
  refine bc U 30 ?_ ?_
  ·
   intro hb49 U; try simp only [QQ,Qax] at hb49
   have hR : decide (xs = ys) = false := eqL_neP hes hfs hb49
   refine wct U ?_
   replace U := U.oz [0,1,2,15,16,17]
   refine regS U (.assign rfl .nil) fun Y U =>?_
   refine rt1 U ?_
   exact ⟨by rw [hR],m46.below⟩
  intro hb49 U; try simp only [QQ,Qax] at hb49
  have htk2 := eqL_stepP htk hes hfs hb49
  refine wcf U ?_
  refine zss (hK3 _ _ ?_)
  replace U := U.oz [0,1,2,15,16,17]
  refine wp_region_lit ?_
  refine goCh U (.inc (k + 1)<|.move rfl .nil) fun Y U =>?_
  refine wpList_nil ?_
  show ∃ n',n' < _ ∧ _
  exact ⟨xs.length - (k + 1),by omega,k + 1,by omega,hlq,htk2,rfl,U.only [0,1,2,15,16,17],m46.only []⟩
 intro hb14 U; try simp only [QQ,Qax] at hb14
 have hR : decide (xs = ys) = true := eqL_all hlq (by omega) htk
 refine wcf U ?_
 refine wp_exit ?_
 refine hK1 _ _ ?_
 refine regS U (.assign rfl .nil) fun Y U =>?_
 refine rt1 U ?_
 exact ⟨by rw [hR],m12.below⟩
theorem mpsw (xs ys : List (Int × List (Int × List Int))) (p1 p2 : Option Addr) (n1 n2 c1 c2 : Nat) (w0 : World) (h1 : Rd (fun _ => True) w0 (.slice p1 n1 c1) (.l 2 (xs.map wrD))) (h2 : Rd (fun _ => True) w0 (.slice p2 n2 c2) (.l 2 (ys.map wrD))) (hl1 : xs.length ≤ 1000000) (hl2 : ys.length ≤ 1000000) (hi1 : ∀ e ∈ xs,e.2.length ≤ 1000000 ∧ ∀ x ∈ e.2,BytesL x.2) (hi2 : ∀ e ∈ ys,e.2.length ≤ 1000000 ∧ ∀ x ∈ e.2,BytesL x.2) :
   Calls Tryz.prog 84 #[.slice p1 n1 c1,.slice p2 n2 c2] w0 fun e w' => e = .returned (.bool (decide (xs = ys))) ∧ Below w0.heap.size w0 w' := by
 refine ent2 Tryz.func84 rfl Tryz.ntmps84 fun Y U =>?_
 have m0 := MemOk.start (fun _ => False) w0
 refine regS U (.assign rfl .nil) fun Y U =>?_
 refine zsr fun K0 hK0 =>?_
 refine goCh U (.move rfl<|.move rfl .nil) fun Y U =>?_
 refine plz (ecb U Tryz.func122 rfl m0 (meqw xs ys _ _ _ _ _ _ _ ((h1.now' m0 rfl).any) ((h2.now' m0 rfl).any) hl1 hl2 hi1 hi2) fun Y w6 U m7 =>?_)
 refine gz hK0 U (.assign rfl .nil) fun Y U =>?_
 refine rt1 U ?_
 exact ⟨rfl,m7.below⟩
end
end Go.Proofs.YtkehgingagggaaaGreat.K
