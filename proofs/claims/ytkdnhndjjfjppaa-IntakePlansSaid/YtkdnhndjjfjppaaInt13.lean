/- intake: why there is no plan; the reference's plan. -/
import Derived.Test.YtkdnhndjjfjppaaInt12
import Derived.Test.YtkdnhndjjfjppaaInt2b
import Derived.Test.YtkdnhndjjfjppaaInt2c
import Derived.Test.YtkdnhndjjfjppaaVol33
import Derived.Test.YtkdnhndjjfjppaaVol13
namespace Go.Proofs.Ytkdnhndjjfjppaa.K
open Go.ChangeShapes Go.WideShapes Go.ChangeAt Go.RowKit
set_option linter.unusedVariables false
set_option linter.unusedSimpArgs false
theorem fl57plc : flatS Try.prog 57 [.int .i64 0, .int .i64 0, .int .i64 0, .int .i64 0, .int .i64 0, .slice none 0 0, .int .i64 0, .int .i64 0, .int .i64 0, .slice none 0 0] = true := by kernel_rfl
theorem fl57rpn : flatS Try.prog 57 [.int .i64 0, .int .i64 0, .int .i64 0, .int .i64 0, .int .i64 0, .slice none 0 0, .int .i64 0, .int .i64 0, .int .i64 0, .slice none 0 0] = true := by kernel_rfl
theorem fl57rpc : flatS Try.prog 57 [.int .i64 0, .int .i64 0, .int .i64 0, .int .i64 0, .int .i64 0, .slice none 0 0, .int .i64 0, .int .i64 0, .int .i64 0, .slice none 0 0] = true := by kernel_rfl
theorem fl57rpy : flatS Try.prog 57 [.int .i64 0, .int .i64 0, .int .i64 0, .int .i64 0, .int .i64 0, .slice none 0 0, .int .i64 0, .int .i64 0, .int .i64 0, .slice none 0 0] = true := by kernel_rfl
theorem plan_T1 {bl : Int} {n T : Nat} (h1 : 1 ≤ n) (hb : 1 ≤ bl ∧ bl ≤ 256) (hT : (bl + (n : Int) - 1) / (n : Int) = (T : Int)) : 1 ≤ T := by
 have := Int.le_ediv_of_mul_le (a := 1) (b := bl + (n : Int) - 1) (c := (n : Int)) (by omega) (by omega)
 omega
set_option maxRecDepth 100000
set_option maxHeartbeats 4000000
theorem plan_bad (bl sz fr to vo pe n9 : Int) (its : List (Int × List Int)) (pi : Option Addr) (ni ci : Nat) (pq : Option Addr) (nq cq : Nat) (w0 : World) (h1 : Rd (fun _ => True) w0 (.slice pi ni ci) (.l 2 (its.map itD))) (hlen : its.length ≤ 256) (hbad : ¬ (StreamOk bl sz fr to its ∧ 1 ≤ n9 ∧ n9 ≤ 8)) :
   Calls Try.prog 9 #[.agg #[.int .i64 bl, .int .i64 sz, .int .i64 fr, .int .i64 to, .slice pi ni ci], .int .i64 vo, .int .i64 pe, .slice pq nq cq, .int .i64 n9] w0 fun e w' => e = .returned (.tuple #[.slice none 0 0, .int .i64 23]) ∧ Below w0.heap.size w0 w' := by
 obtain rfl : ni = its.length := by obtain ⟨pq, cq, hv, _⟩ := h1.l_shape; injection hv with _ e2 _; rw [List.length_map] at e2; exact e2
 refine ent5 Try.func9 rfl Try.ntmps9 fun Az Hz => ?_
 have m0 := MemOk.start (fun _ => False) w0
 refine zsr fun K0 hK0 => ?_
 refine wpList_plain rfl (fun K hK => ?_)
 refine e_box Hz m0 70 (cs := [_, _, _, _, _]) rfl rfl rfl ?_
 clear Hz Az m0; intro g1 Az w2 Hz m2 hB2 hg2
 clear hB2 hg2
 refine hK _ _ ?_; clear hK
 refine goCh Hz (.assign rfl <| .assign rfl <| .nil) ?_
 clear Hz Az; intro Az Hz
 refine znl (hK0 _ _ ?_); clear hK0
 refine wp_seq_k (fun K1 hK1 => ?_)
 refine zsr fun K2 hK2 => ?_
 refine goCh Hz (.loadBR m2 (i := 70) rfl rfl U24 rfl fct2 (by simp) (by dsimp only [List.drop, List.take] <;> rfl) .nil) ?_
 clear Hz Az; intro Az Hz
 refine wpList_plain rfl (fun K hK => ?_)
 refine e_call Hz Try.func25 rfl rfl rfl rfl (sright_any bl sz fr to its _ _ _ _ ((h1.now' m2 rfl).any) hlen) ?_
 rintro e w7 ⟨b9, rfl, hR, hb7⟩
 have m8 := m2.later hb7
 clear m2
 clear hb7
 refine ⟨_, rfl, ?_⟩; clear Hz Az; intro Az Hz
 refine hK _ _ ?_; clear hK
 refine goCh Hz (.not rfl <| .move rfl <| .nil) ?_
 clear Hz Az; intro Az Hz
 refine bool_cases Hz (t := 21) rfl ?_ ?_
 ·
  clear Hz; intro hb12 Hz; try simp only [QQ, Qax] at hb12
  refine goCh Hz (.sk <| .sk <| .pickT rfl rfl <| .move rfl <| .sk <| .sk <| .pickT rfl rfl <| .nil) ?_
  clear Hz Az; intro Az Hz
  refine znl (hK2 _ _ ?_); clear hK2
  refine wp_cond_true (Hz.ev (x := .tmp 28) rfl) ?_
  replace Hz : Has 92 [(1, _), (2, _), (3, _), (4, _), (5, _), (10, _), (11, _)] Az := Hz.only [1, 2, 3, 4, 5, 10, 11]
  refine regS Hz (.assign rfl <| .assign rfl <| .nil) ?_
  clear Hz Az; intro Az Hz
  refine wp_ret ?_
  try dsimp only [Exit.then, Exit.inBlock]
  refine (ret2 (fn := Try.f9) Hz rfl rfl rfl ?_)
  exact ⟨rfl, m8.below⟩
 clear Hz; intro hb12 Hz; try simp only [QQ, Qax] at hb12
 obtain rfl : b9 = true := by simpa using hb12
 refine goCh Hz (.moveZ rfl <| .lssZ rfl rfl <| .pickF rfl rfl <| .move rfl <| .nil) ?_
 clear Hz Az; intro Az Hz
 refine bool_cases Hz (t := 25) rfl ?_ ?_
 ·
  clear Hz; intro hb27 Hz; try simp only [QQ, Qax] at hb27
  refine goCh Hz (.sk <| .sk <| .pickT rfl rfl <| .nil) ?_
  clear Hz Az; intro Az Hz
  refine znl (hK2 _ _ ?_); clear hK2
  refine wp_cond_true (Hz.ev (x := .tmp 28) rfl) ?_
  replace Hz : Has 92 [(1, _), (2, _), (3, _), (4, _), (5, _), (10, _), (11, _)] Az := Hz.only [1, 2, 3, 4, 5, 10, 11]
  refine regS Hz (.assign rfl <| .assign rfl <| .nil) ?_
  clear Hz Az; intro Az Hz
  refine wp_ret ?_
  try dsimp only [Exit.then, Exit.inBlock]
  refine (ret2 (fn := Try.f9) Hz rfl rfl rfl ?_)
  exact ⟨rfl, m8.below⟩
 clear Hz; intro hb27 Hz; try simp only [QQ, Qax] at hb27
 refine goCh Hz (.moveZ rfl <| .gtrZ rfl rfl <| .pickF rfl rfl <| .nil) ?_
 clear Hz Az; intro Az Hz
 refine znl (hK2 _ _ ?_); clear hK2
 refine bool_cases Hz (t := 28) rfl ?_ ?_
 ·
  clear Hz; intro hb37 Hz; try simp only [QQ, Qax] at hb37
  refine wp_cond_true (Hz.ev (x := .tmp 28) rfl) ?_
  replace Hz : Has 92 [(1, _), (2, _), (3, _), (4, _), (5, _), (10, _), (11, _)] Az := Hz.only [1, 2, 3, 4, 5, 10, 11]
  refine regS Hz (.assign rfl <| .assign rfl <| .nil) ?_
  clear Hz Az; intro Az Hz
  refine wp_ret ?_
  try dsimp only [Exit.then, Exit.inBlock]
  refine (ret2 (fn := Try.f9) Hz rfl rfl rfl ?_)
  exact ⟨rfl, m8.below⟩
 clear Hz; intro hb37 Hz; try simp only [QQ, Qax] at hb37
 exact absurd ⟨hR.1 rfl, by have := hb37; omega, by have := hb37; omega⟩ hbad
theorem rplan_bad (bl sz fr to vo pe n9 : Int) (its : List (Int × List Int)) (pi : Option Addr) (ni ci : Nat) (pq : Option Addr) (nq cq : Nat) (w0 : World) (h1 : Rd (fun _ => True) w0 (.slice pi ni ci) (.l 2 (its.map itD))) (hlen : its.length ≤ 256) (hbad : ¬ (StreamOk bl sz fr to its ∧ 1 ≤ n9 ∧ n9 ≤ 8)) :
   Calls Try.prog 11 #[.agg #[.int .i64 bl, .int .i64 sz, .int .i64 fr, .int .i64 to, .slice pi ni ci], .int .i64 vo, .int .i64 pe, .slice pq nq cq, .int .i64 n9] w0 fun e w' => e = .returned (.tuple #[.slice none 0 0, .int .i64 23]) ∧ Below w0.heap.size w0 w' := by
 obtain rfl : ni = its.length := by obtain ⟨pq, cq, hv, _⟩ := h1.l_shape; injection hv with _ e2 _; rw [List.length_map] at e2; exact e2
 refine ent5 Try.func11 rfl Try.ntmps11 fun Az Hz => ?_
 have m0 := MemOk.start (fun _ => False) w0
 refine zsr fun K0 hK0 => ?_
 refine wpList_plain rfl (fun K hK => ?_)
 refine e_box Hz m0 70 (cs := [_, _, _, _, _]) rfl rfl rfl ?_
 clear Hz Az m0; intro g1 Az w2 Hz m2 hB2 hg2
 clear hB2 hg2
 refine hK _ _ ?_; clear hK
 refine goCh Hz (.assign rfl <| .assign rfl <| .nil) ?_
 clear Hz Az; intro Az Hz
 refine znl (hK0 _ _ ?_); clear hK0
 refine wp_seq_k (fun K1 hK1 => ?_)
 refine zsr fun K2 hK2 => ?_
 refine goCh Hz (.loadBR m2 (i := 70) rfl rfl U24 rfl fct2 (by simp) (by dsimp only [List.drop, List.take] <;> rfl) .nil) ?_
 clear Hz Az; intro Az Hz
 refine wpList_plain rfl (fun K hK => ?_)
 refine e_call Hz Try.func30 rfl rfl rfl rfl (r21right_any bl sz fr to its _ _ _ _ ((h1.now' m2 rfl).any) hlen) ?_
 rintro e w7 ⟨b9, rfl, hR, hb7⟩
 have m8 := m2.later hb7
 clear m2
 clear hb7
 refine ⟨_, rfl, ?_⟩; clear Hz Az; intro Az Hz
 refine hK _ _ ?_; clear hK
 refine goCh Hz (.not rfl <| .move rfl <| .nil) ?_
 clear Hz Az; intro Az Hz
 refine bool_cases Hz (t := 20) rfl ?_ ?_
 ·
  clear Hz; intro hb12 Hz; try simp only [QQ, Qax] at hb12
  refine goCh Hz (.sk <| .sk <| .pickT rfl rfl <| .move rfl <| .sk <| .sk <| .pickT rfl rfl <| .nil) ?_
  clear Hz Az; intro Az Hz
  refine znl (hK2 _ _ ?_); clear hK2
  refine wp_cond_true (Hz.ev (x := .tmp 27) rfl) ?_
  replace Hz : Has 84 [(1, _), (2, _), (3, _), (4, _), (5, _), (10, _), (11, _)] Az := Hz.only [1, 2, 3, 4, 5, 10, 11]
  refine regS Hz (.assign rfl <| .assign rfl <| .nil) ?_
  clear Hz Az; intro Az Hz
  refine wp_ret ?_
  try dsimp only [Exit.then, Exit.inBlock]
  refine (ret2 (fn := Try.f11) Hz rfl rfl rfl ?_)
  exact ⟨rfl, m8.below⟩
 clear Hz; intro hb12 Hz; try simp only [QQ, Qax] at hb12
 obtain rfl : b9 = true := by simpa using hb12
 refine goCh Hz (.moveZ rfl <| .lssZ rfl rfl <| .pickF rfl rfl <| .move rfl <| .nil) ?_
 clear Hz Az; intro Az Hz
 refine bool_cases Hz (t := 24) rfl ?_ ?_
 ·
  clear Hz; intro hb27 Hz; try simp only [QQ, Qax] at hb27
  refine goCh Hz (.sk <| .sk <| .pickT rfl rfl <| .nil) ?_
  clear Hz Az; intro Az Hz
  refine znl (hK2 _ _ ?_); clear hK2
  refine wp_cond_true (Hz.ev (x := .tmp 27) rfl) ?_
  replace Hz : Has 84 [(1, _), (2, _), (3, _), (4, _), (5, _), (10, _), (11, _)] Az := Hz.only [1, 2, 3, 4, 5, 10, 11]
  refine regS Hz (.assign rfl <| .assign rfl <| .nil) ?_
  clear Hz Az; intro Az Hz
  refine wp_ret ?_
  try dsimp only [Exit.then, Exit.inBlock]
  refine (ret2 (fn := Try.f11) Hz rfl rfl rfl ?_)
  exact ⟨rfl, m8.below⟩
 clear Hz; intro hb27 Hz; try simp only [QQ, Qax] at hb27
 refine goCh Hz (.moveZ rfl <| .gtrZ rfl rfl <| .pickF rfl rfl <| .nil) ?_
 clear Hz Az; intro Az Hz
 refine znl (hK2 _ _ ?_); clear hK2
 refine bool_cases Hz (t := 27) rfl ?_ ?_
 ·
  clear Hz; intro hb37 Hz; try simp only [QQ, Qax] at hb37
  refine wp_cond_true (Hz.ev (x := .tmp 27) rfl) ?_
  replace Hz : Has 84 [(1, _), (2, _), (3, _), (4, _), (5, _), (10, _), (11, _)] Az := Hz.only [1, 2, 3, 4, 5, 10, 11]
  refine regS Hz (.assign rfl <| .assign rfl <| .nil) ?_
  clear Hz Az; intro Az Hz
  refine wp_ret ?_
  try dsimp only [Exit.then, Exit.inBlock]
  refine (ret2 (fn := Try.f11) Hz rfl rfl rfl ?_)
  exact ⟨rfl, m8.below⟩
 clear Hz; intro hb37 Hz; try simp only [QQ, Qax] at hb37
 exact absurd ⟨hR.1 rfl, by have := hb37; omega, by have := hb37; omega⟩ hbad
theorem plan_chain (bl sz fr to vo pe : Int) (its : List (Int × List Int)) (pi : Option Addr) (ni ci : Nat) (pl : List Int) (pq : Option Addr) (cq : Nat) (n T : Nat) (S : Nat → Prop) (w0 : World) (h1 : Rd S w0 (.slice pi ni ci) (.l 2 (its.map itD))) (h2 : Rd (fun _ => True) w0 (.slice pq pl.length cq) (.ns .i64 pl)) (hs : StreamOk bl sz fr to its) (hio : ItsOk its) (hn1 : 1 ≤ n) (hn8 : n ≤ 8) (hpl : pl.length ≤ 1000000) (hT : (bl + (n : Int) - 1) / (n : Int) = (T : Int)) (hN : NewOk vo bl sz pe T pl) (hf : 0 ≤ fr) :
   Calls Try.prog 9 #[.agg #[.int .i64 bl, .int .i64 sz, .int .i64 fr, .int .i64 to, .slice pi ni ci], .int .i64 vo, .int .i64 pe, .slice pq pl.length cq, .int .i64 (n : Int)] w0 fun e w' => e = .returned (.tuple #[.slice none 0 0, .int .i64 38]) ∧ Below w0.heap.size w0 w' := by
 obtain rfl : ni = its.length := by obtain ⟨pq, cq, hv, _⟩ := h1.l_shape; injection hv with _ e2 _; rw [List.length_map] at e2; exact e2
 refine ent5 Try.func9 rfl Try.ntmps9 fun Az Hz => ?_
 have m0 := (MemOk.start S w0).dat 60 rfl (h1.cast (fun b hb => free_nil (fun _ => hb)))
 have hcap : its.length ≤ ci := by obtain ⟨pq, cq, hv, hcap⟩ := h1.l_shape; injection hv with _ _ e3; rw [List.length_map] at hcap; omega
 have hlen := hs.len
 have hbb := hs.b
 have hTb : T ≤ 256 := plan_T hn1 hbb hT
 have hT1 : 1 ≤ T := plan_T1 hn1 hbb hT
 refine zsr fun K0 hK0 => ?_
 refine wpList_plain rfl (fun K hK => ?_)
 refine e_box Hz m0 70 (cs := [_, _, _, _, _]) rfl rfl rfl ?_
 clear Hz Az m0; intro g1 Az w2 Hz m2 hB2 hg2
 clear hB2 hg2
 refine hK _ _ ?_; clear hK
 refine goCh Hz (.assign rfl <| .assign rfl <| .nil) ?_
 clear Hz Az; intro Az Hz
 refine znl (hK0 _ _ ?_); clear hK0
 refine wp_seq_k (fun K1 hK1 => ?_)
 refine zsr fun K2 hK2 => ?_
 refine goCh Hz (.loadBR m2 (i := 70) rfl rfl U24 rfl fct2 (by simp) (by dsimp only [List.drop, List.take] <;> rfl) .nil) ?_
 clear Hz Az; intro Az Hz
 refine wpList_plain rfl (fun K hK => ?_)
 refine e_call Hz Try.func25 rfl rfl rfl rfl (sright_yes bl sz fr to its _ _ _ _ ((m2.rd (i := 60) rfl).any) hs) ?_
 rintro e w7 ⟨rfl, hb7⟩
 have m8 := m2.later hb7
 clear m2
 clear hb7
 refine ⟨_, rfl, ?_⟩; clear Hz Az; intro Az Hz
 refine hK _ _ ?_; clear hK
 refine goCh Hz (.not rfl <| .move rfl <| .moveZ rfl <| .lssZ rfl rfl <| .pickF rfl rfl <| .move rfl <| .nil) ?_
 clear Hz Az; intro Az Hz
 refine bool_cases Hz (t := 25) rfl ?_ ?_
 · intro hb _; exact absurd hb (by simp; omega)
 clear Hz; intro _ Hz
 refine goCh Hz (.moveZ rfl <| .gtrZ rfl rfl <| .pickF rfl rfl <| .nil) ?_
 clear Hz Az; intro Az Hz
 refine znl (hK2 _ _ ?_); clear hK2
 refine bool_cases Hz (t := 28) rfl ?_ ?_
 · intro hb _; exact absurd hb (by simp; omega)
 clear Hz; intro _ Hz
 refine wp_cond_false (Hz.ev (x := .tmp 28) rfl) ?_
 refine zss (hK1 _ _ ?_); clear hK1
 refine wp_seq_k (fun K3 hK3 => ?_)
 have hC3 : ∀ (a : Act) (w : World), (∃ (B5 B12 : Nat) (p2 : Option Addr) (c2 : Nat), Has 92 [(1, .int .i64 vo), (4, .int .i64 (n : Int)), (5, .pointer (some ⟨B5, 0, none⟩)), (12, .pointer (some ⟨B12, 0, none⟩))] a ∧ MemOk (cx S w0) w0 [(1, .box B5 24 [.int .i64 bl, .int .i64 sz, .int .i64 fr, .int .i64 to, .slice pi its.length ci]), (2, .box B12 57 [.int .i64 1, .int .i64 vo, .int .i64 bl, .int .i64 sz, .int .i64 pe, .slice p2 pl.length c2, .int .i64 (T : Int), .int .i64 0, .int .i64 0, .slice none 0 0]), (3, .dat (.slice p2 pl.length c2) (.ns .i64 pl)), (60, .dat (.slice pi its.length ci) (.l 2 (its.map itD)))] w) → K3 a w := by
   clear Hz m8
   rintro Az w21 ⟨B5, B12, p2, c2, Hz, m21⟩
   refine hK3 _ _ ?_; clear hK3
   refine wp_seq_k (fun K4 hK4 => ?_)
   refine zsr fun K5 hK5 => ?_
   refine goCh Hz (.loadBR m21 (i := 2) rfl rfl U57 rfl fct1 (by simp) (by dsimp only [List.drop, List.take] <;> rfl) .nil) ?_
   clear Hz Az; intro Az Hz
   refine wpList_plain rfl (fun K hK => ?_)
   refine e_call Hz Try.func26 rfl rfl rfl rfl (vnew_y _ vo bl sz pe _ _ _ pl _ _ _ _ _ _ ((m21.rd (i := 3) rfl).any) (by omega) hN) ?_
   rintro e w24 ⟨p24, c24, rfl, hd24, hb24⟩
   have m25 := m21.callF 100 rfl hb24 hd24
   clear m21
   clear hb24 hd24
   refine ⟨_, rfl, ?_⟩; clear Hz Az; intro Az Hz
   refine hK _ _ ?_; clear hK
   refine goCh Hz (.move rfl <| .extract rfl rfl <| .extract rfl rfl <| .nil) ?_
   clear Hz Az; intro Az Hz
   refine wpList_plain rfl (fun K hK => ?_)
   refine e_alloc Hz m25 101 fct6 rfl ?_
   clear Hz Az m25; intro g30 Az w31 Hz m31 hB31 hg31
   clear hB31 hg31
   refine hK _ _ ?_; clear hK
   refine wpList_plain rfl (fun K hK => ?_)
   refine e_storeW Hz m31 101 rfl rfl rfl rfl rfl fct5 ?_
   clear m31; intro w32 m32 hB32
   clear hB32
   refine hK _ _ ?_; clear hK
   refine goCh Hz (.assign rfl .nil) ?_
   clear Hz Az; intro Az Hz
   refine znl (hK5 _ _ ?_); clear hK5
   replace Hz : Has 92 [(1, _), (4, _), (5, _), (12, _), (14, _)] Az := Hz.only [1, 4, 5, 12, 14]
   refine regS Hz (.move rfl <| .neq rfl rfl <| .nil) ?_
   clear Hz Az; intro Az Hz
   refine bool_cases Hz (t := 51) rfl ?_ ?_
   · intro hb _; exact absurd hb (by simp)
   clear Hz; intro _ Hz
   refine wp_cond_false (Hz.ev (x := .tmp 51) rfl) ?_
   refine zss (hK4 _ _ ?_); clear hK4
   refine wp_seq_k (fun K6 hK6 => ?_)
   refine zsr fun K7 hK7 => ?_
   refine goCh Hz (.loadBR m32 (i := 1) rfl rfl U24 rfl fct2 (by simp) (by dsimp only [List.drop, List.take] <;> rfl) .nil) ?_
   clear Hz Az; intro Az Hz
   refine wpList_plain rfl (fun K hK => ?_)
   refine e_litR Hz m32 102 (mm := 5) rfl (.cons rfl rfl (.cons (.v _) (.cons (.v _) (.cons (.v _) (.cons (.v _) (.cons (m32.rd (i := 60) rfl) .nil))))) <| .nil) U39 fct4 rfl rfl rfl rfl rfl ?_
   clear Hz Az m32; intro g40 Az w41 Hz m41
   refine hK _ _ ?_; clear hK
   have m42 := m41.freezeR 102 rfl; clear m41
   refine wpList_plain rfl (fun K hK => ?_)
   refine e_call Hz Try.func27 rfl rfl rfl rfl (cright_not bl sz fr to its _ _ _ ((m42.rd (i := 102) rfl).any) hs hf) ?_
   rintro e w43 ⟨rfl, hb43⟩
   have m44 := m42.later hb43
   clear m42
   clear hb43
   refine ⟨_, rfl, ?_⟩; clear Hz Az; intro Az Hz
   refine hK _ _ ?_; clear hK
   refine goCh Hz (.not rfl .nil) ?_
   clear Hz Az; intro Az Hz
   refine znl (hK7 _ _ ?_); clear hK7
   refine wp_cond_true (Hz.ev (x := .tmp 56) rfl) ?_
   replace Hz : Has 92 [(1, _), (4, _), (5, _), (12, _)] Az := Hz.only [1, 4, 5, 12]
   refine regS Hz (.assign rfl <| .assign rfl <| .nil) ?_
   clear Hz Az; intro Az Hz
   refine wp_ret ?_
   try dsimp only [Exit.then, Exit.inBlock]
   refine (ret2 (fn := Try.f9) Hz rfl rfl rfl ?_)
   exact ⟨rfl, m44.below⟩
 replace Hz : Has 92 [(1, _), (2, _), (3, _), (4, _), (5, _), (10, _), (11, _)] Az := Hz.only [1, 2, 3, 4, 5, 10, 11]
 have m51 : MemOk _ _ [(60, _), (70, _)] _ := m8.only [60, 70]; clear m8
 refine region_p 18 (B := [(60, _), (70, _)]) (m51.to ⟨il, il, trivial⟩) m51 (by kernel_rfl) (fun w52 hP52 m52 => ?_); clear m51
 refine goR hP52 [0, 1, 2, 3, 4, 5, 6, 8, 9, 10, 11, 12, 13, 14] [2, 4, 9] 14 0 32639 Hz (m52.to ⟨il, il, trivial⟩) (.move rfl <| .fa 0 rfl U24 <| .lb hh 70 U3 rfl rfl rfl <| .fa 1 rfl U24 <| .lb hh 70 U3 rfl rfl rfl <| .move rfl <| .move rfl <| .fa 0 rfl U24 <| .lb hh 70 U3 rfl rfl rfl <| .move rfl <| .add rfl rfl (r := bl + (n : Int)) (IntWalk.i64_in _ (by omega)) <| .sub rfl rfl (r := bl + (n : Int) - 1) (IntWalk.i64_in _ (by omega)) <| .move rfl <| .quo rfl rfl (by omega) (r := (T : Int)) (by rw [Int.tdiv_eq_ediv_of_nonneg (by omega), hT]; exact IntWalk.i64_in _ (by omega)) <| .nil) ?_
 clear Hz Az; intro Az Hz
 refine d_two 7 16 rfl rfl (by kernel_rfl) rfl rfl (fun K hK => ?_) (fun K hK => ?_)
 ·
  refine e_app0N Hz m52 71 rfl rfl (h2.now' m52 rfl).ns_out.nums U26 fct3 (by decide) (by omega) rfl ?_
  clear Hz Az m52; intro p67 c67 Az w68 Hz m68
  refine hK _ _ (fun _ => (m68.to ⟨il, il, trivial⟩)) ?_; clear hK K
  refine goA hP52 [15] 1 32767 65535 Hz (m68.to ⟨il, il, trivial⟩) (.build rfl fct7 fl57plc rfl (by dsimp only [setL, List.set] <;> rfl) <| .nil) ?_
  clear Hz Az; intro Az Hz
  refine stepE_only 16 rfl (by kernel_rfl) rfl (fun K hK => ?_)
  refine e_alloc Hz m68 72 fct7 rfl ?_
  clear Hz Az m68; intro g70 Az w71 Hz m71 hB71 hg71
  clear hB71 hg71
  refine hK _ _ (m71.to ⟨il, il, trivial⟩) ?_; clear hK K
  refine stepE_only 17 rfl (by kernel_rfl) rfl (fun K hK => ?_)
  refine e_storeW Hz m71 72 rfl rfl rfl rfl rfl fct1 ?_
  clear m71; intro w72 m72 hB72
  clear hB72
  refine hK _ _ (m72.to ⟨il, il, trivial⟩) ?_; clear hK K
  refine wpAnyE_done (by kernel_rfl) ?_ _
  have m73 := m72.freezeN 71 rfl; clear m72
  show K3 _ _
  exact hC3 _ _ ⟨_, _, _, _, Hz.only [1, 4, 5, 12], m73.ren [(1, 70), (2, 72), (3, 71), (60, 60)] (by decide)⟩
 refine e_alloc Hz m52 71 fct7 rfl ?_
 clear Hz Az m52; intro g74 Az w75 Hz m75 hB75 hg75
 clear hB75 hg75
 refine hK _ _ (fun _ => (m75.to ⟨il, il, trivial⟩)) ?_; clear hK K
 refine stepE_only 7 rfl (by kernel_rfl) rfl (fun K hK => ?_)
 refine e_app0N Hz m75 72 rfl rfl (h2.now' m75 rfl).ns_out.nums U26 fct3 (by decide) (by omega) rfl ?_
 clear Hz Az m75; intro p76 c76 Az w77 Hz m77
 refine hK _ _ (m77.to ⟨il, il, trivial⟩) ?_; clear hK K
 refine goA hP52 [15] 1 98303 131071 Hz (m77.to ⟨il, il, trivial⟩) (.build rfl fct7 fl57plc rfl (by dsimp only [setL, List.set] <;> rfl) <| .nil) ?_
 clear Hz Az; intro Az Hz
 refine stepE_only 17 rfl (by kernel_rfl) rfl (fun K hK => ?_)
 refine e_storeW Hz m77 71 rfl rfl rfl rfl rfl fct1 ?_
 clear m77; intro w79 m79 hB79
 clear hB79
 refine hK _ _ (m79.to ⟨il, il, trivial⟩) ?_; clear hK K
 refine wpAnyE_done (by kernel_rfl) ?_ _
 have m80 := m79.freezeN 72 rfl; clear m79
 show K3 _ _
 exact hC3 _ _ ⟨_, _, _, _, Hz.only [1, 4, 5, 12], m80.ren [(1, 70), (2, 71), (3, 72), (60, 60)] (by decide)⟩
theorem rplan_no (bl sz fr to vo pe : Int) (its : List (Int × List Int)) (pi : Option Addr) (ni ci : Nat) (pl : List Int) (pq : Option Addr) (cq : Nat) (n T : Nat) (S : Nat → Prop) (w0 : World) (h1 : Rd S w0 (.slice pi ni ci) (.l 2 (its.map itD))) (h2 : Rd (fun _ => True) w0 (.slice pq pl.length cq) (.ns .i64 pl)) (hs : StreamOk bl sz fr to its) (hio : ItsOk its) (hn1 : 1 ≤ n) (hn8 : n ≤ 8) (hpl : pl.length ≤ 1000000) (hT : (bl + (n : Int) - 1) / (n : Int) = (T : Int)) (hN : ¬ NewOk vo bl sz pe T pl) :
   Calls Try.prog 11 #[.agg #[.int .i64 bl, .int .i64 sz, .int .i64 fr, .int .i64 to, .slice pi ni ci], .int .i64 vo, .int .i64 pe, .slice pq pl.length cq, .int .i64 (n : Int)] w0 fun e w' => e = .returned (.tuple #[.slice none 0 0, .int .i64 23]) ∧ Below w0.heap.size w0 w' := by
 obtain rfl : ni = its.length := by obtain ⟨pq, cq, hv, _⟩ := h1.l_shape; injection hv with _ e2 _; rw [List.length_map] at e2; exact e2
 refine ent5 Try.func11 rfl Try.ntmps11 fun Az Hz => ?_
 have m0 := (MemOk.start S w0).dat 60 rfl (h1.cast (fun b hb => free_nil (fun _ => hb)))
 have hcap : its.length ≤ ci := by obtain ⟨pq, cq, hv, hcap⟩ := h1.l_shape; injection hv with _ _ e3; rw [List.length_map] at hcap; omega
 have hlen := hs.len
 have hbb := hs.b
 have hTb : T ≤ 256 := plan_T hn1 hbb hT
 have hT1 : 1 ≤ T := plan_T1 hn1 hbb hT
 refine zsr fun K0 hK0 => ?_
 refine wpList_plain rfl (fun K hK => ?_)
 refine e_box Hz m0 70 (cs := [_, _, _, _, _]) rfl rfl rfl ?_
 clear Hz Az m0; intro g1 Az w2 Hz m2 hB2 hg2
 clear hB2 hg2
 refine hK _ _ ?_; clear hK
 refine goCh Hz (.assign rfl <| .assign rfl <| .nil) ?_
 clear Hz Az; intro Az Hz
 refine znl (hK0 _ _ ?_); clear hK0
 refine wp_seq_k (fun K1 hK1 => ?_)
 refine zsr fun K2 hK2 => ?_
 refine goCh Hz (.loadBR m2 (i := 70) rfl rfl U24 rfl fct2 (by simp) (by dsimp only [List.drop, List.take] <;> rfl) .nil) ?_
 clear Hz Az; intro Az Hz
 refine wpList_plain rfl (fun K hK => ?_)
 refine e_call Hz Try.func30 rfl rfl rfl rfl (r21right_any bl sz fr to its _ _ _ _ ((m2.rd (i := 60) rfl).any) hs.len) ?_
 rintro e w7 ⟨b9, rfl, hR, hb7⟩
 obtain rfl : b9 = true := hR.2 hs
 have m8 := m2.later hb7
 clear m2
 clear hb7
 refine ⟨_, rfl, ?_⟩; clear Hz Az; intro Az Hz
 refine hK _ _ ?_; clear hK
 refine goCh Hz (.not rfl <| .move rfl <| .moveZ rfl <| .lssZ rfl rfl <| .pickF rfl rfl <| .move rfl <| .nil) ?_
 clear Hz Az; intro Az Hz
 refine bool_cases Hz (t := 24) rfl ?_ ?_
 · intro hb _; exact absurd hb (by simp; omega)
 clear Hz; intro _ Hz
 refine goCh Hz (.moveZ rfl <| .gtrZ rfl rfl <| .pickF rfl rfl <| .nil) ?_
 clear Hz Az; intro Az Hz
 refine znl (hK2 _ _ ?_); clear hK2
 refine bool_cases Hz (t := 27) rfl ?_ ?_
 · intro hb _; exact absurd hb (by simp; omega)
 clear Hz; intro _ Hz
 refine wp_cond_false (Hz.ev (x := .tmp 27) rfl) ?_
 refine zss (hK1 _ _ ?_); clear hK1
 refine wp_seq_k (fun K3 hK3 => ?_)
 have hC3 : ∀ (a : Act) (w : World), (∃ (B5 B12 : Nat) (p2 : Option Addr) (c2 : Nat), Has 84 [(1, .int .i64 vo), (4, .int .i64 (n : Int)), (5, .pointer (some ⟨B5, 0, none⟩)), (12, .pointer (some ⟨B12, 0, none⟩))] a ∧ MemOk (cx S w0) w0 [(1, .box B5 24 [.int .i64 bl, .int .i64 sz, .int .i64 fr, .int .i64 to, .slice pi its.length ci]), (2, .box B12 57 [.int .i64 1, .int .i64 vo, .int .i64 bl, .int .i64 sz, .int .i64 pe, .slice p2 pl.length c2, .int .i64 (T : Int), .int .i64 0, .int .i64 0, .slice none 0 0]), (3, .dat (.slice p2 pl.length c2) (.ns .i64 pl)), (60, .dat (.slice pi its.length ci) (.l 2 (its.map itD)))] w) → K3 a w := by
   clear Hz m8
   rintro Az w21 ⟨B5, B12, p2, c2, Hz, m21⟩
   refine hK3 _ _ ?_; clear hK3
   refine wp_seq_k (fun K4 hK4 => ?_)
   refine zsr fun K5 hK5 => ?_
   refine goCh Hz (.loadBR m21 (i := 2) rfl rfl U57 rfl fct1 (by simp) (by dsimp only [List.drop, List.take] <;> rfl) .nil) ?_
   clear Hz Az; intro Az Hz
   refine wpList_plain rfl (fun K hK => ?_)
   refine e_call Hz Try.func31 rfl rfl rfl rfl (rnew_non _ vo bl sz pe _ _ _ pl _ _ _ _ _ _ ((m21.rd (i := 3) rfl).any) (by omega) hN) ?_
   rintro e w24 ⟨rfl, hb24⟩
   have m25 := m21.later hb24
   clear m21
   clear hb24
   refine ⟨_, rfl, ?_⟩; clear Hz Az; intro Az Hz
   refine hK _ _ ?_; clear hK
   refine goCh Hz (.move rfl <| .extract rfl rfl <| .extract rfl rfl <| .nil) ?_
   clear Hz Az; intro Az Hz
   refine wpList_plain rfl (fun K hK => ?_)
   refine e_alloc Hz m25 100 fct6 rfl ?_
   clear Hz Az m25; intro g30 Az w31 Hz m31 hB31 hg31
   clear hB31 hg31
   refine hK _ _ ?_; clear hK
   refine wpList_plain rfl (fun K hK => ?_)
   refine e_storeW Hz m31 100 rfl rfl rfl rfl rfl fct5 ?_
   clear m31; intro w32 m32 hB32
   clear hB32
   refine hK _ _ ?_; clear hK
   refine goCh Hz (.assign rfl .nil) ?_
   clear Hz Az; intro Az Hz
   refine znl (hK5 _ _ ?_); clear hK5
   replace Hz : Has 84 [(1, _), (4, _), (5, _), (12, _), (14, _)] Az := Hz.only [1, 4, 5, 12, 14]
   refine regS Hz (.move rfl <| .neq rfl rfl <| .nil) ?_
   clear Hz Az; intro Az Hz
   refine bool_cases Hz (t := 47) rfl ?_ ?_
   rotate_left
   · intro hb _; exact absurd hb (by simp)
   clear Hz; intro _ Hz
   refine wp_cond_true (Hz.ev (x := .tmp 47) rfl) ?_
   refine regS Hz (.assign rfl <| .assign rfl <| .nil) ?_
   clear Hz Az; intro Az Hz
   refine wp_ret ?_
   try dsimp only [Exit.then, Exit.inBlock]
   refine (ret2 (fn := Try.f11) Hz rfl rfl rfl ?_)
   exact ⟨rfl, m32.below⟩
 replace Hz : Has 84 [(1, _), (2, _), (3, _), (4, _), (5, _), (10, _), (11, _)] Az := Hz.only [1, 2, 3, 4, 5, 10, 11]
 have m41 : MemOk _ _ [(60, _), (70, _)] _ := m8.only [60, 70]; clear m8
 refine region_p 15 (B := [(60, _), (70, _)]) (m41.to ⟨il, il, trivial⟩) m41 (by kernel_rfl) (fun w42 hP42 m42 => ?_); clear m41
 refine goR hP42 [0, 1, 2, 3, 4, 5, 6, 8, 9, 10] [2, 4, 9] 10 0 1919 Hz (m42.to ⟨il, il, trivial⟩) (.move rfl <| .fa 0 rfl U24 <| .lb hh 70 U3 rfl rfl rfl <| .fa 1 rfl U24 <| .lb hh 70 U3 rfl rfl rfl <| .move rfl <| .move rfl <| .fa 0 rfl U24 <| .lb hh 70 U3 rfl rfl rfl <| .move rfl <| .nil) ?_
 clear Hz Az; intro Az Hz
 refine d_two 7 13 rfl rfl (by kernel_rfl) rfl rfl (fun K hK => ?_) (fun K hK => ?_)
 ·
  refine e_app0N Hz m42 71 rfl rfl (h2.now' m42 rfl).ns_out.nums U26 fct3 (by decide) (by omega) rfl ?_
  clear Hz Az m42; intro p53 c53 Az w54 Hz m54
  refine hK _ _ (fun _ => (m54.to ⟨il, il, trivial⟩)) ?_; clear hK K
  refine d_two 11 13 rfl rfl (by kernel_rfl) rfl rfl (fun K hK => ?_) (fun K hK => ?_)
  ·
   refine e_call Hz Try.func29 rfl rfl rfl rfl (chunks_any bl (n : Int) _ (by omega) (by omega)) ?_
   rintro e w55 ⟨rfl, hb55⟩
   have m56 := m54.later hb55
   clear m54
   clear hb55
   rw [hT]
   refine ⟨_, rfl, ?_⟩; clear Hz Az; intro Az Hz
   refine hK _ _ (fun _ => (m56.to ⟨il, il, trivial⟩)) ?_; clear hK K
   refine goA hP42 [12] 1 4095 8191 Hz (m56.to ⟨il, il, trivial⟩) (.build rfl fct7 fl57rpn rfl (by dsimp only [setL, List.set] <;> rfl) <| .nil) ?_
   clear Hz Az; intro Az Hz
   refine stepE_only 13 rfl (by kernel_rfl) rfl (fun K hK => ?_)
   refine e_alloc Hz m56 72 fct7 rfl ?_
   clear Hz Az m56; intro g59 Az w60 Hz m60 hB60 hg60
   clear hB60 hg60
   refine hK _ _ (m60.to ⟨il, il, trivial⟩) ?_; clear hK K
   refine stepE_only 14 rfl (by kernel_rfl) rfl (fun K hK => ?_)
   refine e_storeW Hz m60 72 rfl rfl rfl rfl rfl fct1 ?_
   clear m60; intro w61 m61 hB61
   clear hB61
   refine hK _ _ (m61.to ⟨il, il, trivial⟩) ?_; clear hK K
   refine wpAnyE_done (by kernel_rfl) ?_ _
   have m62 := m61.freezeN 71 rfl; clear m61
   show K3 _ _
   exact hC3 _ _ ⟨_, _, _, _, Hz.only [1, 4, 5, 12], m62.ren [(1, 70), (2, 72), (3, 71), (60, 60)] (by decide)⟩
  refine e_alloc Hz m54 72 fct7 rfl ?_
  clear Hz Az m54; intro g63 Az w64 Hz m64 hB64 hg64
  clear hB64 hg64
  refine hK _ _ (fun _ => (m64.to ⟨il, il, trivial⟩)) ?_; clear hK K
  refine stepE_only 11 rfl (by kernel_rfl) rfl (fun K hK => ?_)
  refine e_call Hz Try.func29 rfl rfl rfl rfl (chunks_any bl (n : Int) _ (by omega) (by omega)) ?_
  rintro e w65 ⟨rfl, hb65⟩
  have m66 := m64.later hb65
  clear m64
  clear hb65
  rw [hT]
  refine ⟨_, rfl, ?_⟩; clear Hz Az; intro Az Hz
  refine hK _ _ (m66.to ⟨il, il, trivial⟩) ?_; clear hK K
  refine goA hP42 [12] 1 12287 16383 Hz (m66.to ⟨il, il, trivial⟩) (.build rfl fct7 fl57rpn rfl (by dsimp only [setL, List.set] <;> rfl) <| .nil) ?_
  clear Hz Az; intro Az Hz
  refine stepE_only 14 rfl (by kernel_rfl) rfl (fun K hK => ?_)
  refine e_storeW Hz m66 72 rfl rfl rfl rfl rfl fct1 ?_
  clear m66; intro w69 m69 hB69
  clear hB69
  refine hK _ _ (m69.to ⟨il, il, trivial⟩) ?_; clear hK K
  refine wpAnyE_done (by kernel_rfl) ?_ _
  have m70 := m69.freezeN 71 rfl; clear m69
  show K3 _ _
  exact hC3 _ _ ⟨_, _, _, _, Hz.only [1, 4, 5, 12], m70.ren [(1, 70), (2, 72), (3, 71), (60, 60)] (by decide)⟩
 refine e_alloc Hz m42 71 fct7 rfl ?_
 clear Hz Az m42; intro g71 Az w72 Hz m72 hB72 hg72
 clear hB72 hg72
 refine hK _ _ (fun _ => (m72.to ⟨il, il, trivial⟩)) ?_; clear hK K
 refine stepE_only 7 rfl (by kernel_rfl) rfl (fun K hK => ?_)
 refine e_app0N Hz m72 72 rfl rfl (h2.now' m72 rfl).ns_out.nums U26 fct3 (by decide) (by omega) rfl ?_
 clear Hz Az m72; intro p73 c73 Az w74 Hz m74
 refine hK _ _ (m74.to ⟨il, il, trivial⟩) ?_; clear hK K
 refine stepE_only 11 rfl (by kernel_rfl) rfl (fun K hK => ?_)
 refine e_call Hz Try.func29 rfl rfl rfl rfl (chunks_any bl (n : Int) _ (by omega) (by omega)) ?_
 rintro e w75 ⟨rfl, hb75⟩
 have m76 := m74.later hb75
 clear m74
 clear hb75
 rw [hT]
 refine ⟨_, rfl, ?_⟩; clear Hz Az; intro Az Hz
 refine hK _ _ (m76.to ⟨il, il, trivial⟩) ?_; clear hK K
 refine goA hP42 [12] 1 12287 16383 Hz (m76.to ⟨il, il, trivial⟩) (.build rfl fct7 fl57rpn rfl (by dsimp only [setL, List.set] <;> rfl) <| .nil) ?_
 clear Hz Az; intro Az Hz
 refine stepE_only 14 rfl (by kernel_rfl) rfl (fun K hK => ?_)
 refine e_storeW Hz m76 71 rfl rfl rfl rfl rfl fct1 ?_
 clear m76; intro w79 m79 hB79
 clear hB79
 refine hK _ _ (m79.to ⟨il, il, trivial⟩) ?_; clear hK K
 refine wpAnyE_done (by kernel_rfl) ?_ _
 have m80 := m79.freezeN 72 rfl; clear m79
 show K3 _ _
 exact hC3 _ _ ⟨_, _, _, _, Hz.only [1, 4, 5, 12], m80.ren [(1, 70), (2, 71), (3, 72), (60, 60)] (by decide)⟩
theorem rplan_chain (bl sz fr to vo pe : Int) (its : List (Int × List Int)) (pi : Option Addr) (ni ci : Nat) (pl : List Int) (pq : Option Addr) (cq : Nat) (n T : Nat) (S : Nat → Prop) (w0 : World) (h1 : Rd S w0 (.slice pi ni ci) (.l 2 (its.map itD))) (h2 : Rd (fun _ => True) w0 (.slice pq pl.length cq) (.ns .i64 pl)) (hs : StreamOk bl sz fr to its) (hio : ItsOk its) (hn1 : 1 ≤ n) (hn8 : n ≤ 8) (hpl : pl.length ≤ 1000000) (hT : (bl + (n : Int) - 1) / (n : Int) = (T : Int)) (hN : NewOk vo bl sz pe T pl) (hf : 0 ≤ fr) :
   Calls Try.prog 11 #[.agg #[.int .i64 bl, .int .i64 sz, .int .i64 fr, .int .i64 to, .slice pi ni ci], .int .i64 vo, .int .i64 pe, .slice pq pl.length cq, .int .i64 (n : Int)] w0 fun e w' => e = .returned (.tuple #[.slice none 0 0, .int .i64 38]) ∧ Below w0.heap.size w0 w' := by
 obtain rfl : ni = its.length := by obtain ⟨pq, cq, hv, _⟩ := h1.l_shape; injection hv with _ e2 _; rw [List.length_map] at e2; exact e2
 refine ent5 Try.func11 rfl Try.ntmps11 fun Az Hz => ?_
 have m0 := (MemOk.start S w0).dat 60 rfl (h1.cast (fun b hb => free_nil (fun _ => hb)))
 have hcap : its.length ≤ ci := by obtain ⟨pq, cq, hv, hcap⟩ := h1.l_shape; injection hv with _ _ e3; rw [List.length_map] at hcap; omega
 have hlen := hs.len
 have hbb := hs.b
 have hTb : T ≤ 256 := plan_T hn1 hbb hT
 have hT1 : 1 ≤ T := plan_T1 hn1 hbb hT
 refine zsr fun K0 hK0 => ?_
 refine wpList_plain rfl (fun K hK => ?_)
 refine e_box Hz m0 70 (cs := [_, _, _, _, _]) rfl rfl rfl ?_
 clear Hz Az m0; intro g1 Az w2 Hz m2 hB2 hg2
 clear hB2 hg2
 refine hK _ _ ?_; clear hK
 refine goCh Hz (.assign rfl <| .assign rfl <| .nil) ?_
 clear Hz Az; intro Az Hz
 refine znl (hK0 _ _ ?_); clear hK0
 refine wp_seq_k (fun K1 hK1 => ?_)
 refine zsr fun K2 hK2 => ?_
 refine goCh Hz (.loadBR m2 (i := 70) rfl rfl U24 rfl fct2 (by simp) (by dsimp only [List.drop, List.take] <;> rfl) .nil) ?_
 clear Hz Az; intro Az Hz
 refine wpList_plain rfl (fun K hK => ?_)
 refine e_call Hz Try.func30 rfl rfl rfl rfl (r21right_any bl sz fr to its _ _ _ _ ((m2.rd (i := 60) rfl).any) hs.len) ?_
 rintro e w7 ⟨b9, rfl, hR, hb7⟩
 obtain rfl : b9 = true := hR.2 hs
 have m8 := m2.later hb7
 clear m2
 clear hb7
 refine ⟨_, rfl, ?_⟩; clear Hz Az; intro Az Hz
 refine hK _ _ ?_; clear hK
 refine goCh Hz (.not rfl <| .move rfl <| .moveZ rfl <| .lssZ rfl rfl <| .pickF rfl rfl <| .move rfl <| .nil) ?_
 clear Hz Az; intro Az Hz
 refine bool_cases Hz (t := 24) rfl ?_ ?_
 · intro hb _; exact absurd hb (by simp; omega)
 clear Hz; intro _ Hz
 refine goCh Hz (.moveZ rfl <| .gtrZ rfl rfl <| .pickF rfl rfl <| .nil) ?_
 clear Hz Az; intro Az Hz
 refine znl (hK2 _ _ ?_); clear hK2
 refine bool_cases Hz (t := 27) rfl ?_ ?_
 · intro hb _; exact absurd hb (by simp; omega)
 clear Hz; intro _ Hz
 refine wp_cond_false (Hz.ev (x := .tmp 27) rfl) ?_
 refine zss (hK1 _ _ ?_); clear hK1
 refine wp_seq_k (fun K3 hK3 => ?_)
 have hC3 : ∀ (a : Act) (w : World), (∃ (B5 B12 : Nat) (p2 : Option Addr) (c2 : Nat), Has 84 [(1, .int .i64 vo), (4, .int .i64 (n : Int)), (5, .pointer (some ⟨B5, 0, none⟩)), (12, .pointer (some ⟨B12, 0, none⟩))] a ∧ MemOk (cx S w0) w0 [(1, .box B5 24 [.int .i64 bl, .int .i64 sz, .int .i64 fr, .int .i64 to, .slice pi its.length ci]), (2, .box B12 57 [.int .i64 1, .int .i64 vo, .int .i64 bl, .int .i64 sz, .int .i64 pe, .slice p2 pl.length c2, .int .i64 (T : Int), .int .i64 0, .int .i64 0, .slice none 0 0]), (3, .dat (.slice p2 pl.length c2) (.ns .i64 pl)), (60, .dat (.slice pi its.length ci) (.l 2 (its.map itD)))] w) → K3 a w := by
   clear Hz m8
   rintro Az w21 ⟨B5, B12, p2, c2, Hz, m21⟩
   refine hK3 _ _ ?_; clear hK3
   refine wp_seq_k (fun K4 hK4 => ?_)
   refine zsr fun K5 hK5 => ?_
   refine goCh Hz (.loadBR m21 (i := 2) rfl rfl U57 rfl fct1 (by simp) (by dsimp only [List.drop, List.take] <;> rfl) .nil) ?_
   clear Hz Az; intro Az Hz
   refine wpList_plain rfl (fun K hK => ?_)
   refine e_call Hz Try.func31 rfl rfl rfl rfl (rnew_hid _ vo bl sz pe _ _ _ pl _ _ _ _ _ _ ((m21.rd (i := 3) rfl).any) (by omega) hN (by omega)) ?_
   rintro e w24 ⟨p24, c24, rfl, hd24, hb24⟩
   have m25 := m21.callF 100 rfl hb24 hd24
   clear m21
   clear hb24 hd24
   refine ⟨_, rfl, ?_⟩; clear Hz Az; intro Az Hz
   refine hK _ _ ?_; clear hK
   refine goCh Hz (.move rfl <| .extract rfl rfl <| .extract rfl rfl <| .nil) ?_
   clear Hz Az; intro Az Hz
   refine wpList_plain rfl (fun K hK => ?_)
   refine e_alloc Hz m25 101 fct6 rfl ?_
   clear Hz Az m25; intro g30 Az w31 Hz m31 hB31 hg31
   clear hB31 hg31
   refine hK _ _ ?_; clear hK
   refine wpList_plain rfl (fun K hK => ?_)
   refine e_storeW Hz m31 101 rfl rfl rfl rfl rfl fct5 ?_
   clear m31; intro w32 m32 hB32
   clear hB32
   refine hK _ _ ?_; clear hK
   refine goCh Hz (.assign rfl .nil) ?_
   clear Hz Az; intro Az Hz
   refine znl (hK5 _ _ ?_); clear hK5
   replace Hz : Has 84 [(1, _), (4, _), (5, _), (12, _), (14, _)] Az := Hz.only [1, 4, 5, 12, 14]
   refine regS Hz (.move rfl <| .neq rfl rfl <| .nil) ?_
   clear Hz Az; intro Az Hz
   refine bool_cases Hz (t := 47) rfl ?_ ?_
   · intro hb _; exact absurd hb (by simp)
   clear Hz; intro _ Hz
   refine wp_cond_false (Hz.ev (x := .tmp 47) rfl) ?_
   refine zss (hK4 _ _ ?_); clear hK4
   refine wp_seq_k (fun K6 hK6 => ?_)
   refine regS Hz (.fa 2 rfl U24 <| .lb m32 1 U2 rfl rfl rfl <| .geq rfl rfl <| .nil) ?_
   clear Hz Az; intro Az Hz
   refine bool_cases Hz (t := 50) rfl ?_ ?_
   rotate_left
   · intro hb _; exact absurd hb (by simp; omega)
   clear Hz; intro _ Hz
   refine wp_cond_true (Hz.ev (x := .tmp 50) rfl) ?_
   replace Hz : Has 84 [(1, _), (4, _), (5, _), (12, _)] Az := Hz.only [1, 4, 5, 12]
   refine regS Hz (.assign rfl <| .assign rfl <| .nil) ?_
   clear Hz Az; intro Az Hz
   refine wp_ret ?_
   try dsimp only [Exit.then, Exit.inBlock]
   refine (ret2 (fn := Try.f11) Hz rfl rfl rfl ?_)
   exact ⟨rfl, m32.below⟩
 replace Hz : Has 84 [(1, _), (2, _), (3, _), (4, _), (5, _), (10, _), (11, _)] Az := Hz.only [1, 2, 3, 4, 5, 10, 11]
 have m46 : MemOk _ _ [(60, _), (70, _)] _ := m8.only [60, 70]; clear m8
 refine region_p 15 (B := [(60, _), (70, _)]) (m46.to ⟨il, il, trivial⟩) m46 (by kernel_rfl) (fun w47 hP47 m47 => ?_); clear m46
 refine goR hP47 [0, 1, 2, 3, 4, 5, 6, 8, 9, 10] [2, 4, 9] 10 0 1919 Hz (m47.to ⟨il, il, trivial⟩) (.move rfl <| .fa 0 rfl U24 <| .lb hh 70 U3 rfl rfl rfl <| .fa 1 rfl U24 <| .lb hh 70 U3 rfl rfl rfl <| .move rfl <| .move rfl <| .fa 0 rfl U24 <| .lb hh 70 U3 rfl rfl rfl <| .move rfl <| .nil) ?_
 clear Hz Az; intro Az Hz
 refine d_two 7 13 rfl rfl (by kernel_rfl) rfl rfl (fun K hK => ?_) (fun K hK => ?_)
 ·
  refine e_app0N Hz m47 71 rfl rfl (h2.now' m47 rfl).ns_out.nums U26 fct3 (by decide) (by omega) rfl ?_
  clear Hz Az m47; intro p58 c58 Az w59 Hz m59
  refine hK _ _ (fun _ => (m59.to ⟨il, il, trivial⟩)) ?_; clear hK K
  refine d_two 11 13 rfl rfl (by kernel_rfl) rfl rfl (fun K hK => ?_) (fun K hK => ?_)
  ·
   refine e_call Hz Try.func29 rfl rfl rfl rfl (chunks_any bl (n : Int) _ (by omega) (by omega)) ?_
   rintro e w60 ⟨rfl, hb60⟩
   have m61 := m59.later hb60
   clear m59
   clear hb60
   rw [hT]
   refine ⟨_, rfl, ?_⟩; clear Hz Az; intro Az Hz
   refine hK _ _ (fun _ => (m61.to ⟨il, il, trivial⟩)) ?_; clear hK K
   refine goA hP47 [12] 1 4095 8191 Hz (m61.to ⟨il, il, trivial⟩) (.build rfl fct7 fl57rpc rfl (by dsimp only [setL, List.set] <;> rfl) <| .nil) ?_
   clear Hz Az; intro Az Hz
   refine stepE_only 13 rfl (by kernel_rfl) rfl (fun K hK => ?_)
   refine e_alloc Hz m61 72 fct7 rfl ?_
   clear Hz Az m61; intro g64 Az w65 Hz m65 hB65 hg65
   clear hB65 hg65
   refine hK _ _ (m65.to ⟨il, il, trivial⟩) ?_; clear hK K
   refine stepE_only 14 rfl (by kernel_rfl) rfl (fun K hK => ?_)
   refine e_storeW Hz m65 72 rfl rfl rfl rfl rfl fct1 ?_
   clear m65; intro w66 m66 hB66
   clear hB66
   refine hK _ _ (m66.to ⟨il, il, trivial⟩) ?_; clear hK K
   refine wpAnyE_done (by kernel_rfl) ?_ _
   have m67 := m66.freezeN 71 rfl; clear m66
   show K3 _ _
   exact hC3 _ _ ⟨_, _, _, _, Hz.only [1, 4, 5, 12], m67.ren [(1, 70), (2, 72), (3, 71), (60, 60)] (by decide)⟩
  refine e_alloc Hz m59 72 fct7 rfl ?_
  clear Hz Az m59; intro g68 Az w69 Hz m69 hB69 hg69
  clear hB69 hg69
  refine hK _ _ (fun _ => (m69.to ⟨il, il, trivial⟩)) ?_; clear hK K
  refine stepE_only 11 rfl (by kernel_rfl) rfl (fun K hK => ?_)
  refine e_call Hz Try.func29 rfl rfl rfl rfl (chunks_any bl (n : Int) _ (by omega) (by omega)) ?_
  rintro e w70 ⟨rfl, hb70⟩
  have m71 := m69.later hb70
  clear m69
  clear hb70
  rw [hT]
  refine ⟨_, rfl, ?_⟩; clear Hz Az; intro Az Hz
  refine hK _ _ (m71.to ⟨il, il, trivial⟩) ?_; clear hK K
  refine goA hP47 [12] 1 12287 16383 Hz (m71.to ⟨il, il, trivial⟩) (.build rfl fct7 fl57rpc rfl (by dsimp only [setL, List.set] <;> rfl) <| .nil) ?_
  clear Hz Az; intro Az Hz
  refine stepE_only 14 rfl (by kernel_rfl) rfl (fun K hK => ?_)
  refine e_storeW Hz m71 72 rfl rfl rfl rfl rfl fct1 ?_
  clear m71; intro w74 m74 hB74
  clear hB74
  refine hK _ _ (m74.to ⟨il, il, trivial⟩) ?_; clear hK K
  refine wpAnyE_done (by kernel_rfl) ?_ _
  have m75 := m74.freezeN 71 rfl; clear m74
  show K3 _ _
  exact hC3 _ _ ⟨_, _, _, _, Hz.only [1, 4, 5, 12], m75.ren [(1, 70), (2, 72), (3, 71), (60, 60)] (by decide)⟩
 refine e_alloc Hz m47 71 fct7 rfl ?_
 clear Hz Az m47; intro g76 Az w77 Hz m77 hB77 hg77
 clear hB77 hg77
 refine hK _ _ (fun _ => (m77.to ⟨il, il, trivial⟩)) ?_; clear hK K
 refine stepE_only 7 rfl (by kernel_rfl) rfl (fun K hK => ?_)
 refine e_app0N Hz m77 72 rfl rfl (h2.now' m77 rfl).ns_out.nums U26 fct3 (by decide) (by omega) rfl ?_
 clear Hz Az m77; intro p78 c78 Az w79 Hz m79
 refine hK _ _ (m79.to ⟨il, il, trivial⟩) ?_; clear hK K
 refine stepE_only 11 rfl (by kernel_rfl) rfl (fun K hK => ?_)
 refine e_call Hz Try.func29 rfl rfl rfl rfl (chunks_any bl (n : Int) _ (by omega) (by omega)) ?_
 rintro e w80 ⟨rfl, hb80⟩
 have m81 := m79.later hb80
 clear m79
 clear hb80
 rw [hT]
 refine ⟨_, rfl, ?_⟩; clear Hz Az; intro Az Hz
 refine hK _ _ (m81.to ⟨il, il, trivial⟩) ?_; clear hK K
 refine goA hP47 [12] 1 12287 16383 Hz (m81.to ⟨il, il, trivial⟩) (.build rfl fct7 fl57rpc rfl (by dsimp only [setL, List.set] <;> rfl) <| .nil) ?_
 clear Hz Az; intro Az Hz
 refine stepE_only 14 rfl (by kernel_rfl) rfl (fun K hK => ?_)
 refine e_storeW Hz m81 71 rfl rfl rfl rfl rfl fct1 ?_
 clear m81; intro w84 m84 hB84
 clear hB84
 refine hK _ _ (m84.to ⟨il, il, trivial⟩) ?_; clear hK K
 refine wpAnyE_done (by kernel_rfl) ?_ _
 have m85 := m84.freezeN 72 rfl; clear m84
 show K3 _ _
 exact hC3 _ _ ⟨_, _, _, _, Hz.only [1, 4, 5, 12], m85.ren [(1, 70), (2, 71), (3, 72), (60, 60)] (by decide)⟩
theorem rplan_yes (bl sz fr to vo pe : Int) (its : List (Int × List Int)) (pi : Option Addr) (ni ci : Nat) (pl : List Int) (pq : Option Addr) (cq : Nat) (n T : Nat) (S : Nat → Prop) (w0 : World) (h1 : Rd S w0 (.slice pi ni ci) (.l 2 (its.map itD))) (h2 : Rd (fun _ => True) w0 (.slice pq pl.length cq) (.ns .i64 pl)) (hs : StreamOk bl sz fr to its) (hio : ItsOk its) (hn1 : 1 ≤ n) (hn8 : n ≤ 8) (hpl : pl.length ≤ 1000000) (hT : (bl + (n : Int) - 1) / (n : Int) = (T : Int)) (hN : NewOk vo bl sz pe T pl) (hf : fr = -1) :
   Calls Try.prog 11 #[.agg #[.int .i64 bl, .int .i64 sz, .int .i64 fr, .int .i64 to, .slice pi ni ci], .int .i64 vo, .int .i64 pe, .slice pq pl.length cq, .int .i64 (n : Int)] w0 fun e w' => ∃ p c, e = .returned (.tuple #[.slice p (planL vo pe pl bl sz its n T).length c, .int .i64 0]) ∧ Rd (Out S w0) w' (.slice p (planL vo pe pl bl sz its n T).length c) (.l 10 ((planL vo pe pl bl sz its n T).map cmdD)) ∧ Below w0.heap.size w0 w' := by
 obtain rfl : ni = its.length := by obtain ⟨pq, cq, hv, _⟩ := h1.l_shape; injection hv with _ e2 _; rw [List.length_map] at e2; exact e2
 refine ent5 Try.func11 rfl Try.ntmps11 fun Az Hz => ?_
 have m0 := (MemOk.start S w0).dat 60 rfl (h1.cast (fun b hb => free_nil (fun _ => hb)))
 have hcap : its.length ≤ ci := by obtain ⟨pq, cq, hv, hcap⟩ := h1.l_shape; injection hv with _ _ e3; rw [List.length_map] at hcap; omega
 have hlen := hs.len
 have hbb := hs.b
 have hTb : T ≤ 256 := plan_T hn1 hbb hT
 have hT1 : 1 ≤ T := plan_T1 hn1 hbb hT
 have hil : (its.length : Int) = bl := hs.l (by omega)
 refine zsr fun K0 hK0 => ?_
 refine wpList_plain rfl (fun K hK => ?_)
 refine e_box Hz m0 70 (cs := [_, _, _, _, _]) rfl rfl rfl ?_
 clear Hz Az m0; intro g1 Az w2 Hz m2 hB2 hg2
 clear hB2 hg2
 refine hK _ _ ?_; clear hK
 refine goCh Hz (.assign rfl <| .assign rfl <| .nil) ?_
 clear Hz Az; intro Az Hz
 refine znl (hK0 _ _ ?_); clear hK0
 refine wp_seq_k (fun K1 hK1 => ?_)
 refine zsr fun K2 hK2 => ?_
 refine goCh Hz (.loadBR m2 (i := 70) rfl rfl U24 rfl fct2 (by simp) (by dsimp only [List.drop, List.take] <;> rfl) .nil) ?_
 clear Hz Az; intro Az Hz
 refine wpList_plain rfl (fun K hK => ?_)
 refine e_call Hz Try.func30 rfl rfl rfl rfl (r21right_any bl sz fr to its _ _ _ _ ((m2.rd (i := 60) rfl).any) hs.len) ?_
 rintro e w7 ⟨b9, rfl, hR, hb7⟩
 obtain rfl : b9 = true := hR.2 hs
 have m8 := m2.later hb7
 clear m2
 clear hb7
 refine ⟨_, rfl, ?_⟩; clear Hz Az; intro Az Hz
 refine hK _ _ ?_; clear hK
 refine goCh Hz (.not rfl <| .move rfl <| .moveZ rfl <| .lssZ rfl rfl <| .pickF rfl rfl <| .move rfl <| .nil) ?_
 clear Hz Az; intro Az Hz
 refine bool_cases Hz (t := 24) rfl ?_ ?_
 · intro hb _; exact absurd hb (by simp; omega)
 clear Hz; intro _ Hz
 refine goCh Hz (.moveZ rfl <| .gtrZ rfl rfl <| .pickF rfl rfl <| .nil) ?_
 clear Hz Az; intro Az Hz
 refine znl (hK2 _ _ ?_); clear hK2
 refine bool_cases Hz (t := 27) rfl ?_ ?_
 · intro hb _; exact absurd hb (by simp; omega)
 clear Hz; intro _ Hz
 refine wp_cond_false (Hz.ev (x := .tmp 27) rfl) ?_
 refine zss (hK1 _ _ ?_); clear hK1
 refine wp_seq_k (fun K3 hK3 => ?_)
 have hC3 : ∀ (a : Act) (w : World), (∃ (B5 B12 : Nat) (p2 : Option Addr) (c2 : Nat), Has 84 [(1, .int .i64 vo), (4, .int .i64 (n : Int)), (5, .pointer (some ⟨B5, 0, none⟩)), (12, .pointer (some ⟨B12, 0, none⟩))] a ∧ MemOk (cx S w0) w0 [(1, .box B5 24 [.int .i64 bl, .int .i64 sz, .int .i64 fr, .int .i64 to, .slice pi its.length ci]), (2, .box B12 57 [.int .i64 1, .int .i64 vo, .int .i64 bl, .int .i64 sz, .int .i64 pe, .slice p2 pl.length c2, .int .i64 (T : Int), .int .i64 0, .int .i64 0, .slice none 0 0]), (3, .dat (.slice p2 pl.length c2) (.ns .i64 pl)), (60, .dat (.slice pi its.length ci) (.l 2 (its.map itD)))] w) → K3 a w := by
   clear Hz m8
   rintro Az w21 ⟨B5, B12, p2, c2, Hz, m21⟩
   refine hK3 _ _ ?_; clear hK3
   refine wp_seq_k (fun K4 hK4 => ?_)
   refine zsr fun K5 hK5 => ?_
   refine goCh Hz (.loadBR m21 (i := 2) rfl rfl U57 rfl fct1 (by simp) (by dsimp only [List.drop, List.take] <;> rfl) .nil) ?_
   clear Hz Az; intro Az Hz
   refine wpList_plain rfl (fun K hK => ?_)
   refine e_call Hz Try.func31 rfl rfl rfl rfl (rnew_hid _ vo bl sz pe _ _ _ pl _ _ _ _ _ _ ((m21.rd (i := 3) rfl).any) (by omega) hN (by omega)) ?_
   rintro e w24 ⟨p24, c24, rfl, hd24, hb24⟩
   have m25 := m21.callF 100 rfl hb24 hd24
   clear m21
   clear hb24 hd24
   refine ⟨_, rfl, ?_⟩; clear Hz Az; intro Az Hz
   refine hK _ _ ?_; clear hK
   refine goCh Hz (.move rfl <| .extract rfl rfl <| .extract rfl rfl <| .nil) ?_
   clear Hz Az; intro Az Hz
   refine wpList_plain rfl (fun K hK => ?_)
   refine e_alloc Hz m25 101 fct6 rfl ?_
   clear Hz Az m25; intro g30 Az w31 Hz m31 hB31 hg31
   clear hB31 hg31
   refine hK _ _ ?_; clear hK
   refine wpList_plain rfl (fun K hK => ?_)
   refine e_storeW Hz m31 101 rfl rfl rfl rfl rfl fct5 ?_
   clear m31; intro w32 m32 hB32
   clear hB32
   refine hK _ _ ?_; clear hK
   refine goCh Hz (.assign rfl .nil) ?_
   clear Hz Az; intro Az Hz
   refine znl (hK5 _ _ ?_); clear hK5
   replace Hz : Has 84 [(1, _), (4, _), (5, _), (12, _), (14, _)] Az := Hz.only [1, 4, 5, 12, 14]
   refine regS Hz (.move rfl <| .neq rfl rfl <| .nil) ?_
   clear Hz Az; intro Az Hz
   refine bool_cases Hz (t := 47) rfl ?_ ?_
   · intro hb _; exact absurd hb (by simp)
   clear Hz; intro _ Hz
   refine wp_cond_false (Hz.ev (x := .tmp 47) rfl) ?_
   refine zss (hK4 _ _ ?_); clear hK4
   refine wp_seq_k (fun K6 hK6 => ?_)
   refine regS Hz (.fa 2 rfl U24 <| .lb m32 1 U2 rfl rfl rfl <| .geq rfl rfl <| .nil) ?_
   clear Hz Az; intro Az Hz
   refine bool_cases Hz (t := 50) rfl ?_ ?_
   · intro hb _; exact absurd hb (by simp; omega)
   clear Hz; intro _ Hz
   refine wp_cond_false (Hz.ev (x := .tmp 50) rfl) ?_
   refine zss (hK6 _ _ ?_); clear hK6
   replace Hz : Has 84 [(1, _), (4, _), (5, _), (12, _)] Az := Hz.only [1, 4, 5, 12]
   refine zsr fun K7 hK7 => ?_
   refine goCh Hz (.loadBR m32 (i := 2) rfl rfl U57 rfl fct1 (by simp) (by dsimp only [List.drop, List.take] <;> rfl) .nil) ?_
   clear Hz Az; intro Az Hz
   refine wpList_plain rfl (fun K hK => ?_)
   refine e_litR Hz m32 102 (mm := 10) rfl (.cons rfl rfl (.cons (.v _) (.cons (.v _) (.cons (.v _) (.cons (.v _) (.cons (.v _) (.cons (m32.rd (i := 3) rfl) (.cons (.v _) (.cons (.v _) (.cons (.v _) (.cons (.l0 _ _ 2) .nil)))))))))) <| .nil) U31 fct8 rfl rfl rfl rfl rfl ?_
   clear Hz Az m32; intro g45 Az w46 Hz m46
   refine hK _ _ ?_; clear hK
   refine goCh Hz (.assign rfl .nil) ?_
   clear Hz Az; intro Az Hz
   refine znl (hK7 _ _ ?_); clear hK7
   refine wp_seq_k (fun K8 hK8 => ?_)
   refine regS Hz (.assign rfl <| .nil) ?_
   clear Hz Az; intro Az Hz
   refine wp_block ?_
   refine wp_loop_ghost (fun g a w => ∃ (k B5 B12 : Nat) (p2 p : Option Addr) (c2 c : Nat), k ≤ T ∧ g = T - k ∧ Has 84 [(1, .int .i64 vo), (4, .int .i64 (n : Int)), (5, .pointer (some ⟨B5, 0, none⟩)), (12, .pointer (some ⟨B12, 0, none⟩)), (15, .slice p ((planH vo pe pl bl sz T :: (List.range k).map (impR vo its n)).map cmdD).length c), (16, .int .i64 k)] a ∧ MemOk (cx S w0) w0 [(1, .box B5 24 [.int .i64 bl, .int .i64 sz, .int .i64 fr, .int .i64 to, .slice pi its.length ci]), (2, .box B12 57 [.int .i64 1, .int .i64 vo, .int .i64 bl, .int .i64 sz, .int .i64 pe, .slice p2 pl.length c2, .int .i64 (T : Int), .int .i64 0, .int .i64 0, .slice none 0 0]), (3, .dat (.slice p2 pl.length c2) (.ns .i64 pl)), (60, .dat (.slice pi its.length ci) (.l 2 (its.map itD))), (9, .row (.slice p ((planH vo pe pl bl sz T :: (List.range k).map (impR vo its n)).map cmdD).length c) 57 10 ((planH vo pe pl bl sz T :: (List.range k).map (impR vo its n)).map cmdD))] w) (T) ?_ ?_
   · exact ⟨0, _, _, _, _, _, _, Nat.zero_le _, rfl, Hz.only [1, 4, 5, 12, 15, 16], m46.ren [(1, 1), (2, 2), (3, 3), (60, 60), (9, 102)] (by decide)⟩
   clear Hz m46
   rintro g Az w49 ⟨k, B5, B12, p2, p, c2, c, hkl, hg, Hz, m49⟩
   refine wp_seq_k (fun K9 hK9 => ?_)
   refine regS Hz (.move rfl <| .fa 6 rfl U57 <| .lb m49 2 U3 rfl rfl rfl <| .lss rfl rfl <| .nil) ?_
   clear Hz Az; intro Az Hz
   refine bool_cases Hz (t := 56) rfl ?_ ?_
   ·
    clear Hz; intro hb54 Hz; try simp only [QQ, Qax] at hb54
    have hk : k < T := by have := hb54; first | omega | (simp at this; omega)
    obtain ⟨hkn, hkn1, hkn2, hkn3⟩ := plan_math hn1 hn8 hT hTb hil hk
    refine wp_cond_true (Hz.ev (x := .tmp 56) rfl) ?_
    refine zss (hK9 _ _ ?_); clear hK9
    refine wp_seq_k (fun K10 hK10 => ?_)
    refine wp_block ?_
    refine wp_region_lit ?_
    refine goCh Hz (.move rfl <| .move rfl <| .move rfl <| .fa 4 rfl U24 <| .lb m49 1 U22 rfl rfl rfl <| .move rfl <| .move rfl <| .mul rfl rfl (r := ((k * n : Nat) : Int)) (by rw [hkn1]; exact IntWalk.i64_in _ (by omega)) <| .move rfl <| .add rfl rfl (r := ((k + 1 : Nat) : Int)) (by rw [IntWalk.i64_in _ (by omega)]; omega) <| .move rfl <| .mul rfl rfl (r := (((k + 1) * n : Nat) : Int)) (by rw [hkn2]; exact IntWalk.i64_in _ (by omega)) <| .fa 4 rfl U24 <| .lb m49 1 U22 rfl rfl rfl <| .len rfl U22 <| .c rfl (fun _ h => y_min h rfl rfl (r := ((min ((k + 1) * n) its.length : Nat) : Int)) (by omega)) <| .nil) ?_
    clear Hz Az; intro Az Hz
    obtain ⟨P2, hP2⟩ : ∃ x, (if ci = k * n then pi else pi.map (·.add (k * n * 2))) = x := ⟨_, rfl⟩
    obtain ⟨C2, hC2⟩ : ∃ x, ci - k * n = x := ⟨_, rfl⟩
    have hW2l : (chunkI its n k).length = min ((k + 1) * n) its.length - k * n := by rw [chunkI, List.length_drop, List.length_take]; omega
    have m71 := m49.takeR (i := 60) rfl (min ((k + 1) * n) its.length) (by rw [List.length_map]; omega) 200 rfl; clear m49
    have m72 := m71.dropR (i := 200) rfl (k * n) (by rw [List.length_take, List.length_map]; omega) 201 rfl; clear m71
    rw [hP2, hC2, ← List.map_take, ← List.map_drop, ← hW2l] at m72
    rw [show (its.take (min ((k + 1) * n) its.length)).drop (k * n) = chunkI its n k from rfl] at m72
    refine goCh Hz (.c rfl (fun _ h => y_sliceLHn h (k * n) (min ((k + 1) * n) its.length) rfl rfl rfl U22 fct9 rfl rfl (by omega) (by omega) hP2 hC2 hW2l.symm) <| .build rfl fct7 fl57rpy rfl (by dsimp only [setL, List.set] <;> rfl) <| .nil) ?_
    clear Hz Az; intro Az Hz
    refine wpList_plain rfl (fun K hK => ?_)
    refine e_litR Hz m72 202 (mm := 10) rfl (.cons rfl rfl (.cons (.v _) (.cons (.v _) (.cons (.v _) (.cons (.v _) (.cons (.v _) (.cons (Rd.nilN _ _ .i64 _) (.cons (.v _) (.cons (.v _) (.cons (.v _) (.cons (m72.rd (i := 201) rfl) .nil)))))))))) <| .nil) U31 fct8 rfl rfl rfl rfl rfl ?_
    clear Hz Az m72; intro g75 Az w76 Hz m76
    refine hK _ _ ?_; clear hK
    have m78 := m76.freezeR 202 rfl; clear m76
    refine wpList_plain rfl (fun K hK => ?_)
    refine e_appR Hz m78 9 rfl rfl rfl (m78.rd (i := 202) rfl) U31 fct8 rfl rfl (by decide) (by rw [List.length_map]; simp; omega) rfl ?_
    clear Hz Az m78; intro p77 c77 Az w79 Hz m79
    refine hK _ _ ?_; clear hK
    refine goCh Hz (.assign rfl .nil) ?_
    clear Hz Az; intro Az Hz
    refine znl (hK10 _ _ ?_); clear hK10
    replace Hz : Has 84 [(1, _), (4, _), (5, _), (12, _), (15, _), (16, _)] Az := Hz.only [1, 4, 5, 12, 15, 16]
    refine wp_region_lit ?_
    refine goCh Hz (.move rfl <| .add rfl rfl (r := ((k + 1 : Nat) : Int)) (by rw [IntWalk.i64_in _ (by omega)]; omega) <| .assign rfl <| .nil) ?_
    clear Hz Az; intro Az Hz
    refine wpList_nil ?_
    show ∃ n', n' < _ ∧ _
    have hE : ((planH vo pe pl bl sz T :: (List.range k).map (impR vo its n)).map cmdD) ++ [[.v (.int .i64 (impR vo its n k).kd), .v (.int .i64 (impR vo its n k).vo), .v (.int .i64 (impR vo its n k).bl), .v (.int .i64 (impR vo its n k).sz), .v (.int .i64 (impR vo its n k).pe), .ns .i64 (impR vo its n k).pl, .v (.int .i64 (impR vo its n k).to), .v (.int .i64 (impR vo its n k).at0), .v (.int .i64 (impR vo its n k).ix), .l 2 ((impR vo its n k).its.map itD)]] = ((planH vo pe pl bl sz T :: (List.range (k + 1)).map (impR vo its n)).map cmdD) := by rw [List.range_succ, List.map_append, ← List.cons_append, List.map_append]; rfl
    have mE := m79
    have aE := Hz
    rw [show ((planH vo pe pl bl sz T :: (List.range k).map (impR vo its n)).map cmdD) ++ [[.v (.int .i64 6), .v (.int .i64 vo), .v (.int .i64 0), .v (.int .i64 0), .v (.int .i64 0), .ns .i64 [], .v (.int .i64 0), .v (.int .i64 0), .v (.int .i64 (k : Int)), .l 2 ((chunkI its n k).map itD)]] = ((planH vo pe pl bl sz T :: (List.range (k + 1)).map (impR vo its n)).map cmdD) from hE] at mE aE
    exact ⟨T - (k + 1), by omega, k + 1, _, _, _, _, _, _, by omega, rfl, aE.only [1, 4, 5, 12, 15, 16], mE.ren [(1, 1), (2, 2), (3, 3), (60, 60), (9, 9)] (by decide)⟩
   clear Hz; intro hb54 Hz; try simp only [QQ, Qax] at hb54
   have hke : k = T := by have := hb54; first | omega | (simp at this; omega)
   refine wp_cond_false (Hz.ev (x := .tmp 56) rfl) ?_
   refine wp_exit ?_
   refine hK8 _ _ ?_; clear hK8
   refine zsr fun K11 hK11 => ?_
   refine goCh Hz (.move rfl <| .move rfl <| .build rfl fct7 fl57rpy rfl (by dsimp only [setL, List.set] <;> rfl) <| .nil) ?_
   clear Hz Az; intro Az Hz
   refine wpList_plain rfl (fun K hK => ?_)
   refine e_litR Hz m49 200 (mm := 10) rfl (.cons rfl rfl (.cons (.v _) (.cons (.v _) (.cons (.v _) (.cons (.v _) (.cons (.v _) (.cons (Rd.nilN _ _ .i64 _) (.cons (.v _) (.cons (.v _) (.cons (.v _) (.cons (.l0 _ _ 2) .nil)))))))))) <| .nil) U31 fct8 rfl rfl rfl rfl rfl ?_
   clear Hz Az m49; intro g91 Az w92 Hz m92
   refine hK _ _ ?_; clear hK
   have m94 := m92.freezeR 200 rfl; clear m92
   refine wpList_plain rfl (fun K hK => ?_)
   refine e_appR Hz m94 9 rfl rfl rfl (m94.rd (i := 200) rfl) U31 fct8 rfl rfl (by decide) (by rw [List.length_map]; simp; omega) rfl ?_
   clear Hz Az m94; intro p93 c93 Az w95 Hz m95
   refine hK _ _ ?_; clear hK
   refine goCh Hz (.assign rfl <| .assign rfl <| .nil) ?_
   clear Hz Az; intro Az Hz
   refine znl (hK11 _ _ ?_); clear hK11
   refine wp_ret ?_
   try dsimp only [Exit.then, Exit.inBlock]
   refine (ret2 (fn := Try.f11) Hz rfl rfl rfl ?_)
   have m98 := m95.freezeR 9 rfl; clear m95
   have mE := m98
   rw [show ((planH vo pe pl bl sz T :: (List.range k).map (impR vo its n)).map cmdD) ++ [[.v (.int .i64 7), .v (.int .i64 vo), .v (.int .i64 0), .v (.int .i64 0), .v (.int .i64 0), .ns .i64 [], .v (.int .i64 0), .v (.int .i64 0), .v (.int .i64 0), .l 2 []]] = (planL vo pe pl bl sz its n T).map cmdD from by rw [hke, planL, List.map_append]; rfl, List.length_map] at mE
   rw [show ((planH vo pe pl bl sz T :: (List.range k).map (impR vo its n)).map cmdD) ++ [[.v (.int .i64 7), .v (.int .i64 vo), .v (.int .i64 0), .v (.int .i64 0), .v (.int .i64 0), .ns .i64 [], .v (.int .i64 0), .v (.int .i64 0), .v (.int .i64 0), .l 2 []]] = (planL vo pe pl bl sz its n T).map cmdD from by rw [hke, planL, List.map_append]; rfl]
   exact ⟨_, _, by rw [List.length_map], outS mE (i := 9) rfl, mE.below⟩
 replace Hz : Has 84 [(1, _), (2, _), (3, _), (4, _), (5, _), (10, _), (11, _)] Az := Hz.only [1, 2, 3, 4, 5, 10, 11]
 have m100 : MemOk _ _ [(60, _), (70, _)] _ := m8.only [60, 70]; clear m8
 refine region_p 15 (B := [(60, _), (70, _)]) (m100.to ⟨il, il, trivial⟩) m100 (by kernel_rfl) (fun w101 hP101 m101 => ?_); clear m100
 refine goR hP101 [0, 1, 2, 3, 4, 5, 6, 8, 9, 10] [2, 4, 9] 10 0 1919 Hz (m101.to ⟨il, il, trivial⟩) (.move rfl <| .fa 0 rfl U24 <| .lb hh 70 U3 rfl rfl rfl <| .fa 1 rfl U24 <| .lb hh 70 U3 rfl rfl rfl <| .move rfl <| .move rfl <| .fa 0 rfl U24 <| .lb hh 70 U3 rfl rfl rfl <| .move rfl <| .nil) ?_
 clear Hz Az; intro Az Hz
 refine d_two 7 13 rfl rfl (by kernel_rfl) rfl rfl (fun K hK => ?_) (fun K hK => ?_)
 ·
  refine e_app0N Hz m101 71 rfl rfl (h2.now' m101 rfl).ns_out.nums U26 fct3 (by decide) (by omega) rfl ?_
  clear Hz Az m101; intro p112 c112 Az w113 Hz m113
  refine hK _ _ (fun _ => (m113.to ⟨il, il, trivial⟩)) ?_; clear hK K
  refine d_two 11 13 rfl rfl (by kernel_rfl) rfl rfl (fun K hK => ?_) (fun K hK => ?_)
  ·
   refine e_call Hz Try.func29 rfl rfl rfl rfl (chunks_any bl (n : Int) _ (by omega) (by omega)) ?_
   rintro e w114 ⟨rfl, hb114⟩
   have m115 := m113.later hb114
   clear m113
   clear hb114
   rw [hT]
   refine ⟨_, rfl, ?_⟩; clear Hz Az; intro Az Hz
   refine hK _ _ (fun _ => (m115.to ⟨il, il, trivial⟩)) ?_; clear hK K
   refine goA hP101 [12] 1 4095 8191 Hz (m115.to ⟨il, il, trivial⟩) (.build rfl fct7 fl57rpy rfl (by dsimp only [setL, List.set] <;> rfl) <| .nil) ?_
   clear Hz Az; intro Az Hz
   refine stepE_only 13 rfl (by kernel_rfl) rfl (fun K hK => ?_)
   refine e_alloc Hz m115 72 fct7 rfl ?_
   clear Hz Az m115; intro g118 Az w119 Hz m119 hB119 hg119
   clear hB119 hg119
   refine hK _ _ (m119.to ⟨il, il, trivial⟩) ?_; clear hK K
   refine stepE_only 14 rfl (by kernel_rfl) rfl (fun K hK => ?_)
   refine e_storeW Hz m119 72 rfl rfl rfl rfl rfl fct1 ?_
   clear m119; intro w120 m120 hB120
   clear hB120
   refine hK _ _ (m120.to ⟨il, il, trivial⟩) ?_; clear hK K
   refine wpAnyE_done (by kernel_rfl) ?_ _
   have m121 := m120.freezeN 71 rfl; clear m120
   show K3 _ _
   exact hC3 _ _ ⟨_, _, _, _, Hz.only [1, 4, 5, 12], m121.ren [(1, 70), (2, 72), (3, 71), (60, 60)] (by decide)⟩
  refine e_alloc Hz m113 72 fct7 rfl ?_
  clear Hz Az m113; intro g122 Az w123 Hz m123 hB123 hg123
  clear hB123 hg123
  refine hK _ _ (fun _ => (m123.to ⟨il, il, trivial⟩)) ?_; clear hK K
  refine stepE_only 11 rfl (by kernel_rfl) rfl (fun K hK => ?_)
  refine e_call Hz Try.func29 rfl rfl rfl rfl (chunks_any bl (n : Int) _ (by omega) (by omega)) ?_
  rintro e w124 ⟨rfl, hb124⟩
  have m125 := m123.later hb124
  clear m123
  clear hb124
  rw [hT]
  refine ⟨_, rfl, ?_⟩; clear Hz Az; intro Az Hz
  refine hK _ _ (m125.to ⟨il, il, trivial⟩) ?_; clear hK K
  refine goA hP101 [12] 1 12287 16383 Hz (m125.to ⟨il, il, trivial⟩) (.build rfl fct7 fl57rpy rfl (by dsimp only [setL, List.set] <;> rfl) <| .nil) ?_
  clear Hz Az; intro Az Hz
  refine stepE_only 14 rfl (by kernel_rfl) rfl (fun K hK => ?_)
  refine e_storeW Hz m125 72 rfl rfl rfl rfl rfl fct1 ?_
  clear m125; intro w128 m128 hB128
  clear hB128
  refine hK _ _ (m128.to ⟨il, il, trivial⟩) ?_; clear hK K
  refine wpAnyE_done (by kernel_rfl) ?_ _
  have m129 := m128.freezeN 71 rfl; clear m128
  show K3 _ _
  exact hC3 _ _ ⟨_, _, _, _, Hz.only [1, 4, 5, 12], m129.ren [(1, 70), (2, 72), (3, 71), (60, 60)] (by decide)⟩
 refine e_alloc Hz m101 71 fct7 rfl ?_
 clear Hz Az m101; intro g130 Az w131 Hz m131 hB131 hg131
 clear hB131 hg131
 refine hK _ _ (fun _ => (m131.to ⟨il, il, trivial⟩)) ?_; clear hK K
 refine stepE_only 7 rfl (by kernel_rfl) rfl (fun K hK => ?_)
 refine e_app0N Hz m131 72 rfl rfl (h2.now' m131 rfl).ns_out.nums U26 fct3 (by decide) (by omega) rfl ?_
 clear Hz Az m131; intro p132 c132 Az w133 Hz m133
 refine hK _ _ (m133.to ⟨il, il, trivial⟩) ?_; clear hK K
 refine stepE_only 11 rfl (by kernel_rfl) rfl (fun K hK => ?_)
 refine e_call Hz Try.func29 rfl rfl rfl rfl (chunks_any bl (n : Int) _ (by omega) (by omega)) ?_
 rintro e w134 ⟨rfl, hb134⟩
 have m135 := m133.later hb134
 clear m133
 clear hb134
 rw [hT]
 refine ⟨_, rfl, ?_⟩; clear Hz Az; intro Az Hz
 refine hK _ _ (m135.to ⟨il, il, trivial⟩) ?_; clear hK K
 refine goA hP101 [12] 1 12287 16383 Hz (m135.to ⟨il, il, trivial⟩) (.build rfl fct7 fl57rpy rfl (by dsimp only [setL, List.set] <;> rfl) <| .nil) ?_
 clear Hz Az; intro Az Hz
 refine stepE_only 14 rfl (by kernel_rfl) rfl (fun K hK => ?_)
 refine e_storeW Hz m135 71 rfl rfl rfl rfl rfl fct1 ?_
 clear m135; intro w138 m138 hB138
 clear hB138
 refine hK _ _ (m138.to ⟨il, il, trivial⟩) ?_; clear hK K
 refine wpAnyE_done (by kernel_rfl) ?_ _
 have m139 := m138.freezeN 72 rfl; clear m138
 show K3 _ _
 exact hC3 _ _ ⟨_, _, _, _, Hz.only [1, 4, 5, 12], m139.ren [(1, 70), (2, 71), (3, 72), (60, 60)] (by decide)⟩
end Go.Proofs.Ytkdnhndjjfjppaa.K
