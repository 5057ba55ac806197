/- intake: no plan. -/
import Derived.Test.YtkdnhndjjfjppaaInt2
namespace Go.Proofs.Ytkdnhndjjfjppaa.K
open Go.ChangeShapes Go.WideShapes Go.ChangeAt Go.RowKit
set_option linter.unusedVariables false
set_option linter.unusedSimpArgs false
theorem fl57ipln : flatS Try.prog 57 [.int .i64 0, .int .i64 0, .int .i64 0, .int .i64 0, .int .i64 0, .slice none 0 0, .int .i64 0, .int .i64 0, .int .i64 0, .slice none 0 0] = true := by kernel_rfl
set_option maxRecDepth 100000
set_option maxHeartbeats 4000000
theorem plan_no (bl sz fr to vo pe : Int) (its : List (Int × List Int)) (pi : Option Addr) (ni ci : Nat) (pl : List Int) (pq : Option Addr) (cq : Nat) (n T : Nat) (S : Nat → Prop) (w0 : World) (h1 : Rd S w0 (.slice pi ni ci) (.l 2 (its.map itD))) (h2 : Rd (fun _ => True) w0 (.slice pq pl.length cq) (.ns .i64 pl)) (hs : StreamOk bl sz fr to its) (hio : ItsOk its) (hn1 : 1 ≤ n) (hn8 : n ≤ 8) (hpl : pl.length ≤ 1000000) (hT : (bl + (n : Int) - 1) / (n : Int) = (T : Int)) (hN : ¬ NewOk vo bl sz pe T pl) :
   Calls Try.prog 9 #[.agg #[.int .i64 bl, .int .i64 sz, .int .i64 fr, .int .i64 to, .slice pi ni ci], .int .i64 vo, .int .i64 pe, .slice pq pl.length cq, .int .i64 (n : Int)] w0 fun e w' => e = .returned (.tuple #[.slice none 0 0, .int .i64 23]) ∧ Below w0.heap.size w0 w' := by
 obtain rfl : ni = its.length := by obtain ⟨pq, cq, hv, _⟩ := h1.l_shape; injection hv with _ e2 _; rw [List.length_map] at e2; exact e2
 refine ent5 Try.func9 rfl Try.ntmps9 fun Az Hz => ?_
 have m0 := (MemOk.start S w0).dat 60 rfl (h1.cast (fun b hb => free_nil (fun _ => hb)))
 have hcap : its.length ≤ ci := by obtain ⟨pq, cq, hv, hcap⟩ := h1.l_shape; injection hv with _ _ e3; rw [List.length_map] at hcap; omega
 have hlen := hs.len
 have hbb := hs.b
 have hTb : T ≤ 256 := plan_T hn1 hbb hT
 refine zsr fun K0 hK0 => ?_
 refine wpList_plain rfl (fun K hK => ?_)
 refine e_box Hz m0 70 (cs := [_, _, _, _, _]) rfl rfl rfl ?_
 clear Hz Az m0; intro g1 Az w2 Hz m2 hB2 hg2
 clear hB2 hg2
 refine hK _ _ ?_; clear hK
 refine goCh Hz (.assign rfl <| .assign rfl <| .nil) ?_
 clear Hz Az; intro Az Hz
 refine znl (hK0 _ _ ?_); clear hK0
 refine wp_seq_k (fun K1 hK1 => ?_)
 refine zsr fun K2 hK2 => ?_
 refine goCh Hz (.loadBR m2 (i := 70) rfl rfl U24 rfl fct2 (by simp) (by dsimp only [List.drop, List.take] <;> rfl) .nil) ?_
 clear Hz Az; intro Az Hz
 refine wpList_plain rfl (fun K hK => ?_)
 refine e_call Hz Try.func25 rfl rfl rfl rfl (sright_yes bl sz fr to its _ _ _ _ ((m2.rd (i := 60) rfl).any) hs) ?_
 rintro e w7 ⟨rfl, hb7⟩
 have m8 := m2.later hb7
 clear m2
 clear hb7
 refine ⟨_, rfl, ?_⟩; clear Hz Az; intro Az Hz
 refine hK _ _ ?_; clear hK
 refine goCh Hz (.not rfl <| .move rfl <| .moveZ rfl <| .lssZ rfl rfl <| .pickF rfl rfl <| .move rfl <| .nil) ?_
 clear Hz Az; intro Az Hz
 refine bool_cases Hz (t := 25) rfl ?_ ?_
 · intro hb _; exact absurd hb (by simp; omega)
 clear Hz; intro _ Hz
 refine goCh Hz (.moveZ rfl <| .gtrZ rfl rfl <| .pickF rfl rfl <| .nil) ?_
 clear Hz Az; intro Az Hz
 refine znl (hK2 _ _ ?_); clear hK2
 refine bool_cases Hz (t := 28) rfl ?_ ?_
 · intro hb _; exact absurd hb (by simp; omega)
 clear Hz; intro _ Hz
 refine wp_cond_false (Hz.ev (x := .tmp 28) rfl) ?_
 refine zss (hK1 _ _ ?_); clear hK1
 refine wp_seq_k (fun K3 hK3 => ?_)
 have hC3 : ∀ (a : Act) (w : World), (∃ (B5 B12 : Nat) (p2 : Option Addr) (c2 : Nat), Has 92 [(1, .int .i64 vo), (4, .int .i64 (n : Int)), (5, .pointer (some ⟨B5, 0, none⟩)), (12, .pointer (some ⟨B12, 0, none⟩))] a ∧ MemOk (cx S w0) w0 [(1, .box B5 24 [.int .i64 bl, .int .i64 sz, .int .i64 fr, .int .i64 to, .slice pi its.length ci]), (2, .box B12 57 [.int .i64 1, .int .i64 vo, .int .i64 bl, .int .i64 sz, .int .i64 pe, .slice p2 pl.length c2, .int .i64 (T : Int), .int .i64 0, .int .i64 0, .slice none 0 0]), (3, .dat (.slice p2 pl.length c2) (.ns .i64 pl)), (60, .dat (.slice pi its.length ci) (.l 2 (its.map itD)))] w) → K3 a w := by
   clear Hz m8
   rintro Az w21 ⟨B5, B12, p2, c2, Hz, m21⟩
   refine hK3 _ _ ?_; clear hK3
   refine wp_seq_k (fun K4 hK4 => ?_)
   refine zsr fun K5 hK5 => ?_
   refine goCh Hz (.loadBR m21 (i := 2) rfl rfl U57 rfl fct1 (by simp) (by dsimp only [List.drop, List.take] <;> rfl) .nil) ?_
   clear Hz Az; intro Az Hz
   refine wpList_plain rfl (fun K hK => ?_)
   refine e_call Hz Try.func26 rfl rfl rfl rfl (vnew_n _ vo bl sz pe _ _ _ pl _ _ _ _ _ _ ((m21.rd (i := 3) rfl).any) (by omega) hN) ?_
   rintro e w24 ⟨rfl, hb24⟩
   have m25 := m21.later hb24
   clear m21
   clear hb24
   refine ⟨_, rfl, ?_⟩; clear Hz Az; intro Az Hz
   refine hK _ _ ?_; clear hK
   refine goCh Hz (.move rfl <| .extract rfl rfl <| .extract rfl rfl <| .nil) ?_
   clear Hz Az; intro Az Hz
   refine wpList_plain rfl (fun K hK => ?_)
   refine e_alloc Hz m25 100 fct6 rfl ?_
   clear Hz Az m25; intro g30 Az w31 Hz m31 hB31 hg31
   clear hB31 hg31
   refine hK _ _ ?_; clear hK
   refine wpList_plain rfl (fun K hK => ?_)
   refine e_storeW Hz m31 100 rfl rfl rfl rfl rfl fct5 ?_
   clear m31; intro w32 m32 hB32
   clear hB32
   refine hK _ _ ?_; clear hK
   refine goCh Hz (.assign rfl .nil) ?_
   clear Hz Az; intro Az Hz
   refine znl (hK5 _ _ ?_); clear hK5
   replace Hz : Has 92 [(1, _), (4, _), (5, _), (12, _), (14, _)] Az := Hz.only [1, 4, 5, 12, 14]
   refine regS Hz (.move rfl <| .neq rfl rfl <| .nil) ?_
   clear Hz Az; intro Az Hz
   refine bool_cases Hz (t := 51) rfl ?_ ?_
   rotate_left
   · intro hb _; exact absurd hb (by simp)
   clear Hz; intro _ Hz
   refine wp_cond_true (Hz.ev (x := .tmp 51) rfl) ?_
   refine regS Hz (.move rfl <| .assign rfl <| .assign rfl <| .nil) ?_
   clear Hz Az; intro Az Hz
   refine wp_ret ?_
   try dsimp only [Exit.then, Exit.inBlock]
   refine (ret2 (fn := Try.f9) Hz rfl rfl rfl ?_)
   exact ⟨rfl, m32.below⟩
 replace Hz : Has 92 [(1, _), (2, _), (3, _), (4, _), (5, _), (10, _), (11, _)] Az := Hz.only [1, 2, 3, 4, 5, 10, 11]
 have m42 : MemOk _ _ [(60, _), (70, _)] _ := m8.only [60, 70]; clear m8
 refine region_p 18 (B := [(60, _), (70, _)]) (m42.to ⟨il, il, trivial⟩) m42 (by kernel_rfl) (fun w43 hP43 m43 => ?_); clear m42
 refine goR hP43 [0, 1, 2, 3, 4, 5, 6, 8, 9, 10, 11, 12, 13, 14] [2, 4, 9] 14 0 32639 Hz (m43.to ⟨il, il, trivial⟩) (.move rfl <| .fa 0 rfl U24 <| .lb hh 70 U3 rfl rfl rfl <| .fa 1 rfl U24 <| .lb hh 70 U3 rfl rfl rfl <| .move rfl <| .move rfl <| .fa 0 rfl U24 <| .lb hh 70 U3 rfl rfl rfl <| .move rfl <| .add rfl rfl (r := bl + (n : Int)) (IntWalk.i64_in _ (by omega)) <| .sub rfl rfl (r := bl + (n : Int) - 1) (IntWalk.i64_in _ (by omega)) <| .move rfl <| .quo rfl rfl (by omega) (r := (T : Int)) (by rw [Int.tdiv_eq_ediv_of_nonneg (by omega), hT]; exact IntWalk.i64_in _ (by omega)) <| .nil) ?_
 clear Hz Az; intro Az Hz
 refine d_two 7 16 rfl rfl (by kernel_rfl) rfl rfl (fun K hK => ?_) (fun K hK => ?_)
 ·
  refine e_app0N Hz m43 71 rfl rfl (h2.now' m43 rfl).ns_out.nums U26 fct3 (by decide) (by omega) rfl ?_
  clear Hz Az m43; intro p58 c58 Az w59 Hz m59
  refine hK _ _ (fun _ => (m59.to ⟨il, il, trivial⟩)) ?_; clear hK K
  refine goA hP43 [15] 1 32767 65535 Hz (m59.to ⟨il, il, trivial⟩) (.build rfl fct7 fl57ipln rfl (by dsimp only [setL, List.set] <;> rfl) <| .nil) ?_
  clear Hz Az; intro Az Hz
  refine stepE_only 16 rfl (by kernel_rfl) rfl (fun K hK => ?_)
  refine e_alloc Hz m59 72 fct7 rfl ?_
  clear Hz Az m59; intro g61 Az w62 Hz m62 hB62 hg62
  clear hB62 hg62
  refine hK _ _ (m62.to ⟨il, il, trivial⟩) ?_; clear hK K
  refine stepE_only 17 rfl (by kernel_rfl) rfl (fun K hK => ?_)
  refine e_storeW Hz m62 72 rfl rfl rfl rfl rfl fct1 ?_
  clear m62; intro w63 m63 hB63
  clear hB63
  refine hK _ _ (m63.to ⟨il, il, trivial⟩) ?_; clear hK K
  refine wpAnyE_done (by kernel_rfl) ?_ _
  have m64 := m63.freezeN 71 rfl; clear m63
  show K3 _ _
  exact hC3 _ _ ⟨_, _, _, _, Hz.only [1, 4, 5, 12], m64.ren [(1, 70), (2, 72), (3, 71), (60, 60)] (by decide)⟩
 refine e_alloc Hz m43 71 fct7 rfl ?_
 clear Hz Az m43; intro g65 Az w66 Hz m66 hB66 hg66
 clear hB66 hg66
 refine hK _ _ (fun _ => (m66.to ⟨il, il, trivial⟩)) ?_; clear hK K
 refine stepE_only 7 rfl (by kernel_rfl) rfl (fun K hK => ?_)
 refine e_app0N Hz m66 72 rfl rfl (h2.now' m66 rfl).ns_out.nums U26 fct3 (by decide) (by omega) rfl ?_
 clear Hz Az m66; intro p67 c67 Az w68 Hz m68
 refine hK _ _ (m68.to ⟨il, il, trivial⟩) ?_; clear hK K
 refine goA hP43 [15] 1 98303 131071 Hz (m68.to ⟨il, il, trivial⟩) (.build rfl fct7 fl57ipln rfl (by dsimp only [setL, List.set] <;> rfl) <| .nil) ?_
 clear Hz Az; intro Az Hz
 refine stepE_only 17 rfl (by kernel_rfl) rfl (fun K hK => ?_)
 refine e_storeW Hz m68 71 rfl rfl rfl rfl rfl fct1 ?_
 clear m68; intro w70 m70 hB70
 clear hB70
 refine hK _ _ (m70.to ⟨il, il, trivial⟩) ?_; clear hK K
 refine wpAnyE_done (by kernel_rfl) ?_ _
 have m71 := m70.freezeN 72 rfl; clear m70
 show K3 _ _
 exact hC3 _ _ ⟨_, _, _, _, Hz.only [1, 4, 5, 12], m71.ren [(1, 70), (2, 71), (3, 72), (60, 60)] (by decide)⟩
end Go.Proofs.Ytkdnhndjjfjppaa.K
