/- The reference's PutCmd gives some bytes. -/
import Derived.Test.YtflcgpajodfkoaaDoorVol25
namespace Go.Proofs.YtflcgpajodfkoaaDoor.K
open Go.ChangeShapes Go.WideShapes Go.ChangeAt Go.RowKit
set_option linter.unusedVariables false
set_option linter.unusedSimpArgs false
set_option maxRecDepth 100000
set_option maxHeartbeats 4000000
theorem rputCmd (kd vo bl sz pe to at0 ix : Int) (place : List Int) (items : List (Int × List Int)) (pp pi : Option Addr) (cp ni ci : Nat) (w0 : World) (h0 : Rd (fun _ => True) w0 (.slice pp place.length cp) (.ns .i64 place)) (h1 : Rd (fun _ => True) w0 (.slice pi ni ci) (.l 2 (items.map itD))) (hp : place.length ≤ 1000000) (hl : items.length ≤ 1000000) (hib : ∀ e ∈ items, BytesL e.2) :
   Calls Tryd.prog 39 #[.agg #[.int .i64 kd, .int .i64 vo, .int .i64 bl, .int .i64 sz, .int .i64 pe, .slice pp place.length cp, .int .i64 to, .int .i64 at0, .int .i64 ix, .slice pi ni ci]] w0 fun e w' => ∃ (b : List Int) (p : Option Addr) (c : Nat) (e9 : Int), e = .returned (.tuple #[.slice p b.length c, .int .i64 e9]) ∧ b.length ≤ 20000 ∧ BytesL b ∧ Rd (New w0) w' (.slice p b.length c) (.ns .u8 b) ∧ Below w0.heap.size w0 w' := by
 obtain rfl : ni = items.length := by obtain ⟨pq, c9, hv, _⟩ := h1.l_shape; injection hv with _ e2 _; rw [List.length_map] at e2; exact e2
 refine ent1 Tryd.func39 rfl Tryd.ntmps39 fun Az Hz => ?_
 have m0 := MemOk.start (fun _ => False) w0
 refine zsr fun K0 hK0 => ?_
 refine wpList_plain rfl (fun K hK => ?_)
 refine e_box Hz m0 20 (cs := [_, _, _, _, _, _, _, _, _, _]) rfl rfl rfl ?_
 clear Hz Az m0; intro g1 Az w2 Hz m2 hB2 hg2
 clear hB2 hg2
 refine hK _ _ ?_; clear hK
 refine goCh Hz (.assign rfl <| .assign rfl <| .nil) ?_
 clear Hz Az; intro Az Hz
 refine znl (hK0 _ _ ?_); clear hK0
 refine wp_seq_k (fun K1 hK1 => ?_)
 refine zsr fun K2 hK2 => ?_
 refine goCh Hz (.loadBR m2 (i := 20) rfl rfl U87 rfl fct11 (by simp) (by dsimp only [List.drop, List.take] <;> rfl) .nil) ?_
 clear Hz Az; intro Az Hz
 refine wpList_plain rfl (fun K hK => ?_)
 refine e_call Hz Tryd.func58 rfl rfl rfl rfl (rcmdRight _ _ _ _ _ _ _ _ place items _ _ _ _ _ _ ((h0.now' m2 rfl).any) ((h1.now' m2 rfl).any) hp hl) ?_
 rintro e w7 ⟨cb, rfl, hcb, hb7⟩
 have m8 := m2.later hb7
 clear m2
 clear hb7
 refine ⟨_, rfl, ?_⟩; clear Hz Az; intro Az Hz
 refine hK _ _ ?_; clear hK
 refine goCh Hz (.not rfl .nil) ?_
 clear Hz Az; intro Az Hz
 refine znl (hK2 _ _ ?_); clear hK2
 refine bool_cases Hz (t := 7) rfl ?_ ?_
 ·
  clear Hz; intro hb11 Hz; try simp only [QQ, Qax] at hb11
  refine wp_cond_true (Hz.ev (x := .tmp 7) rfl) ?_
  refine regS Hz (.assign rfl <| .assign rfl <| .nil) ?_
  clear Hz Az; intro Az Hz
  refine wp_ret ?_
  try dsimp only [Exit.then, Exit.inBlock]
  refine (ret2 (fn := Tryd.f39) Hz rfl rfl rfl ?_)
  exact ⟨[], none, 0, 23, rfl, by simp, (fun _ h => by cases h), Rd.nilN _ _ .u8 none, m8.below⟩
 clear Hz; intro hb11 Hz; try simp only [QQ, Qax] at hb11
 have hcc := hcb (by simp_all)
 refine wp_cond_false (Hz.ev (x := .tmp 7) rfl) ?_
 refine zss (hK1 _ _ ?_); clear hK1
 refine zsr fun K3 hK3 => ?_
 refine goCh Hz (.fa 0 rfl U87 <| .lb m8 20 U3 rfl rfl rfl <| .fa 1 rfl U87 <| .lb m8 20 U3 rfl rfl rfl <| .fa 2 rfl U87 <| .lb m8 20 U3 rfl rfl rfl <| .fa 3 rfl U87 <| .lb m8 20 U3 rfl rfl rfl <| .fa 4 rfl U87 <| .lb m8 20 U3 rfl rfl rfl <| .fa 6 rfl U87 <| .lb m8 20 U3 rfl rfl rfl <| .fa 7 rfl U87 <| .lb m8 20 U2 rfl rfl rfl <| .fa 8 rfl U87 <| .lb m8 20 U3 rfl rfl rfl <| .nil) ?_
 clear Hz Az; intro Az Hz
 refine wpList_plain rfl (fun K hK => ?_)
 refine e_litN Hz m8 21 (k := .i64) rfl rfl U27 fct22 rfl rfl rfl rfl ?_
 clear Hz Az m8; intro g46 Az w47 Hz m47
 refine hK _ _ ?_; clear hK
 have m48 := m47.freezeN 21 rfl; clear m47
 refine wpList_plain rfl (fun K hK => ?_)
 refine e_call Hz Tryd.func59 rfl rfl rfl rfl (rnums16 [kd, vo, bl, sz, pe, to, at0, ix] _ _ _ ((m48.rd (i := 21) rfl).any) (by simp)) ?_
 rintro e w49 ⟨d0, p49, c49, rfl, hld0, hbd0, ho49, hb49⟩
 have m50 := m48.newN 22 hb49 ho49
 clear m48
 clear hb49 ho49
 refine ⟨_, rfl, ?_⟩; clear Hz Az; intro Az Hz
 refine hK _ _ ?_; clear hK
 refine goCh Hz (.assign rfl .nil) ?_
 clear Hz Az; intro Az Hz
 refine znl (hK3 _ _ ?_); clear hK3
 refine wp_seq_k (fun K4 hK4 => ?_)
 replace Hz : Has 35 [(1, _), (2, _), (3, _), (4, _)] Az := Hz.only [1, 2, 3, 4]
 have m54 : MemOk _ _ [(20, _), (21, _), (22, _)] _ := m50.only [20, 21, 22]; clear m50
 refine region_p 11 (B := [(20, _)]) (m54.to ⟨il, trivial⟩) m54 (by kernel_rfl) (fun w55 hP55 m55 => ?_); clear m54
 refine goR hP55 [0, 1, 2, 5, 6] [2, 6] 5 0 103 Hz (m55.to ⟨il, trivial⟩) (.move rfl <| .fa 5 rfl U87 <| .lb hh 20 U26 rfl rfl rfl <| .fa 9 rfl U87 <| .lb hh 20 U33 rfl rfl rfl <| .nil) ?_
 clear Hz Az; intro Az Hz
 refine stepE_only 3 rfl (by kernel_rfl) rfl (fun K hK => ?_)
 refine e_call Hz Tryd.func60 rfl rfl rfl rfl (rplace place _ _ _ ((h0.now' m55 rfl).any) hp) ?_
 rintro e w61 ⟨d1, p61, c61, rfl, hld1, hbd1, ho61, hb61⟩
 have m62 := m55.newN 23 hb61 ho61
 clear m55
 clear hb61 ho61
 refine ⟨_, rfl, ?_⟩; clear Hz Az; intro Az Hz
 refine hK _ _ (m62.to ⟨il, trivial⟩) ?_; clear hK K
 refine stepE_only 4 rfl (by kernel_rfl) rfl (fun K hK => ?_)
 refine e_appN Hz m62 22 rfl rfl rfl (m62.numsO (i := 23) rfl) U22 fct0 (by decide) (by simp at hld0; omega) rfl ?_
 clear Hz Az m62; intro p64 c64 Az w65 Hz m65
 refine hK _ _ (m65.to ⟨il, trivial⟩) ?_; clear hK K
 refine stepE_only 7 rfl (by kernel_rfl) rfl (fun K hK => ?_)
 refine e_call Hz Tryd.func61 rfl rfl rfl rfl (rputItems items _ _ _ _ ((h1.now' m65 rfl).any) (by omega) (fun e he => ⟨by have := hcc.2.2 e he; omega, hib e he⟩)) ?_
 rintro e w66 ⟨d2, p66, c66, rfl, hld2, hbd2, ho66, hb66⟩
 have m67 := m65.newN 24 hb66 ho66
 clear m65
 clear hb66 ho66
 refine ⟨_, rfl, ?_⟩; clear Hz Az; intro Az Hz
 refine hK _ _ (m67.to ⟨il, trivial⟩) ?_; clear hK K
 refine stepE_only 8 rfl (by kernel_rfl) rfl (fun K hK => ?_)
 refine e_appN Hz m67 22 rfl rfl rfl (m67.numsO (i := 24) rfl) U22 fct0 (by decide) (by simp at hld0 ⊢; omega) rfl ?_
 clear Hz Az m67; intro p69 c69 Az w70 Hz m70
 refine hK _ _ (m70.to ⟨il, trivial⟩) ?_; clear hK K
 refine goA hP55 [9, 10] 2 511 2047 Hz (m70.to ⟨il, trivial⟩) (.assign rfl <| .assign rfl <| .nil) ?_
 clear Hz Az; intro Az Hz
 refine wpAnyE_done (by kernel_rfl) ?_ _
 refine hK4 _ _ ?_; clear hK4
 refine wp_ret ?_
 try dsimp only [Exit.then, Exit.inBlock]
 refine (ret2 (fn := Tryd.f39) Hz rfl rfl rfl ?_)
 have m73 := m70.freezeN 22 rfl; clear m70
 exact ⟨d0 ++ d1 ++ d2, _, _, 0, rfl, by simp at hld0 ⊢; omega, bytes_app (bytes_app hbd0 hbd1) hbd2, m73.outF (i := 22) rfl, m73.below⟩
end Go.Proofs.YtflcgpajodfkoaaDoor.K
