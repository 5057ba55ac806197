/- The reference's takePlace: some groups, 256 at most. -/
import Derived.Test.YtflcgpajodfkoaaDoorVol27
namespace Go.Proofs.YtflcgpajodfkoaaDoor.K
open Go.ChangeShapes Go.WideShapes Go.ChangeAt Go.RowKit
set_option linter.unusedVariables false
set_option linter.unusedSimpArgs false
set_option maxRecDepth 100000
set_option maxHeartbeats 4000000
theorem rtakePlace (X : Cx) (B : Nat) (b : List Int) (er : Int) (p : Option Addr) (c : Nat) (w0 : World) (hb : b.length ≤ 1000000) (hbb : BytesL b) (m0 : MemOk X w0 [(1, .box B 111 [.slice p b.length c, .int .i64 er]), (2, .dat (.slice p b.length c) (.ns .u8 b))] w0) :
   Calls Tryd.prog 84 #[.pointer (some ⟨B, 0, none⟩)] w0 fun e w' => ∃ (pl b' : List Int) (p' : Option Addr) (c' : Nat) (er' : Int) (p3 : Option Addr) (c3 : Nat), e = .returned (.slice p3 pl.length c3) ∧ pl.length ≤ 256 ∧ b'.length ≤ b.length ∧ BytesL b' ∧ MemOk X w0 [(1, .box B 111 [.slice p' b'.length c', .int .i64 er']), (2, .dat (.slice p' b'.length c') (.ns .u8 b')), (3, .dat (.slice p3 pl.length c3) (.ns .i64 pl))] w' := by
 refine ent1 Tryd.func84 rfl Tryd.ntmps84 fun Az Hz => ?_
 refine regS Hz (.assign rfl <| .nil) ?_
 clear Hz Az; intro Az Hz
 refine regS Hz (.assign rfl <| .nil) ?_
 clear Hz Az; intro Az Hz
 refine zsr fun K0 hK0 => ?_
 refine goCh Hz (.move rfl .nil) ?_
 clear Hz Az; intro Az Hz
 refine wpList_plain rfl (fun K hK => ?_)
 refine e_call Hz Tryd.func54 rfl rfl rfl rfl (rnum _ _ b _ 256 _ _ _ (by omega) hbb (by decide) (m0.into [(1, 1), (2, 2)] (by decide) rfl)) ?_
 rintro e w5 ⟨un, b2, p5, c5, er5, rfl, huun, hbl2, hbb2, hm5⟩
 have mx5 := m0.back hm5 [(1, 1), (2, 2)] (by decide); clear hm5 m0
 have m5 : MemOk _ _ [(1, _), (2, _)] _ := mx5.only [1, 2]; clear mx5
 refine ⟨_, rfl, ?_⟩; clear Hz Az; intro Az Hz
 refine hK _ _ ?_; clear hK
 refine goCh Hz (.assign rfl .nil) ?_
 clear Hz Az; intro Az Hz
 refine znl (hK0 _ _ ?_); clear hK0
 refine wp_seq_k (fun K1 hK1 => ?_)
 refine regS Hz (.assign rfl <| .nil) ?_
 clear Hz Az; intro Az Hz
 refine wp_block ?_
 refine wp_loop_ghost (fun g a w => ∃ (k : Nat) (pl b1 : List Int) (p1 : Option Addr) (c1 : Nat) (er1 : Int) (p3 : Option Addr) (c3 : Nat), (k : Int) ≤ un ∧ g = un.toNat - k ∧ pl.length ≤ k ∧ b1.length ≤ b.length ∧ BytesL b1 ∧ Has 27 [(0, .pointer (some ⟨B, 0, none⟩)), (3, .slice p3 pl.length c3), (4, .int .u64 un), (5, .int .u64 (k : Int))] a ∧ MemOk X w0 [(1, .box B 111 [.slice p1 b1.length c1, .int .i64 er1]), (2, .dat (.slice p1 b1.length c1) (.ns .u8 b1)), (9, .num (.slice p3 pl.length c3) 3 .i64 pl)] w) (un.toNat) ?_ ?_
 · have mz := m5.nilN 9 3 .i64
   exact ⟨0, [], b2, _, _, _, _, _, by omega, rfl, Nat.le_refl _, hbl2, hbb2, Hz.only [0, 3, 4, 5], mz.only [1, 2, 9]⟩
 clear Hz m5
 rintro g Az w9 ⟨k, pl, b1, p1, c1, er1, p3, c3, hku, hg, hpl, hbl1, hbb1, Hz, m9⟩
 refine wp_seq_k (fun K2 hK2 => ?_)
 refine zsr fun K3 hK3 => ?_
 refine goCh Hz (.move rfl <| .move rfl <| .lss rfl rfl <| .move rfl <| .nil) ?_
 clear Hz Az; intro Az Hz
 refine bool_cases Hz (t := 11) rfl ?_ ?_
 ·
  clear Hz; intro hb18 Hz; try simp only [QQ, Qax] at hb18
  refine goCh Hz (.moveZ rfl <| .nilCheckZ rfl <| .faZ 1 rfl U111 <| .loadB1Z m9 (i := 1) rfl rfl rfl U3 rfl <| .eqlZ rfl rfl <| .pickT rfl rfl <| .nil) ?_
  clear Hz Az; intro Az Hz
  refine znl (hK3 _ _ ?_); clear hK3
  refine bool_cases Hz (t := 17) rfl ?_ ?_
  ·
   clear Hz; intro hb25 Hz; try simp only [QQ, Qax] at hb25
   refine wp_cond_true (Hz.ev (x := .tmp 17) rfl) ?_
   refine zss (hK2 _ _ ?_); clear hK2
   refine wp_seq_k (fun K4 hK4 => ?_)
   refine wp_block ?_
   replace Hz : Has 27 [(0, _), (3, _), (4, _), (5, _)] Az := Hz.only [0, 3, 4, 5]
   refine wp_region_lit ?_
   refine goCh Hz (.move rfl <| .move rfl <| .nil) ?_
   clear Hz Az; intro Az Hz
   refine wpList_plain rfl (fun K hK => ?_)
   refine e_call Hz Tryd.func54 rfl rfl rfl rfl (rnum _ _ b1 _ 8 _ _ _ (by omega) hbb1 (by decide) (m9.into [(1, 1), (2, 2)] (by decide) rfl)) ?_
   rintro e w29 ⟨uv, b2, p29, c29, er29, rfl, huuv, hbl2, hbb2, hm29⟩
   have mx29 := m9.back hm29 [(1, 1), (2, 2)] (by decide); clear hm29 m9
   have m29 : MemOk _ _ [(1, _), (2, _), (9, _)] _ := mx29.only [1, 2, 9]; clear mx29
   refine ⟨_, rfl, ?_⟩; clear Hz Az; intro Az Hz
   refine hK _ _ ?_; clear hK
   refine goCh Hz (.conv rfl U71 U3 (r := uv) (IntWalk.i64_in _ (by omega)) .nil) ?_
   clear Hz Az; intro Az Hz
   refine wpList_plain rfl (fun K hK => ?_)
   refine e_litN Hz m29 100 (k := .i64) rfl rfl U26 fct9 rfl rfl rfl rfl ?_
   clear Hz Az m29; intro g32 Az w33 Hz m33
   refine hK _ _ ?_; clear hK
   refine wpList_plain rfl (fun K hK => ?_)
   refine e_appN Hz m33 9 rfl rfl rfl (m33.numsO (i := 100) rfl) U26 fct9 (by decide) (by simp; omega) rfl ?_
   clear Hz Az m33; intro p34 c34 Az w35 Hz m35
   refine hK _ _ ?_; clear hK
   refine goCh Hz (.assign rfl .nil) ?_
   clear Hz Az; intro Az Hz
   refine znl (hK4 _ _ ?_); clear hK4
   replace Hz : Has 27 [(0, _), (3, _), (4, _), (5, _)] Az := Hz.only [0, 3, 4, 5]
   refine wp_region_lit ?_
   refine goCh Hz (.move rfl <| .add rfl rfl (r := ((k + 1 : Nat) : Int)) (by rw [IntWalk.u64_in _ (by omega)]; omega) <| .assign rfl <| .nil) ?_
   clear Hz Az; intro Az Hz
   refine wpList_nil ?_
   show ∃ n', n' < _ ∧ _
   exact ⟨un.toNat - (k + 1), by omega, k + 1, _, b2, _, _, _, _, _, by omega, rfl, by simp; omega, by omega, hbb2, Hz.only [0, 3, 4, 5], m35.only [1, 2, 9]⟩
  clear Hz; intro hb25 Hz; try simp only [QQ, Qax] at hb25
  refine wp_cond_false (Hz.ev (x := .tmp 17) rfl) ?_
  refine wp_exit ?_
  refine hK1 _ _ ?_; clear hK1
  replace Hz : Has 27 [(0, _), (3, _), (4, _), (5, _)] Az := Hz.only [0, 3, 4, 5]
  refine regS Hz (.move rfl <| .assign rfl <| .nil) ?_
  clear Hz Az; intro Az Hz
  refine wp_ret ?_
  try dsimp only [Exit.then, Exit.inBlock]
  refine (ret1 (fn := Tryd.f84) Hz rfl rfl ?_)
  have m44 := m9.freezeN 9 rfl; clear m9
  exact ⟨pl, b1, _, _, _, _, _, rfl, by omega, hbl1, hbb1, m44.ren [(1, 1), (2, 2), (3, 9)] (by decide)⟩
 clear Hz; intro hb18 Hz; try simp only [QQ, Qax] at hb18
 refine goCh Hz (.sk <| .sk <| .sk <| .sk <| .sk <| .pickF rfl rfl <| .nil) ?_
 clear Hz Az; intro Az Hz
 refine znl (hK3 _ _ ?_); clear hK3
 refine wp_cond_false (Hz.ev (x := .tmp 17) rfl) ?_
 refine wp_exit ?_
 refine hK1 _ _ ?_; clear hK1
 replace Hz : Has 27 [(0, _), (3, _), (4, _), (5, _)] Az := Hz.only [0, 3, 4, 5]
 refine regS Hz (.move rfl <| .assign rfl <| .nil) ?_
 clear Hz Az; intro Az Hz
 refine wp_ret ?_
 try dsimp only [Exit.then, Exit.inBlock]
 refine (ret1 (fn := Tryd.f84) Hz rfl rfl ?_)
 have m54 := m9.freezeN 9 rfl; clear m9
 exact ⟨pl, b1, _, _, _, _, _, rfl, by omega, hbl1, hbb1, m54.ren [(1, 1), (2, 2), (3, 9)] (by decide)⟩
end Go.Proofs.YtflcgpajodfkoaaDoor.K
