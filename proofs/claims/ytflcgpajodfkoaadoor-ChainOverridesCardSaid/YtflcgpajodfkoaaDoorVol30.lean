/- The reference's TakeItems: some items, eight at most. -/
import Derived.Test.YtflcgpajodfkoaaDoorVol29
import Derived.Test.YtflcgpajodfkoaaDoorVol24
namespace Go.Proofs.YtflcgpajodfkoaaDoor.K
open Go.ChangeShapes Go.WideShapes Go.ChangeAt Go.RowKit
set_option linter.unusedVariables false
set_option linter.unusedSimpArgs false
theorem fl58tI : flatS Tryd.prog 58 [.int .i64 0, .slice none 0 0] = true := by kernel_rfl
theorem its_snoc {es : List (Int × List Int)} {x : Int × List Int} (h : (∀ e ∈ es, e.2.length ≤ 32 ∧ BytesL e.2)) (hx : x.2.length ≤ 32 ∧ BytesL x.2) : ∀ e ∈ es ++ [x], e.2.length ≤ 32 ∧ BytesL e.2 := fun e he => by
 rcases List.mem_append.1 he with h1 | h1
 · exact h e h1
 rw [List.mem_singleton.1 h1]; exact hx
set_option maxRecDepth 100000
set_option maxHeartbeats 4000000
theorem rtakeItems (X : Cx) (B : Nat) (b : List Int) (er : Int) (p : Option Addr) (c : Nat) (w0 : World) (hb : b.length ≤ 1000000) (hbb : BytesL b) (m0 : MemOk X w0 [(1, .box B 111 [.slice p b.length c, .int .i64 er]), (2, .dat (.slice p b.length c) (.ns .u8 b))] w0) :
   Calls Tryd.prog 85 #[.pointer (some ⟨B, 0, none⟩)] w0 fun e w' => ∃ (es : List (Int × List Int)) (b' : List Int) (p' : Option Addr) (c' : Nat) (er' : Int) (p3 : Option Addr) (c3 : Nat), e = .returned (.slice p3 (es.map itD).length c3) ∧ es.length ≤ 8 ∧ (∀ e ∈ es, e.2.length ≤ 32 ∧ BytesL e.2) ∧ b'.length ≤ b.length ∧ BytesL b' ∧ MemOk X w0 [(1, .box B 111 [.slice p' b'.length c', .int .i64 er']), (2, .dat (.slice p' b'.length c') (.ns .u8 b')), (3, .dat (.slice p3 (es.map itD).length c3) (.l 2 (es.map itD)))] w' := by
 refine ent1 Tryd.func85 rfl Tryd.ntmps85 fun Az Hz => ?_
 refine regS Hz (.assign rfl <| .nil) ?_
 clear Hz Az; intro Az Hz
 refine regS Hz (.assign rfl <| .nil) ?_
 clear Hz Az; intro Az Hz
 refine zsr fun K0 hK0 => ?_
 refine goCh Hz (.move rfl .nil) ?_
 clear Hz Az; intro Az Hz
 refine wpList_plain rfl (fun K hK => ?_)
 refine e_call Hz Tryd.func54 rfl rfl rfl rfl (rnum _ _ b _ 8 _ _ _ (by omega) hbb (by decide) (m0.into [(1, 1), (2, 2)] (by decide) rfl)) ?_
 rintro e w5 ⟨un, b2, p5, c5, er5, rfl, huun, hbl2, hbb2, hm5⟩
 have mx5 := m0.back hm5 [(1, 1), (2, 2)] (by decide); clear hm5 m0
 have m5 : MemOk _ _ [(1, _), (2, _)] _ := mx5.only [1, 2]; clear mx5
 refine ⟨_, rfl, ?_⟩; clear Hz Az; intro Az Hz
 refine hK _ _ ?_; clear hK
 refine goCh Hz (.assign rfl .nil) ?_
 clear Hz Az; intro Az Hz
 refine znl (hK0 _ _ ?_); clear hK0
 refine wp_seq_k (fun K1 hK1 => ?_)
 refine regS Hz (.assign rfl <| .nil) ?_
 clear Hz Az; intro Az Hz
 refine wp_block ?_
 refine wp_loop_ghost (fun g a w => ∃ (k : Nat) (es : List (Int × List Int)) (b1 : List Int) (p1 : Option Addr) (c1 : Nat) (er1 : Int) (p3 : Option Addr) (c3 : Nat), (k : Int) ≤ un ∧ g = un.toNat - k ∧ es.length ≤ k ∧ (∀ e ∈ es, e.2.length ≤ 32 ∧ BytesL e.2) ∧ b1.length ≤ b.length ∧ BytesL b1 ∧ Has 33 [(0, .pointer (some ⟨B, 0, none⟩)), (3, .slice p3 (es.map itD).length c3), (4, .int .u64 un), (5, .int .u64 (k : Int))] a ∧ MemOk X w0 [(1, .box B 111 [.slice p1 b1.length c1, .int .i64 er1]), (2, .dat (.slice p1 b1.length c1) (.ns .u8 b1)), (9, .row (.slice p3 (es.map itD).length c3) 58 2 (es.map itD))] w) (un.toNat) ?_ ?_
 · have mz := m5.nilR 9 58 2
   exact ⟨0, [], b2, _, _, _, _, _, by omega, rfl, Nat.le_refl _, (fun e h => by cases h), hbl2, hbb2, Hz.only [0, 3, 4, 5], mz.only [1, 2, 9]⟩
 clear Hz m5
 rintro g Az w9 ⟨k, es, b1, p1, c1, er1, p3, c3, hku, hg, hel, hes, hbl1, hbb1, Hz, m9⟩
 refine wp_seq_k (fun K2 hK2 => ?_)
 refine zsr fun K3 hK3 => ?_
 refine goCh Hz (.move rfl <| .move rfl <| .lss rfl rfl <| .move rfl <| .nil) ?_
 clear Hz Az; intro Az Hz
 refine bool_cases Hz (t := 12) rfl ?_ ?_
 ·
  clear Hz; intro hb18 Hz; try simp only [QQ, Qax] at hb18
  refine goCh Hz (.moveZ rfl <| .nilCheckZ rfl <| .faZ 1 rfl U111 <| .loadB1Z m9 (i := 1) rfl rfl rfl U3 rfl <| .eqlZ rfl rfl <| .pickT rfl rfl <| .nil) ?_
  clear Hz Az; intro Az Hz
  refine znl (hK3 _ _ ?_); clear hK3
  refine bool_cases Hz (t := 18) rfl ?_ ?_
  ·
   clear Hz; intro hb25 Hz; try simp only [QQ, Qax] at hb25
   refine wp_cond_true (Hz.ev (x := .tmp 18) rfl) ?_
   refine zss (hK2 _ _ ?_); clear hK2
   refine wp_seq_k (fun K4 hK4 => ?_)
   refine wp_block ?_
   replace Hz : Has 33 [(0, _), (3, _), (4, _), (5, _)] Az := Hz.only [0, 3, 4, 5]
   refine zsr fun K5 hK5 => ?_
   refine goCh Hz (.move rfl .nil) ?_
   clear Hz Az; intro Az Hz
   refine wpList_plain rfl (fun K hK => ?_)
   refine e_call Hz Tryd.func54 rfl rfl rfl rfl (rnum _ _ b1 _ 256 _ _ _ (by omega) hbb1 (by decide) (m9.into [(1, 1), (2, 2)] (by decide) rfl)) ?_
   rintro e w29 ⟨uv, b3, p29, c29, er29, rfl, huuv, hbl3, hbb3, hm29⟩
   have mx29 := m9.back hm29 [(1, 1), (2, 2)] (by decide); clear hm29 m9
   have m29 : MemOk _ _ [(1, _), (2, _), (9, _)] _ := mx29.only [1, 2, 9]; clear mx29
   refine ⟨_, rfl, ?_⟩; clear Hz Az; intro Az Hz
   refine hK _ _ ?_; clear hK
   refine goCh Hz (.conv rfl U71 U3 (r := uv) (IntWalk.i64_in _ (by omega)) <| .assign rfl <| .nil) ?_
   clear Hz Az; intro Az Hz
   refine znl (hK5 _ _ ?_); clear hK5
   refine wp_region_lit ?_
   refine goCh Hz (.move rfl <| .move rfl <| .move rfl <| .nil) ?_
   clear Hz Az; intro Az Hz
   refine wpList_plain rfl (fun K hK => ?_)
   refine e_call Hz Tryd.func96 rfl rfl rfl rfl (rlumpR _ _ b3 _ 32 _ _ _ (by omega) hbb3 (by decide) (m29.into [(1, 1), (2, 2)] (by decide) rfl)) ?_
   rintro e w36 ⟨xd, b4, p36, c36, er36, p336, c336, rfl, hxd, hbxd, hbl4, hbb4, hm36⟩
   have mx36 := m29.back hm36 [(1, 1), (2, 2), (100, 3)] (by decide); clear hm36 m29
   have m36 : MemOk _ _ [(1, _), (2, _), (100, _), (9, _)] _ := mx36.only [1, 2, 100, 9]; clear mx36
   refine ⟨_, rfl, ?_⟩; clear Hz Az; intro Az Hz
   refine hK _ _ ?_; clear hK
   refine wpList_plain rfl (fun K hK => ?_)
   refine e_app0N Hz m36 101 rfl rfl (m36.nums (i := 100) rfl) U22 fct0 (by decide) (by omega) rfl ?_
   clear Hz Az m36; intro p38 c38 Az w39 Hz m39
   refine hK _ _ ?_; clear hK
   refine goCh Hz (.build rfl fct3 fl58tI rfl (by dsimp only [setL, List.set] <;> rfl) .nil) ?_
   clear Hz Az; intro Az Hz
   have m42 := m39.freezeN 101 rfl; clear m39
   refine wpList_plain rfl (fun K hK => ?_)
   refine e_litR Hz m42 102 (mm := 2) rfl (.cons rfl rfl (.cons (.v _) (.cons (m42.rd (i := 101) rfl) .nil)) <| .nil) U33 fct4 rfl rfl rfl rfl rfl ?_
   clear Hz Az m42; intro g41 Az w43 Hz m43
   refine hK _ _ ?_; clear hK
   have m45 := m43.freezeR 102 rfl; clear m43
   refine wpList_plain rfl (fun K hK => ?_)
   refine e_appR Hz m45 9 rfl rfl rfl (m45.rd (i := 102) rfl) U33 fct4 rfl rfl (by decide) (by simp; omega) rfl ?_
   clear Hz Az m45; intro p44 c44 Az w46 Hz m46
   refine hK _ _ ?_; clear hK
   refine goCh Hz (.assign rfl .nil) ?_
   clear Hz Az; intro Az Hz
   refine znl (hK4 _ _ ?_); clear hK4
   replace Hz : Has 33 [(0, _), (3, _), (4, _), (5, _)] Az := Hz.only [0, 3, 4, 5]
   refine wp_region_lit ?_
   refine goCh Hz (.move rfl <| .add rfl rfl (r := ((k + 1 : Nat) : Int)) (by rw [IntWalk.u64_in _ (by omega)]; omega) <| .assign rfl <| .nil) ?_
   clear Hz Az; intro Az Hz
   refine wpList_nil ?_
   show ∃ n', n' < _ ∧ _
   have hE : es.map itD ++ [[D.v (.int .i64 uv), .ns .u8 xd]] = (es ++ [(uv, xd)]).map itD := by rw [List.map_append]; rfl
   rw [hE] at m46 Hz
   exact ⟨un.toNat - (k + 1), by omega, k + 1, es ++ [(uv, xd)], b4, _, _, _, _, _, by omega, rfl, by simp; omega, its_snoc hes ⟨by have := hxd; simp only; omega, hbxd⟩, by omega, hbb4, Hz.only [0, 3, 4, 5], m46.only [1, 2, 9]⟩
  clear Hz; intro hb25 Hz; try simp only [QQ, Qax] at hb25
  refine wp_cond_false (Hz.ev (x := .tmp 18) rfl) ?_
  refine wp_exit ?_
  refine hK1 _ _ ?_; clear hK1
  replace Hz : Has 33 [(0, _), (3, _), (4, _), (5, _)] Az := Hz.only [0, 3, 4, 5]
  refine regS Hz (.move rfl <| .assign rfl <| .nil) ?_
  clear Hz Az; intro Az Hz
  refine wp_ret ?_
  try dsimp only [Exit.then, Exit.inBlock]
  refine (ret1 (fn := Tryd.f85) Hz rfl rfl ?_)
  have m55 := m9.freezeR 9 rfl; clear m9
  exact ⟨es, b1, _, _, _, _, _, rfl, by omega, hes, hbl1, hbb1, m55.ren [(1, 1), (2, 2), (3, 9)] (by decide)⟩
 clear Hz; intro hb18 Hz; try simp only [QQ, Qax] at hb18
 refine goCh Hz (.sk <| .sk <| .sk <| .sk <| .sk <| .pickF rfl rfl <| .nil) ?_
 clear Hz Az; intro Az Hz
 refine znl (hK3 _ _ ?_); clear hK3
 refine wp_cond_false (Hz.ev (x := .tmp 18) rfl) ?_
 refine wp_exit ?_
 refine hK1 _ _ ?_; clear hK1
 replace Hz : Has 33 [(0, _), (3, _), (4, _), (5, _)] Az := Hz.only [0, 3, 4, 5]
 refine regS Hz (.move rfl <| .assign rfl <| .nil) ?_
 clear Hz Az; intro Az Hz
 refine wp_ret ?_
 try dsimp only [Exit.then, Exit.inBlock]
 refine (ret1 (fn := Tryd.f85) Hz rfl rfl ?_)
 have m65 := m9.freezeR 9 rfl; clear m9
 exact ⟨es, b1, _, _, _, _, _, rfl, by omega, hes, hbl1, hbb1, m65.ren [(1, 1), (2, 2), (3, 9)] (by decide)⟩
end Go.Proofs.YtflcgpajodfkoaaDoor.K
