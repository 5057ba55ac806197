/- The reference's Reader: a lump, not longer than a bound. -/
import Derived.Test.YtflcgpajodfkoaaDoorVol28
namespace Go.Proofs.YtflcgpajodfkoaaDoor.K
open Go.ChangeShapes Go.WideShapes Go.ChangeAt Go.RowKit
set_option linter.unusedVariables false
set_option linter.unusedSimpArgs false
set_option maxRecDepth 100000
set_option maxHeartbeats 4000000
theorem rlumpR (X : Cx) (B : Nat) (b : List Int) (er mx : Int) (p : Option Addr) (c : Nat) (w0 : World) (hb : b.length ≤ 1000000) (hbb : BytesL b) (hmx : 0 ≤ mx ∧ mx ≤ 1000000) (m0 : MemOk X w0 [(1, .box B 111 [.slice p b.length c, .int .i64 er]), (2, .dat (.slice p b.length c) (.ns .u8 b))] w0) :
   Calls Tryd.prog 96 #[.pointer (some ⟨B, 0, none⟩), .int .i64 mx] w0 fun e w' => ∃ (d b' : List Int) (p' : Option Addr) (c' : Nat) (er' : Int) (p3 : Option Addr) (c3 : Nat), e = .returned (.slice p3 d.length c3) ∧ (d.length : Int) ≤ mx ∧ BytesL d ∧ b'.length ≤ b.length ∧ BytesL b' ∧ MemOk X w0 [(1, .box B 111 [.slice p' b'.length c', .int .i64 er']), (2, .dat (.slice p' b'.length c') (.ns .u8 b')), (3, .dat (.slice p3 d.length c3) (.ns .u8 d))] w' := by
 refine ent2 Tryd.func96 rfl Tryd.ntmps96 fun Az Hz => ?_
 refine regS Hz (.assign rfl <| .nil) ?_
 clear Hz Az; intro Az Hz
 refine zsr fun K0 hK0 => ?_
 refine goCh Hz (.move rfl <| .move rfl <| .c rfl (fun _ h => y_max h rfl rfl (r := mx) (by omega)) <| .conv rfl U3 U71 (r := mx) (IntWalk.u64_in _ (by omega)) <| .nil) ?_
 clear Hz Az; intro Az Hz
 refine wpList_plain rfl (fun K hK => ?_)
 refine e_call Hz Tryd.func54 rfl rfl rfl rfl (rnum _ _ b _ mx _ _ _ hb hbb hmx.1 (m0.into [(1, 1), (2, 2)] (by decide) rfl)) ?_
 rintro e w10 ⟨u, b2, p10, c10, er10, rfl, hu, hbl2, hbb2, hm10⟩
 have mx10 := m0.back hm10 [(1, 1), (2, 2)] (by decide); clear hm10 m0
 have m10 : MemOk _ _ [(1, _), (2, _)] _ := mx10.only [1, 2]; clear mx10
 refine ⟨_, rfl, ?_⟩; clear Hz Az; intro Az Hz
 refine hK _ _ ?_; clear hK
 refine goCh Hz (.assign rfl .nil) ?_
 clear Hz Az; intro Az Hz
 refine znl (hK0 _ _ ?_); clear hK0
 refine wp_seq_k (fun K1 hK1 => ?_)
 replace Hz : Has 43 [(0, _), (4, _), (5, _)] Az := Hz.only [0, 4, 5]
 refine regS Hz (.move rfl <| .nilCheck rfl <| .fa 1 rfl U111 <| .lb m10 1 U3 rfl rfl rfl <| .neq rfl rfl <| .nil) ?_
 clear Hz Az; intro Az Hz
 refine bool_cases Hz (t := 16) rfl ?_ ?_
 ·
  clear Hz; intro hb19 Hz; try simp only [QQ, Qax] at hb19
  refine wp_cond_true (Hz.ev (x := .tmp 16) rfl) ?_
  refine regS Hz (.assign rfl <| .nil) ?_
  clear Hz Az; intro Az Hz
  refine wp_ret ?_
  try dsimp only [Exit.then, Exit.inBlock]
  refine (ret1 (fn := Tryd.f96) Hz rfl rfl ?_)
  have m21 := m10.dat 20 rfl (Rd.nilN _ _ .u8 none); clear m10
  exact ⟨[], b2, _, _, _, _, _, rfl, by simpa using hmx.1, (fun _ h => by cases h), hbl2, hbb2, m21.ren [(1, 1), (2, 2), (3, 20)] (by decide)⟩
 clear Hz; intro hb19 Hz; try simp only [QQ, Qax] at hb19
 refine wp_cond_false (Hz.ev (x := .tmp 16) rfl) ?_
 refine zss (hK1 _ _ ?_); clear hK1
 refine wp_seq_k (fun K2 hK2 => ?_)
 refine regS Hz (.move rfl <| .move rfl <| .nilCheck rfl <| .fa 0 rfl U111 <| .lb m10 1 U22 rfl rfl rfl <| .len rfl U22 <| .conv rfl U3 U71 (r := (b2.length : Int)) (IntWalk.u64_in _ (by omega)) <| .gtr rfl rfl <| .nil) ?_
 clear Hz Az; intro Az Hz
 refine bool_cases Hz (t := 24) rfl ?_ ?_
 ·
  clear Hz; intro hb30 Hz; try simp only [QQ, Qax] at hb30
  refine wp_cond_true (Hz.ev (x := .tmp 24) rfl) ?_
  replace Hz : Has 43 [(0, _), (4, _), (5, _)] Az := Hz.only [0, 4, 5]
  refine zsr fun K3 hK3 => ?_
  refine goCh Hz (.move rfl .nil) ?_
  clear Hz Az; intro Az Hz
  refine wpList_plain rfl (fun K hK => ?_)
  refine e_call Hz Tryd.func79 rfl rfl rfl rfl (rfail _ _ _ _ _ _ (m10.into [(1, 1)] (by decide) rfl)) ?_
  rintro e w34 ⟨rfl, hm34⟩
  have mx34 := m10.back hm34 [(1, 1)] (by decide); clear hm34 m10
  have m34 : MemOk _ _ [(1, _), (2, _)] _ := mx34.only [1, 2]; clear mx34
  refine ⟨_, rfl, ?_⟩; clear Hz Az; intro Az Hz
  refine hK _ _ ?_; clear hK
  refine znl (hK3 _ _ ?_); clear hK3
  refine regS Hz (.assign rfl <| .nil) ?_
  clear Hz Az; intro Az Hz
  refine wp_ret ?_
  try dsimp only [Exit.then, Exit.inBlock]
  refine (ret1 (fn := Tryd.f96) Hz rfl rfl ?_)
  have m37 := m34.dat 20 rfl (Rd.nilN _ _ .u8 none); clear m34
  have m38 := m37.dat 21 rfl (Rd.nilN _ _ .u8 none); clear m37
  exact ⟨[], [], _, _, _, _, _, rfl, by simpa using hmx.1, (fun _ h => by cases h), by simp, (fun _ h => by cases h), m38.ren [(1, 1), (2, 21), (3, 20)] (by decide)⟩
 clear Hz; intro hb30 Hz; try simp only [QQ, Qax] at hb30
 obtain ⟨un, hune⟩ : ∃ n : Nat, u = (n : Int) := ⟨u.toNat, by omega⟩
 have hun : un ≤ b2.length := by omega
 refine wp_cond_false (Hz.ev (x := .tmp 24) rfl) ?_
 refine zss (hK2 _ _ ?_); clear hK2
 replace Hz : Has 43 [(0, _), (4, _), (5, _)] Az := Hz.only [0, 4, 5]
 refine zsr fun K4 hK4 => ?_
 refine goCh Hz (.move rfl <| .nilCheck rfl <| .fa 0 rfl U111 <| .lb m10 1 U22 rfl rfl rfl <| .move rfl <| .nil) ?_
 clear Hz Az; intro Az Hz
 have hcap51 := (m10.rd (i := 2) rfl).ns_out.cap
 have m51 := m10.takeN (i := 2) rfl un hun 20 rfl; clear m10
 refine goCh Hz (.c rfl (fun _ h => y_sliceHn h un rfl rfl U22 fct15 hune (Nat.le_trans hun hcap51.1)) <| .assign rfl <| .nil) ?_
 clear Hz Az; intro Az Hz
 refine znl (hK4 _ _ ?_); clear hK4
 replace Hz : Has 43 [(0, _), (4, _), (5, _), (6, _)] Az := Hz.only [0, 4, 5, 6]
 refine zsr fun K5 hK5 => ?_
 refine goCh Hz (.move rfl <| .move rfl <| .nilCheck rfl <| .fa 0 rfl U111 <| .lb m51 1 U22 rfl rfl rfl <| .move rfl <| .nil) ?_
 clear Hz Az; intro Az Hz
 have m68 := m51.dropN (i := 2) rfl un hun 21 rfl; clear m51
 refine goCh Hz (.c rfl (fun _ h => y_sliceLn h un rfl rfl U22 fct15 hune hun) <| .nilCheck rfl <| .fa 0 rfl U111 <| .nil) ?_
 clear Hz Az; intro Az Hz
 refine wpList_plain rfl (fun K hK => ?_)
 refine e_store1 Hz m68 1 rfl rfl rfl rfl rfl fct1 (by dsimp only [List.set] <;> rfl) ?_
 clear m68; intro w72 m72 hB72
 clear hB72
 refine hK _ _ ?_; clear hK
 refine znl (hK5 _ _ ?_); clear hK5
 replace Hz : Has 43 [(4, _), (6, _)] Az := Hz.only [4, 6]
 refine regS Hz (.move rfl <| .assign rfl <| .nil) ?_
 clear Hz Az; intro Az Hz
 refine wp_ret ?_
 try dsimp only [Exit.then, Exit.inBlock]
 refine (ret1 (fn := Tryd.f96) Hz rfl rfl ?_)
 have hl8 : un = (b2.take un).length := by rw [List.length_take]; omega
 have hl9 : b2.length - un = (b2.drop un).length := by rw [List.length_drop]
 exact ⟨b2.take un, b2.drop un, _, _, _, _, _, by rw [← hl8], by rw [← hl8]; omega, (fun x hx => hbb2 x (List.mem_of_mem_take hx)), by rw [← hl9]; omega, (fun x hx => hbb2 x (List.mem_of_mem_drop hx)), by rw [← hl8, ← hl9]; exact m72.ren [(1, 1), (2, 21), (3, 20)] (by decide)⟩
end Go.Proofs.YtflcgpajodfkoaaDoor.K
