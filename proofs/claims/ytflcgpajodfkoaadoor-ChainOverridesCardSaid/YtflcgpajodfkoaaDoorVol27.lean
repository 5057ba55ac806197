/- The reference's Reader: a number, not above a bound. -/
import Derived.Test.YtflcgpajodfkoaaDoorVol22
namespace Go.Proofs.YtflcgpajodfkoaaDoor.K
open Go.ChangeShapes Go.WideShapes Go.ChangeAt Go.RowKit
set_option linter.unusedVariables false
set_option linter.unusedSimpArgs false
theorem wrapu (z : Int) : 0 ≤ IntKind.u64.wrap z := by
 have e : IntKind.u64.wrap z = z % 18446744073709551616 := by simp [IntKind.wrap, IntKind.signed, IntKind.bits]
 rw [e]; omega
set_option maxRecDepth 100000
set_option maxHeartbeats 4000000
theorem rfail (X : Cx) (B : Nat) (v : Value) (er cd : Int) (w0 : World) (m0 : MemOk X w0 [(1, .box B 111 [v, .int .i64 er])] w0) :
   Calls Tryd.prog 79 #[.pointer (some ⟨B, 0, none⟩), .int .i64 cd] w0 fun e w' => e = .returned (.tuple #[]) ∧ MemOk X w0 [(1, .box B 111 [.slice none 0 0, .int .i64 cd])] w' := by
 refine ent2 Tryd.func79 rfl Tryd.ntmps79 fun Az Hz => ?_
 refine wp_region_lit ?_
 refine goCh Hz (.move rfl <| .move rfl <| .move rfl <| .nilCheck rfl <| .fa 0 rfl U111 <| .nil) ?_
 clear Hz Az; intro Az Hz
 refine wpList_plain rfl (fun K hK => ?_)
 refine e_store1 Hz m0 1 rfl rfl rfl rfl rfl fct1 (by dsimp only [List.set] <;> rfl) ?_
 clear m0; intro w6 m6 hB6
 clear hB6
 refine hK _ _ ?_; clear hK
 refine goCh Hz (.nilCheck rfl <| .fa 1 rfl U111 <| .nil) ?_
 clear Hz Az; intro Az Hz
 refine wpList_plain rfl (fun K hK => ?_)
 refine e_store1 Hz m6 1 rfl rfl rfl rfl rfl fct8 (by dsimp only [List.set] <;> rfl) ?_
 clear m6; intro w9 m9 hB9
 clear hB9
 refine hK _ _ ?_; clear hK
 refine wpList_nil ?_
 try dsimp only [Exit.then]
 try refine out_here ?_
 refine (ret0 (fn := Tryd.f79) Hz rfl ?_)
 exact ⟨rfl, m9.only [1]⟩
theorem rnum (X : Cx) (B : Nat) (b : List Int) (er mx : Int) (p : Option Addr) (c : Nat) (w0 : World) (hb : b.length ≤ 1000000) (hbb : BytesL b) (hmx : 0 ≤ mx) (m0 : MemOk X w0 [(1, .box B 111 [.slice p b.length c, .int .i64 er]), (2, .dat (.slice p b.length c) (.ns .u8 b))] w0) :
   Calls Tryd.prog 54 #[.pointer (some ⟨B, 0, none⟩), .int .u64 mx] w0 fun e w' => ∃ (u : Int) (b' : List Int) (p' : Option Addr) (c' : Nat) (er' : Int), e = .returned (.int .u64 u) ∧ (0 ≤ u ∧ u ≤ mx) ∧ b'.length ≤ b.length ∧ BytesL b' ∧ MemOk X w0 [(1, .box B 111 [.slice p' b'.length c', .int .i64 er']), (2, .dat (.slice p' b'.length c') (.ns .u8 b'))] w' := by
 refine ent2 Tryd.func54 rfl Tryd.ntmps54 fun Az Hz => ?_
 refine regS Hz (.assign rfl <| .nil) ?_
 clear Hz Az; intro Az Hz
 refine wp_seq_k (fun K0 hK0 => ?_)
 refine regS Hz (.move rfl <| .nilCheck rfl <| .fa 1 rfl U111 <| .lb m0 1 U3 rfl rfl rfl <| .neq rfl rfl <| .nil) ?_
 clear Hz Az; intro Az Hz
 refine bool_cases Hz (t := 12) rfl ?_ ?_
 ·
  clear Hz; intro hb7 Hz; try simp only [QQ, Qax] at hb7
  refine wp_cond_true (Hz.ev (x := .tmp 12) rfl) ?_
  refine regS Hz (.assign rfl <| .nil) ?_
  clear Hz Az; intro Az Hz
  refine wp_ret ?_
  try dsimp only [Exit.then, Exit.inBlock]
  refine (ret1 (fn := Tryd.f54) Hz rfl rfl ?_)
  exact ⟨0, b, _, _, _, rfl, ⟨by omega, by omega⟩, by omega, hbb, m0.ren [(1, 1), (2, 2)] (by decide)⟩
 clear Hz; intro hb7 Hz; try simp only [QQ, Qax] at hb7
 refine wp_cond_false (Hz.ev (x := .tmp 12) rfl) ?_
 refine zss (hK0 _ _ ?_); clear hK0
 refine regS Hz (.assign rfl <| .nil) ?_
 clear Hz Az; intro Az Hz
 refine wp_seq_k (fun K1 hK1 => ?_)
 refine regS Hz (.assign rfl <| .nil) ?_
 clear Hz Az; intro Az Hz
 refine wp_block ?_
 refine wp_loop_ghost (fun g a w => ∃ (k : Nat) (u : Int), k ≤ b.length ∧ g = b.length - k ∧ 0 ≤ u ∧ Has 73 [(0, .pointer (some ⟨B, 0, none⟩)), (1, .int .u64 mx), (5, .int .u64 u), (6, .int .i64 k)] a ∧ MemOk X w0 [(1, .box B 111 [.slice p b.length c, .int .i64 er]), (2, .dat (.slice p b.length c) (.ns .u8 b))] w) (b.length) ?_ ?_
 · exact ⟨0, 0, Nat.zero_le _, rfl, Int.le_refl _, Hz.only [0, 1, 5, 6], m0.only [1, 2]⟩
 clear Hz m0
 rintro g Az w11 ⟨k, u, hkl, hg, hu, Hz, m11⟩
 refine wp_seq_k (fun K2 hK2 => ?_)
 refine regS Hz (.move rfl <| .move rfl <| .nilCheck rfl <| .fa 0 rfl U111 <| .lb m11 1 U22 rfl rfl rfl <| .len rfl U22 <| .lss rfl rfl <| .nil) ?_
 clear Hz Az; intro Az Hz
 refine bool_cases Hz (t := 19) rfl ?_ ?_
 ·
  clear Hz; intro hb19 Hz; try simp only [QQ, Qax] at hb19
  have hk : k < b.length := by omega
  refine wp_cond_true (Hz.ev (x := .tmp 19) rfl) ?_
  refine zss (hK2 _ _ ?_); clear hK2
  refine wp_seq_k (fun K3 hK3 => ?_)
  refine wp_block ?_
  replace Hz : Has 73 [(0, _), (1, _), (5, _), (6, _)] Az := Hz.only [0, 1, 5, 6]
  refine zsr fun K4 hK4 => ?_
  refine goCh Hz (.move rfl <| .nilCheck rfl <| .fa 0 rfl U111 <| .lb m11 1 U22 rfl rfl rfl <| .move rfl <| .nil) ?_
  clear Hz Az; intro Az Hz
  obtain ⟨b32, o32, hp32, m32⟩ := m11.openN (i := 2) rfl (k) hk 100 rfl
  cases hp32; clear m11
  refine goCh Hz (.c rfl (fun _ h => y_idx h rfl rfl U22 fct15 (k) rfl hk) <| .loadC0 m32 (i := 100) rfl rfl U5 rfl <| .assign rfl <| .nil) ?_
  clear Hz Az; intro Az Hz
  refine znl (hK4 _ _ ?_); clear hK4
  refine wp_seq_k (fun K5 hK5 => ?_)
  replace Hz : Has 73 [(0, _), (1, _), (5, _), (6, _), (7, _)] Az := Hz.only [0, 1, 5, 6, 7]
  refine zsr fun K6 hK6 => ?_
  refine goCh Hz (.move rfl <| .eql rfl rfl <| .move rfl <| .nil) ?_
  clear Hz Az; intro Az Hz
  refine bool_cases Hz (t := 31) rfl ?_ ?_
  ·
   clear Hz; intro hb43 Hz; try simp only [QQ, Qax] at hb43
   refine goCh Hz (.moveZ rfl <| .gtrZ rfl rfl <| .pickT rfl rfl <| .nil) ?_
   clear Hz Az; intro Az Hz
   refine znl (hK6 _ _ ?_); clear hK6
   refine bool_cases Hz (t := 34) rfl ?_ ?_
   ·
    clear Hz; intro hb47 Hz; try simp only [QQ, Qax] at hb47
    refine wp_cond_true (Hz.ev (x := .tmp 34) rfl) ?_
    replace Hz : Has 73 [(0, _), (1, _), (5, _), (6, _), (7, _)] Az := Hz.only [0, 1, 5, 6, 7]
    refine zsr fun K7 hK7 => ?_
    refine goCh Hz (.move rfl .nil) ?_
    clear Hz Az; intro Az Hz
    refine wpList_plain rfl (fun K hK => ?_)
    refine e_call Hz Tryd.func79 rfl rfl rfl rfl (rfail _ _ _ _ _ _ (m32.into [(1, 1)] (by decide) rfl)) ?_
    rintro e w51 ⟨rfl, hm51⟩
    have mx51 := m32.back hm51 [(1, 1)] (by decide); clear hm51 m32
    have m51 : MemOk _ _ [(1, _), (2, _), (100, _)] _ := mx51.only [1, 2, 100]; clear mx51
    refine ⟨_, rfl, ?_⟩; clear Hz Az; intro Az Hz
    refine hK _ _ ?_; clear hK
    refine znl (hK7 _ _ ?_); clear hK7
    refine regS Hz (.assign rfl <| .nil) ?_
    clear Hz Az; intro Az Hz
    refine wp_ret ?_
    try dsimp only [Exit.then, Exit.inBlock]
    refine (ret1 (fn := Tryd.f54) Hz rfl rfl ?_)
    have m54 := m51.dat 90 rfl (Rd.nilN _ _ .u8 none); clear m51
    exact ⟨0, [], _, _, _, rfl, ⟨by omega, by omega⟩, by simp, (fun _ h => by cases h), m54.ren [(1, 1), (2, 90)] (by decide)⟩
   clear Hz; intro hb47 Hz; try simp only [QQ, Qax] at hb47
   refine wp_cond_false (Hz.ev (x := .tmp 34) rfl) ?_
   refine zss (hK5 _ _ ?_); clear hK5
   replace Hz : Has 73 [(0, _), (1, _), (5, _), (6, _), (7, _)] Az := Hz.only [0, 1, 5, 6, 7]
   refine regS Hz (.move rfl <| .move rfl <| .and rfl rfl rfl <| .conv rfl U5 U71 rfl <| .move rfl <| .mul rfl rfl (r := 7 * (k : Int)) (IntWalk.i64_in _ (by omega)) <| .shl rfl rfl (by omega) rfl <| .or rfl rfl rfl <| .assign rfl <| .nil) ?_
   clear Hz Az; intro Az Hz
   replace Hz : Has 73 [(0, _), (1, _), (5, _), (6, _), (7, _)] Az := Hz.only [0, 1, 5, 6, 7]
   refine regS Hz (.move rfl <| .lss rfl rfl <| .nil) ?_
   clear Hz Az; intro Az Hz
   refine bool_cases Hz (t := 46) rfl ?_ ?_
   ·
    clear Hz; intro hb68 Hz; try simp only [QQ, Qax] at hb68
    refine wp_cond_true (Hz.ev (x := .tmp 46) rfl) ?_
    refine wp_seq_k (fun K8 hK8 => ?_)
    refine zsr fun K9 hK9 => ?_
    refine goCh Hz (.move rfl <| .gtr rfl rfl <| .move rfl <| .nil) ?_
    clear Hz Az; intro Az Hz
    refine bool_cases Hz (t := 49) rfl ?_ ?_
    ·
     clear Hz; intro hb75 Hz; try simp only [QQ, Qax] at hb75
     refine goCh Hz (.moveZ rfl <| .eqlZ rfl rfl <| .pickT rfl rfl <| .nil) ?_
     clear Hz Az; intro Az Hz
     refine znl (hK9 _ _ ?_); clear hK9
     refine bool_cases Hz (t := 52) rfl ?_ ?_
     ·
      clear Hz; intro hb79 Hz; try simp only [QQ, Qax] at hb79
      refine wp_cond_true (Hz.ev (x := .tmp 52) rfl) ?_
      replace Hz : Has 73 [(0, _), (1, _), (5, _), (6, _)] Az := Hz.only [0, 1, 5, 6]
      refine zsr fun K10 hK10 => ?_
      refine goCh Hz (.move rfl .nil) ?_
      clear Hz Az; intro Az Hz
      refine wpList_plain rfl (fun K hK => ?_)
      refine e_call Hz Tryd.func79 rfl rfl rfl rfl (rfail _ _ _ _ _ _ (m32.into [(1, 1)] (by decide) rfl)) ?_
      rintro e w83 ⟨rfl, hm83⟩
      have mx83 := m32.back hm83 [(1, 1)] (by decide); clear hm83 m32
      have m83 : MemOk _ _ [(1, _), (2, _), (100, _)] _ := mx83.only [1, 2, 100]; clear mx83
      refine ⟨_, rfl, ?_⟩; clear Hz Az; intro Az Hz
      refine hK _ _ ?_; clear hK
      refine znl (hK10 _ _ ?_); clear hK10
      refine regS Hz (.assign rfl <| .nil) ?_
      clear Hz Az; intro Az Hz
      refine wp_ret ?_
      try dsimp only [Exit.then, Exit.inBlock]
      refine (ret1 (fn := Tryd.f54) Hz rfl rfl ?_)
      have m86 := m83.dat 90 rfl (Rd.nilN _ _ .u8 none); clear m83
      exact ⟨0, [], _, _, _, rfl, ⟨by omega, by omega⟩, by simp, (fun _ h => by cases h), m86.ren [(1, 1), (2, 90)] (by decide)⟩
     clear Hz; intro hb79 Hz; try simp only [QQ, Qax] at hb79
     refine wp_cond_false (Hz.ev (x := .tmp 52) rfl) ?_
     refine zss (hK8 _ _ ?_); clear hK8
     refine wp_seq_k (fun K11 hK11 => ?_)
     replace Hz : Has 73 [(0, _), (1, _), (5, _), (6, _)] Az := Hz.only [0, 1, 5, 6]
     refine regS Hz (.move rfl <| .move rfl <| .gtr rfl rfl <| .nil) ?_
     clear Hz Az; intro Az Hz
     refine bool_cases Hz (t := 57) rfl ?_ ?_
     ·
      clear Hz; intro hb91 Hz; try simp only [QQ, Qax] at hb91
      refine wp_cond_true (Hz.ev (x := .tmp 57) rfl) ?_
      refine zsr fun K12 hK12 => ?_
      refine goCh Hz (.move rfl .nil) ?_
      clear Hz Az; intro Az Hz
      refine wpList_plain rfl (fun K hK => ?_)
      refine e_call Hz Tryd.func79 rfl rfl rfl rfl (rfail _ _ _ _ _ _ (m32.into [(1, 1)] (by decide) rfl)) ?_
      rintro e w94 ⟨rfl, hm94⟩
      have mx94 := m32.back hm94 [(1, 1)] (by decide); clear hm94 m32
      have m94 : MemOk _ _ [(1, _), (2, _), (100, _)] _ := mx94.only [1, 2, 100]; clear mx94
      refine ⟨_, rfl, ?_⟩; clear Hz Az; intro Az Hz
      refine hK _ _ ?_; clear hK
      refine znl (hK12 _ _ ?_); clear hK12
      refine regS Hz (.assign rfl <| .nil) ?_
      clear Hz Az; intro Az Hz
      refine wp_ret ?_
      try dsimp only [Exit.then, Exit.inBlock]
      refine (ret1 (fn := Tryd.f54) Hz rfl rfl ?_)
      have m97 := m94.dat 90 rfl (Rd.nilN _ _ .u8 none); clear m94
      exact ⟨0, [], _, _, _, rfl, ⟨by omega, by omega⟩, by simp, (fun _ h => by cases h), m97.ren [(1, 1), (2, 90)] (by decide)⟩
     clear Hz; intro hb91 Hz; try simp only [QQ, Qax] at hb91
     refine wp_cond_false (Hz.ev (x := .tmp 57) rfl) ?_
     refine zss (hK11 _ _ ?_); clear hK11
     refine zsr fun K13 hK13 => ?_
     refine goCh Hz (.move rfl <| .move rfl <| .nilCheck rfl <| .fa 0 rfl U111 <| .lb m32 1 U22 rfl rfl rfl <| .move rfl <| .add rfl rfl (r := ((k + 1 : Nat) : Int)) (by rw [IntWalk.i64_in _ (by omega)]; omega) <| .nil) ?_
     clear Hz Az; intro Az Hz
     have m113 := m32.dropN (i := 2) rfl (k + 1) (show k + 1 ≤ b.length by omega) 101 rfl; clear m32
     refine goCh Hz (.c rfl (fun _ h => y_sliceLn h (k + 1) rfl rfl U22 fct15 rfl (show k + 1 ≤ b.length by omega)) <| .nilCheck rfl <| .fa 0 rfl U111 <| .nil) ?_
     clear Hz Az; intro Az Hz
     refine wpList_plain rfl (fun K hK => ?_)
     refine e_store1 Hz m113 1 rfl rfl rfl rfl rfl fct1 (by dsimp only [List.set] <;> rfl) ?_
     clear m113; intro w117 m117 hB117
     clear hB117
     refine hK _ _ ?_; clear hK
     refine znl (hK13 _ _ ?_); clear hK13
     replace Hz : Has 73 [(0, _), (1, _), (5, _), (6, _), (57, _)] Az := Hz.only [0, 1, 5, 6, 57]
     refine regS Hz (.move rfl <| .assign rfl <| .nil) ?_
     clear Hz Az; intro Az Hz
     refine wp_ret ?_
     try dsimp only [Exit.then, Exit.inBlock]
     refine (ret1 (fn := Tryd.f54) Hz rfl rfl ?_)
     have hl9 : b.length - (k + 1) = (b.drop (k + 1)).length := by rw [List.length_drop]
     rw [hl9] at m117
     exact ⟨_, b.drop (k + 1), _, _, _, rfl, ⟨wrapu _, by omega⟩, by rw [List.length_drop]; omega, (fun x hx => hbb x (List.mem_of_mem_drop hx)), m117.ren [(1, 1), (2, 101)] (by decide)⟩
    clear Hz; intro hb75 Hz; try simp only [QQ, Qax] at hb75
    refine goCh Hz (.sk <| .sk <| .pickF rfl rfl <| .nil) ?_
    clear Hz Az; intro Az Hz
    refine znl (hK9 _ _ ?_); clear hK9
    refine wp_cond_false (Hz.ev (x := .tmp 52) rfl) ?_
    refine zss (hK8 _ _ ?_); clear hK8
    refine wp_seq_k (fun K14 hK14 => ?_)
    replace Hz : Has 73 [(0, _), (1, _), (5, _), (6, _)] Az := Hz.only [0, 1, 5, 6]
    refine regS Hz (.move rfl <| .move rfl <| .gtr rfl rfl <| .nil) ?_
    clear Hz Az; intro Az Hz
    refine bool_cases Hz (t := 57) rfl ?_ ?_
    ·
     clear Hz; intro hb128 Hz; try simp only [QQ, Qax] at hb128
     refine wp_cond_true (Hz.ev (x := .tmp 57) rfl) ?_
     refine zsr fun K15 hK15 => ?_
     refine goCh Hz (.move rfl .nil) ?_
     clear Hz Az; intro Az Hz
     refine wpList_plain rfl (fun K hK => ?_)
     refine e_call Hz Tryd.func79 rfl rfl rfl rfl (rfail _ _ _ _ _ _ (m32.into [(1, 1)] (by decide) rfl)) ?_
     rintro e w131 ⟨rfl, hm131⟩
     have mx131 := m32.back hm131 [(1, 1)] (by decide); clear hm131 m32
     have m131 : MemOk _ _ [(1, _), (2, _), (100, _)] _ := mx131.only [1, 2, 100]; clear mx131
     refine ⟨_, rfl, ?_⟩; clear Hz Az; intro Az Hz
     refine hK _ _ ?_; clear hK
     refine znl (hK15 _ _ ?_); clear hK15
     refine regS Hz (.assign rfl <| .nil) ?_
     clear Hz Az; intro Az Hz
     refine wp_ret ?_
     try dsimp only [Exit.then, Exit.inBlock]
     refine (ret1 (fn := Tryd.f54) Hz rfl rfl ?_)
     have m134 := m131.dat 90 rfl (Rd.nilN _ _ .u8 none); clear m131
     exact ⟨0, [], _, _, _, rfl, ⟨by omega, by omega⟩, by simp, (fun _ h => by cases h), m134.ren [(1, 1), (2, 90)] (by decide)⟩
    clear Hz; intro hb128 Hz; try simp only [QQ, Qax] at hb128
    refine wp_cond_false (Hz.ev (x := .tmp 57) rfl) ?_
    refine zss (hK14 _ _ ?_); clear hK14
    refine zsr fun K16 hK16 => ?_
    refine goCh Hz (.move rfl <| .move rfl <| .nilCheck rfl <| .fa 0 rfl U111 <| .lb m32 1 U22 rfl rfl rfl <| .move rfl <| .add rfl rfl (r := ((k + 1 : Nat) : Int)) (by rw [IntWalk.i64_in _ (by omega)]; omega) <| .nil) ?_
    clear Hz Az; intro Az Hz
    have m150 := m32.dropN (i := 2) rfl (k + 1) (show k + 1 ≤ b.length by omega) 101 rfl; clear m32
    refine goCh Hz (.c rfl (fun _ h => y_sliceLn h (k + 1) rfl rfl U22 fct15 rfl (show k + 1 ≤ b.length by omega)) <| .nilCheck rfl <| .fa 0 rfl U111 <| .nil) ?_
    clear Hz Az; intro Az Hz
    refine wpList_plain rfl (fun K hK => ?_)
    refine e_store1 Hz m150 1 rfl rfl rfl rfl rfl fct1 (by dsimp only [List.set] <;> rfl) ?_
    clear m150; intro w154 m154 hB154
    clear hB154
    refine hK _ _ ?_; clear hK
    refine znl (hK16 _ _ ?_); clear hK16
    replace Hz : Has 73 [(0, _), (1, _), (5, _), (6, _), (57, _)] Az := Hz.only [0, 1, 5, 6, 57]
    refine regS Hz (.move rfl <| .assign rfl <| .nil) ?_
    clear Hz Az; intro Az Hz
    refine wp_ret ?_
    try dsimp only [Exit.then, Exit.inBlock]
    refine (ret1 (fn := Tryd.f54) Hz rfl rfl ?_)
    have hl9 : b.length - (k + 1) = (b.drop (k + 1)).length := by rw [List.length_drop]
    rw [hl9] at m154
    exact ⟨_, b.drop (k + 1), _, _, _, rfl, ⟨wrapu _, by omega⟩, by rw [List.length_drop]; omega, (fun x hx => hbb x (List.mem_of_mem_drop hx)), m154.ren [(1, 1), (2, 101)] (by decide)⟩
   clear Hz; intro hb68 Hz; try simp only [QQ, Qax] at hb68
   refine wp_cond_false (Hz.ev (x := .tmp 46) rfl) ?_
   refine zss (hK3 _ _ ?_); clear hK3
   refine wp_region_lit ?_
   refine goCh Hz (.move rfl <| .add rfl rfl (r := ((k + 1 : Nat) : Int)) (by rw [IntWalk.i64_in _ (by omega)]; omega) <| .assign rfl <| .nil) ?_
   clear Hz Az; intro Az Hz
   refine wpList_nil ?_
   show ∃ n', n' < _ ∧ _
   exact ⟨b.length - (k + 1), by omega, k + 1, _, by omega, rfl, wrapu _, Hz.only [0, 1, 5, 6], m32.only [1, 2]⟩
  clear Hz; intro hb43 Hz; try simp only [QQ, Qax] at hb43
  refine goCh Hz (.sk <| .sk <| .pickF rfl rfl <| .nil) ?_
  clear Hz Az; intro Az Hz
  refine znl (hK6 _ _ ?_); clear hK6
  refine wp_cond_false (Hz.ev (x := .tmp 34) rfl) ?_
  refine zss (hK5 _ _ ?_); clear hK5
  replace Hz : Has 73 [(0, _), (1, _), (5, _), (6, _), (7, _)] Az := Hz.only [0, 1, 5, 6, 7]
  refine regS Hz (.move rfl <| .move rfl <| .and rfl rfl rfl <| .conv rfl U5 U71 rfl <| .move rfl <| .mul rfl rfl (r := 7 * (k : Int)) (IntWalk.i64_in _ (by omega)) <| .shl rfl rfl (by omega) rfl <| .or rfl rfl rfl <| .assign rfl <| .nil) ?_
  clear Hz Az; intro Az Hz
  replace Hz : Has 73 [(0, _), (1, _), (5, _), (6, _), (7, _)] Az := Hz.only [0, 1, 5, 6, 7]
  refine regS Hz (.move rfl <| .lss rfl rfl <| .nil) ?_
  clear Hz Az; intro Az Hz
  refine bool_cases Hz (t := 46) rfl ?_ ?_
  ·
   clear Hz; intro hb177 Hz; try simp only [QQ, Qax] at hb177
   refine wp_cond_true (Hz.ev (x := .tmp 46) rfl) ?_
   refine wp_seq_k (fun K17 hK17 => ?_)
   refine zsr fun K18 hK18 => ?_
   refine goCh Hz (.move rfl <| .gtr rfl rfl <| .move rfl <| .nil) ?_
   clear Hz Az; intro Az Hz
   refine bool_cases Hz (t := 49) rfl ?_ ?_
   ·
    clear Hz; intro hb184 Hz; try simp only [QQ, Qax] at hb184
    refine goCh Hz (.moveZ rfl <| .eqlZ rfl rfl <| .pickT rfl rfl <| .nil) ?_
    clear Hz Az; intro Az Hz
    refine znl (hK18 _ _ ?_); clear hK18
    refine bool_cases Hz (t := 52) rfl ?_ ?_
    ·
     clear Hz; intro hb188 Hz; try simp only [QQ, Qax] at hb188
     refine wp_cond_true (Hz.ev (x := .tmp 52) rfl) ?_
     replace Hz : Has 73 [(0, _), (1, _), (5, _), (6, _)] Az := Hz.only [0, 1, 5, 6]
     refine zsr fun K19 hK19 => ?_
     refine goCh Hz (.move rfl .nil) ?_
     clear Hz Az; intro Az Hz
     refine wpList_plain rfl (fun K hK => ?_)
     refine e_call Hz Tryd.func79 rfl rfl rfl rfl (rfail _ _ _ _ _ _ (m32.into [(1, 1)] (by decide) rfl)) ?_
     rintro e w192 ⟨rfl, hm192⟩
     have mx192 := m32.back hm192 [(1, 1)] (by decide); clear hm192 m32
     have m192 : MemOk _ _ [(1, _), (2, _), (100, _)] _ := mx192.only [1, 2, 100]; clear mx192
     refine ⟨_, rfl, ?_⟩; clear Hz Az; intro Az Hz
     refine hK _ _ ?_; clear hK
     refine znl (hK19 _ _ ?_); clear hK19
     refine regS Hz (.assign rfl <| .nil) ?_
     clear Hz Az; intro Az Hz
     refine wp_ret ?_
     try dsimp only [Exit.then, Exit.inBlock]
     refine (ret1 (fn := Tryd.f54) Hz rfl rfl ?_)
     have m195 := m192.dat 90 rfl (Rd.nilN _ _ .u8 none); clear m192
     exact ⟨0, [], _, _, _, rfl, ⟨by omega, by omega⟩, by simp, (fun _ h => by cases h), m195.ren [(1, 1), (2, 90)] (by decide)⟩
    clear Hz; intro hb188 Hz; try simp only [QQ, Qax] at hb188
    refine wp_cond_false (Hz.ev (x := .tmp 52) rfl) ?_
    refine zss (hK17 _ _ ?_); clear hK17
    refine wp_seq_k (fun K20 hK20 => ?_)
    replace Hz : Has 73 [(0, _), (1, _), (5, _), (6, _)] Az := Hz.only [0, 1, 5, 6]
    refine regS Hz (.move rfl <| .move rfl <| .gtr rfl rfl <| .nil) ?_
    clear Hz Az; intro Az Hz
    refine bool_cases Hz (t := 57) rfl ?_ ?_
    ·
     clear Hz; intro hb200 Hz; try simp only [QQ, Qax] at hb200
     refine wp_cond_true (Hz.ev (x := .tmp 57) rfl) ?_
     refine zsr fun K21 hK21 => ?_
     refine goCh Hz (.move rfl .nil) ?_
     clear Hz Az; intro Az Hz
     refine wpList_plain rfl (fun K hK => ?_)
     refine e_call Hz Tryd.func79 rfl rfl rfl rfl (rfail _ _ _ _ _ _ (m32.into [(1, 1)] (by decide) rfl)) ?_
     rintro e w203 ⟨rfl, hm203⟩
     have mx203 := m32.back hm203 [(1, 1)] (by decide); clear hm203 m32
     have m203 : MemOk _ _ [(1, _), (2, _), (100, _)] _ := mx203.only [1, 2, 100]; clear mx203
     refine ⟨_, rfl, ?_⟩; clear Hz Az; intro Az Hz
     refine hK _ _ ?_; clear hK
     refine znl (hK21 _ _ ?_); clear hK21
     refine regS Hz (.assign rfl <| .nil) ?_
     clear Hz Az; intro Az Hz
     refine wp_ret ?_
     try dsimp only [Exit.then, Exit.inBlock]
     refine (ret1 (fn := Tryd.f54) Hz rfl rfl ?_)
     have m206 := m203.dat 90 rfl (Rd.nilN _ _ .u8 none); clear m203
     exact ⟨0, [], _, _, _, rfl, ⟨by omega, by omega⟩, by simp, (fun _ h => by cases h), m206.ren [(1, 1), (2, 90)] (by decide)⟩
    clear Hz; intro hb200 Hz; try simp only [QQ, Qax] at hb200
    refine wp_cond_false (Hz.ev (x := .tmp 57) rfl) ?_
    refine zss (hK20 _ _ ?_); clear hK20
    refine zsr fun K22 hK22 => ?_
    refine goCh Hz (.move rfl <| .move rfl <| .nilCheck rfl <| .fa 0 rfl U111 <| .lb m32 1 U22 rfl rfl rfl <| .move rfl <| .add rfl rfl (r := ((k + 1 : Nat) : Int)) (by rw [IntWalk.i64_in _ (by omega)]; omega) <| .nil) ?_
    clear Hz Az; intro Az Hz
    have m222 := m32.dropN (i := 2) rfl (k + 1) (show k + 1 ≤ b.length by omega) 101 rfl; clear m32
    refine goCh Hz (.c rfl (fun _ h => y_sliceLn h (k + 1) rfl rfl U22 fct15 rfl (show k + 1 ≤ b.length by omega)) <| .nilCheck rfl <| .fa 0 rfl U111 <| .nil) ?_
    clear Hz Az; intro Az Hz
    refine wpList_plain rfl (fun K hK => ?_)
    refine e_store1 Hz m222 1 rfl rfl rfl rfl rfl fct1 (by dsimp only [List.set] <;> rfl) ?_
    clear m222; intro w226 m226 hB226
    clear hB226
    refine hK _ _ ?_; clear hK
    refine znl (hK22 _ _ ?_); clear hK22
    replace Hz : Has 73 [(0, _), (1, _), (5, _), (6, _), (57, _)] Az := Hz.only [0, 1, 5, 6, 57]
    refine regS Hz (.move rfl <| .assign rfl <| .nil) ?_
    clear Hz Az; intro Az Hz
    refine wp_ret ?_
    try dsimp only [Exit.then, Exit.inBlock]
    refine (ret1 (fn := Tryd.f54) Hz rfl rfl ?_)
    have hl9 : b.length - (k + 1) = (b.drop (k + 1)).length := by rw [List.length_drop]
    rw [hl9] at m226
    exact ⟨_, b.drop (k + 1), _, _, _, rfl, ⟨wrapu _, by omega⟩, by rw [List.length_drop]; omega, (fun x hx => hbb x (List.mem_of_mem_drop hx)), m226.ren [(1, 1), (2, 101)] (by decide)⟩
   clear Hz; intro hb184 Hz; try simp only [QQ, Qax] at hb184
   refine goCh Hz (.sk <| .sk <| .pickF rfl rfl <| .nil) ?_
   clear Hz Az; intro Az Hz
   refine znl (hK18 _ _ ?_); clear hK18
   refine wp_cond_false (Hz.ev (x := .tmp 52) rfl) ?_
   refine zss (hK17 _ _ ?_); clear hK17
   refine wp_seq_k (fun K23 hK23 => ?_)
   replace Hz : Has 73 [(0, _), (1, _), (5, _), (6, _)] Az := Hz.only [0, 1, 5, 6]
   refine regS Hz (.move rfl <| .move rfl <| .gtr rfl rfl <| .nil) ?_
   clear Hz Az; intro Az Hz
   refine bool_cases Hz (t := 57) rfl ?_ ?_
   ·
    clear Hz; intro hb237 Hz; try simp only [QQ, Qax] at hb237
    refine wp_cond_true (Hz.ev (x := .tmp 57) rfl) ?_
    refine zsr fun K24 hK24 => ?_
    refine goCh Hz (.move rfl .nil) ?_
    clear Hz Az; intro Az Hz
    refine wpList_plain rfl (fun K hK => ?_)
    refine e_call Hz Tryd.func79 rfl rfl rfl rfl (rfail _ _ _ _ _ _ (m32.into [(1, 1)] (by decide) rfl)) ?_
    rintro e w240 ⟨rfl, hm240⟩
    have mx240 := m32.back hm240 [(1, 1)] (by decide); clear hm240 m32
    have m240 : MemOk _ _ [(1, _), (2, _), (100, _)] _ := mx240.only [1, 2, 100]; clear mx240
    refine ⟨_, rfl, ?_⟩; clear Hz Az; intro Az Hz
    refine hK _ _ ?_; clear hK
    refine znl (hK24 _ _ ?_); clear hK24
    refine regS Hz (.assign rfl <| .nil) ?_
    clear Hz Az; intro Az Hz
    refine wp_ret ?_
    try dsimp only [Exit.then, Exit.inBlock]
    refine (ret1 (fn := Tryd.f54) Hz rfl rfl ?_)
    have m243 := m240.dat 90 rfl (Rd.nilN _ _ .u8 none); clear m240
    exact ⟨0, [], _, _, _, rfl, ⟨by omega, by omega⟩, by simp, (fun _ h => by cases h), m243.ren [(1, 1), (2, 90)] (by decide)⟩
   clear Hz; intro hb237 Hz; try simp only [QQ, Qax] at hb237
   refine wp_cond_false (Hz.ev (x := .tmp 57) rfl) ?_
   refine zss (hK23 _ _ ?_); clear hK23
   refine zsr fun K25 hK25 => ?_
   refine goCh Hz (.move rfl <| .move rfl <| .nilCheck rfl <| .fa 0 rfl U111 <| .lb m32 1 U22 rfl rfl rfl <| .move rfl <| .add rfl rfl (r := ((k + 1 : Nat) : Int)) (by rw [IntWalk.i64_in _ (by omega)]; omega) <| .nil) ?_
   clear Hz Az; intro Az Hz
   have m259 := m32.dropN (i := 2) rfl (k + 1) (show k + 1 ≤ b.length by omega) 101 rfl; clear m32
   refine goCh Hz (.c rfl (fun _ h => y_sliceLn h (k + 1) rfl rfl U22 fct15 rfl (show k + 1 ≤ b.length by omega)) <| .nilCheck rfl <| .fa 0 rfl U111 <| .nil) ?_
   clear Hz Az; intro Az Hz
   refine wpList_plain rfl (fun K hK => ?_)
   refine e_store1 Hz m259 1 rfl rfl rfl rfl rfl fct1 (by dsimp only [List.set] <;> rfl) ?_
   clear m259; intro w263 m263 hB263
   clear hB263
   refine hK _ _ ?_; clear hK
   refine znl (hK25 _ _ ?_); clear hK25
   replace Hz : Has 73 [(0, _), (1, _), (5, _), (6, _), (57, _)] Az := Hz.only [0, 1, 5, 6, 57]
   refine regS Hz (.move rfl <| .assign rfl <| .nil) ?_
   clear Hz Az; intro Az Hz
   refine wp_ret ?_
   try dsimp only [Exit.then, Exit.inBlock]
   refine (ret1 (fn := Tryd.f54) Hz rfl rfl ?_)
   have hl9 : b.length - (k + 1) = (b.drop (k + 1)).length := by rw [List.length_drop]
   rw [hl9] at m263
   exact ⟨_, b.drop (k + 1), _, _, _, rfl, ⟨wrapu _, by omega⟩, by rw [List.length_drop]; omega, (fun x hx => hbb x (List.mem_of_mem_drop hx)), m263.ren [(1, 1), (2, 101)] (by decide)⟩
  clear Hz; intro hb177 Hz; try simp only [QQ, Qax] at hb177
  refine wp_cond_false (Hz.ev (x := .tmp 46) rfl) ?_
  refine zss (hK3 _ _ ?_); clear hK3
  refine wp_region_lit ?_
  refine goCh Hz (.move rfl <| .add rfl rfl (r := ((k + 1 : Nat) : Int)) (by rw [IntWalk.i64_in _ (by omega)]; omega) <| .assign rfl <| .nil) ?_
  clear Hz Az; intro Az Hz
  refine wpList_nil ?_
  show ∃ n', n' < _ ∧ _
  exact ⟨b.length - (k + 1), by omega, k + 1, _, by omega, rfl, wrapu _, Hz.only [0, 1, 5, 6], m32.only [1, 2]⟩
 clear Hz; intro hb19 Hz; try simp only [QQ, Qax] at hb19
 refine wp_cond_false (Hz.ev (x := .tmp 19) rfl) ?_
 refine wp_exit ?_
 refine hK1 _ _ ?_; clear hK1
 replace Hz : Has 73 [(0, _), (1, _), (5, _), (6, _)] Az := Hz.only [0, 1, 5, 6]
 refine zsr fun K26 hK26 => ?_
 refine goCh Hz (.move rfl .nil) ?_
 clear Hz Az; intro Az Hz
 refine wpList_plain rfl (fun K hK => ?_)
 refine e_call Hz Tryd.func79 rfl rfl rfl rfl (rfail _ _ _ _ _ _ (m11.into [(1, 1)] (by decide) rfl)) ?_
 rintro e w273 ⟨rfl, hm273⟩
 have mx273 := m11.back hm273 [(1, 1)] (by decide); clear hm273 m11
 have m273 : MemOk _ _ [(1, _), (2, _)] _ := mx273.only [1, 2]; clear mx273
 refine ⟨_, rfl, ?_⟩; clear Hz Az; intro Az Hz
 refine hK _ _ ?_; clear hK
 refine znl (hK26 _ _ ?_); clear hK26
 refine regS Hz (.assign rfl <| .nil) ?_
 clear Hz Az; intro Az Hz
 refine wp_ret ?_
 try dsimp only [Exit.then, Exit.inBlock]
 refine (ret1 (fn := Tryd.f54) Hz rfl rfl ?_)
 have m276 := m273.dat 90 rfl (Rd.nilN _ _ .u8 none); clear m273
 exact ⟨0, [], _, _, _, rfl, ⟨by omega, by omega⟩, by simp, (fun _ h => by cases h), m276.ren [(1, 1), (2, 90)] (by decide)⟩
end Go.Proofs.YtflcgpajodfkoaaDoor.K
