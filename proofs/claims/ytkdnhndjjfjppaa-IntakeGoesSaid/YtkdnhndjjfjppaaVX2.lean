/- The reference's Reader: just what is read. -/
import Derived.Test.YtkdnhndjjfjppaaVX1
namespace Go.Proofs.Ytkdnhndjjfjppaa.K
open Go.ChangeShapes Go.WideShapes Go.ChangeAt Go.RowKit
set_option linter.unusedVariables false
set_option linter.unusedSimpArgs false
theorem fl29xtI : flatS Try.prog 29 [.int .i64 0, .slice none 0 0] = true := by kernel_rfl
theorem andx {x : Int} (h0 : 0 ≤ x) (h1 : x ≤ 255) : IntKind.u8.wrap (BitVec.ofInt IntKind.u8.bits x &&& BitVec.ofInt IntKind.u8.bits 127).toNat = x % 128 := and127 x h0 h1
theorem shx {k : Nat} (hk : k ≤ 9) : min (7 * (k : Int)).toNat IntKind.u64.bits = 7 * k := by
 have : IntKind.u64.bits = 64 := rfl
 omega
theorem getD_bd {b : List Int} {k : Nat} (h : BytesL b) (hk : k < b.length) : 0 ≤ b.getD k 0 ∧ b.getD k 0 ≤ 255 := by
 rw [List.getD, List.getElem?_eq_getElem hk]; exact h _ (List.getElem_mem hk)
theorem dec_at {b : List Int} {u k : Nat} (hk : k < b.length) : dec u k (b.drop k) = if (k = 9 ∧ 1 < b.getD k 0) ∨ (0 < k ∧ b.getD k 0 = 0) then .err 20 else if b.getD k 0 < 128 then .ok (u + (b.getD k 0 % 128).toNat * 2 ^ (7 * k)) (k + 1) else dec (u + (b.getD k 0 % 128).toNat * 2 ^ (7 * k)) (k + 1) (b.drop (k + 1)) := by
 rw [List.drop_eq_getElem_cons hk, dec, List.getD, List.getElem?_eq_getElem hk]; rfl
theorem bytes_r {a b : List Int} (h : BytesL (a ++ b)) : BytesL b := fun x hx => h x (List.mem_append_right _ hx)
theorem encs_drop {l : List Int} {k : Nat} (hk : k < l.length) : encs (l.drop k) = enc (l.getD k 0) ++ encs (l.drop (k + 1)) := by
 rw [List.drop_eq_getElem_cons hk, encs_cons, List.getD, List.getElem?_eq_getElem hk]; rfl
theorem itemsE_drop {l : List (Int × List Int)} {k : Nat} {e : Int × List Int} (h : l[k]? = some e) : itemsE (l.drop k) = itemE e ++ itemsE (l.drop (k + 1)) := by
 obtain ⟨hk, rfl⟩ := List.getElem?_eq_some_iff.1 h
 show List.flatMap itemE (l.drop k) = _
 rw [List.drop_eq_getElem_cons hk, List.flatMap_cons]; rfl
theorem take_getD {l : List Int} {k : Nat} (hk : k < l.length) : l.take (k + 1) = l.take k ++ [l.getD k 0] := by
 rw [List.take_succ_eq_append_getElem hk, List.getD, List.getElem?_eq_getElem hk]; rfl
set_option maxRecDepth 100000
set_option maxHeartbeats 4000000
theorem rfail_x (X : Cx) (B : Nat) (v : Value) (er cd : Int) (w0 : World) (m0 : MemOk X w0 [(1, .box B 115 [v, .int .i64 er])] w0) :
   Calls Try.prog 75 #[.pointer (some ⟨B, 0, none⟩), .int .i64 cd] w0 fun e w' => e = .returned (.tuple #[]) ∧ MemOk X w0 [(1, .box B 115 [.slice none 0 0, .int .i64 cd])] w' := by
 refine ent2 Try.func75 rfl Try.ntmps75 fun Az Hz => ?_
 refine wp_region_lit ?_
 refine goCh Hz (.move rfl <| .move rfl <| .move rfl <| .nilCheck rfl <| .fa 0 rfl U115 <| .nil) ?_
 clear Hz Az; intro Az Hz
 refine wpList_plain rfl (fun K hK => ?_)
 refine e_store1 Hz m0 1 rfl rfl rfl rfl rfl fct21 (by dsimp only [List.set] <;> rfl) ?_
 clear m0; intro w6 m6 hB6
 clear hB6
 refine hK _ _ ?_; clear hK
 refine goCh Hz (.nilCheck rfl <| .fa 1 rfl U115 <| .nil) ?_
 clear Hz Az; intro Az Hz
 refine wpList_plain rfl (fun K hK => ?_)
 refine e_store1 Hz m6 1 rfl rfl rfl rfl rfl fct9 (by dsimp only [List.set] <;> rfl) ?_
 clear m6; intro w9 m9 hB9
 clear hB9
 refine hK _ _ ?_; clear hK
 refine wpList_nil ?_
 try dsimp only [Exit.then]
 try refine out_here ?_
 refine (ret0 (fn := Try.f75) Hz rfl ?_)
 exact ⟨rfl, m9.only [1]⟩
theorem rnum_x (X : Cx) (B : Nat) (b : List Int) (er mx : Int) (p : Option Addr) (c : Nat) (w0 : World) (hb : b.length ≤ 1000000) (hbb : BytesL b) (m0 : MemOk X w0 [(1, .box B 115 [.slice p (b).length c, .int .i64 er]), (2, .dat (.slice p (b).length c) (.ns .u8 (b)))] w0) :
   Calls Try.prog 65 #[.pointer (some ⟨B, 0, none⟩), .int .u64 mx] w0 fun e w' => ∃ (p' : Option Addr) (c' : Nat), e = .returned (.int .u64 (numR b er mx).1) ∧ MemOk X w0 [(1, .box B 115 [.slice p' ((numR b er mx).2.1).length c', .int .i64 (numR b er mx).2.2]), (2, .dat (.slice p' ((numR b er mx).2.1).length c') (.ns .u8 ((numR b er mx).2.1)))] w' := by
 refine ent2 Try.func65 rfl Try.ntmps65 fun Az Hz => ?_
 refine regS Hz (.assign rfl <| .nil) ?_
 clear Hz Az; intro Az Hz
 refine wp_seq_k (fun K0 hK0 => ?_)
 refine regS Hz (.move rfl <| .nilCheck rfl <| .fa 1 rfl U115 <| .lb m0 1 U3 rfl rfl rfl <| .neq rfl rfl <| .nil) ?_
 clear Hz Az; intro Az Hz
 refine bool_cases Hz (t := 12) rfl ?_ ?_
 ·
  clear Hz; intro hb7 Hz; try simp only [QQ, Qax] at hb7
  have hN : numR b er mx = (0, b, er) := numR_bad b er mx (by omega)
  refine wp_cond_true (Hz.ev (x := .tmp 12) rfl) ?_
  refine regS Hz (.assign rfl <| .nil) ?_
  clear Hz Az; intro Az Hz
  refine wp_ret ?_
  try dsimp only [Exit.then, Exit.inBlock]
  refine (ret1 (fn := Try.f65) Hz rfl rfl ?_)
  rw [hN]
  exact ⟨_, _, rfl, m0.ren [(1, 1), (2, 2)] (by decide)⟩
 clear Hz; intro hb7 Hz; try simp only [QQ, Qax] at hb7
 obtain rfl : er = 0 := by omega
 refine wp_cond_false (Hz.ev (x := .tmp 12) rfl) ?_
 refine ss (hK0 _ _ ?_); clear hK0
 refine regS Hz (.assign rfl <| .nil) ?_
 clear Hz Az; intro Az Hz
 refine wp_seq_k (fun K1 hK1 => ?_)
 refine regS Hz (.assign rfl <| .nil) ?_
 clear Hz Az; intro Az Hz
 refine wp_block ?_
 refine wp_loop_ghost (fun g a w => ∃ (k u : Nat), k ≤ b.length ∧ k ≤ 9 ∧ g = b.length - k ∧ u < 2 ^ (7 * k) ∧ dec u k (b.drop k) = dec 0 0 b ∧ Has 73 [(0, .pointer (some ⟨B, 0, none⟩)), (1, .int .u64 mx), (5, .int .u64 (u : Int)), (6, .int .i64 k)] a ∧ MemOk X w0 [(1, .box B 115 [.slice p (b).length c, .int .i64 0]), (2, .dat (.slice p (b).length c) (.ns .u8 (b)))] w) (b.length) ?_ ?_
 · exact ⟨0, 0, Nat.zero_le _, Nat.zero_le _, rfl, by decide, rfl, Hz.only [0, 1, 5, 6], m0.only [1, 2]⟩
 clear Hz m0
 rintro g Az w11 ⟨k, u, hkl, hk9, hg, hu, hD0, Hz, m11⟩
 refine wp_seq_k (fun K2 hK2 => ?_)
 refine regS Hz (.move rfl <| .move rfl <| .nilCheck rfl <| .fa 0 rfl U115 <| .lb m11 1 U25 rfl rfl rfl <| .len rfl U25 <| .lss rfl rfl <| .nil) ?_
 clear Hz Az; intro Az Hz
 refine bool_cases Hz (t := 19) rfl ?_ ?_
 ·
  clear Hz; intro hb19 Hz; try simp only [QQ, Qax] at hb19
  have hk : k < b.length := by omega
  have hxb := getD_bd hbb hk
  have hD := hD0
  rw [dec_at hk] at hD
  refine wp_cond_true (Hz.ev (x := .tmp 19) rfl) ?_
  refine ss (hK2 _ _ ?_); clear hK2
  refine wp_seq_k (fun K3 hK3 => ?_)
  refine wp_block ?_
  replace Hz : Has 73 [(0, _), (1, _), (5, _), (6, _)] Az := Hz.only [0, 1, 5, 6]
  refine sr fun K4 hK4 => ?_
  refine goCh Hz (.move rfl <| .nilCheck rfl <| .fa 0 rfl U115 <| .lb m11 1 U25 rfl rfl rfl <| .move rfl <| .nil) ?_
  clear Hz Az; intro Az Hz
  obtain ⟨b32, o32, hp32, m32⟩ := m11.openN (i := 2) rfl (k) hk 100 rfl
  cases hp32; clear m11
  refine goCh Hz (.c rfl (fun _ h => y_idx h rfl rfl U25 fct0 (k) rfl hk) <| .loadC0 m32 (i := 100) rfl rfl U5 rfl <| .assign rfl <| .nil) ?_
  clear Hz Az; intro Az Hz
  refine nl (hK4 _ _ ?_); clear hK4
  refine wp_seq_k (fun K5 hK5 => ?_)
  replace Hz : Has 73 [(0, _), (1, _), (5, _), (6, _), (7, _)] Az := Hz.only [0, 1, 5, 6, 7]
  refine sr fun K6 hK6 => ?_
  refine goCh Hz (.move rfl <| .eql rfl rfl <| .move rfl <| .nil) ?_
  clear Hz Az; intro Az Hz
  refine bool_cases Hz (t := 31) rfl ?_ ?_
  ·
   clear Hz; intro hb43 Hz; try simp only [QQ, Qax] at hb43
   refine goCh Hz (.moveZ rfl <| .gtrZ rfl rfl <| .pickT rfl rfl <| .nil) ?_
   clear Hz Az; intro Az Hz
   refine nl (hK6 _ _ ?_); clear hK6
   refine bool_cases Hz (t := 34) rfl ?_ ?_
   ·
    clear Hz; intro hb47 Hz; try simp only [QQ, Qax] at hb47
    have hN : numR b 0 mx = (0, [], 20) := numR_err mx (by rw [← hD, if_pos (.inl ⟨by omega, by omega⟩)])
    refine wp_cond_true (Hz.ev (x := .tmp 34) rfl) ?_
    replace Hz : Has 73 [(0, _), (1, _), (5, _), (6, _), (7, _)] Az := Hz.only [0, 1, 5, 6, 7]
    refine sr fun K7 hK7 => ?_
    refine goCh Hz (.move rfl .nil) ?_
    clear Hz Az; intro Az Hz
    refine wpList_plain rfl (fun K hK => ?_)
    refine e_call Hz Try.func75 rfl rfl rfl rfl (rfail_x _ _ _ _ _ _ (m32.into [(1, 1)] (by decide) rfl)) ?_
    rintro e w51 ⟨rfl, hm51⟩
    have mx51 := m32.back hm51 [(1, 1)] (by decide); clear hm51 m32
    have m51 : MemOk _ _ [(1, _), (2, _), (100, _)] _ := mx51.only [1, 2, 100]; clear mx51
    refine ⟨_, rfl, ?_⟩; clear Hz Az; intro Az Hz
    refine hK _ _ ?_; clear hK
    refine nl (hK7 _ _ ?_); clear hK7
    refine regS Hz (.assign rfl <| .nil) ?_
    clear Hz Az; intro Az Hz
    refine wp_ret ?_
    try dsimp only [Exit.then, Exit.inBlock]
    refine (ret1 (fn := Try.f65) Hz rfl rfl ?_)
    have m54 := m51.dat 90 rfl (Rd.nilN _ _ .u8 none); clear m51
    rw [hN]
    exact ⟨_, _, rfl, m54.ren [(1, 1), (2, 90)] (by decide)⟩
   clear Hz; intro hb47 Hz; try simp only [QQ, Qax] at hb47
   have h9 : k = 9 → (b.getD k 0) ≤ 1 := by omega
   obtain ⟨v, hv⟩ : ∃ v, u + ((b.getD k 0) % 128).toNat * 2 ^ (7 * k) = v := ⟨_, rfl⟩
   refine wp_cond_false (Hz.ev (x := .tmp 34) rfl) ?_
   refine ss (hK5 _ _ ?_); clear hK5
   replace Hz : Has 73 [(0, _), (1, _), (5, _), (6, _), (7, _)] Az := Hz.only [0, 1, 5, 6, 7]
   refine regS Hz (.move rfl <| .move rfl <| .and rfl rfl (r := (b.getD k 0) % 128) (andx hxb.1 hxb.2) <| .conv rfl U5 U111 (r := (b.getD k 0) % 128) (IntWalk.u64_in _ (by omega)) <| .move rfl <| .mul rfl rfl (r := 7 * (k : Int)) (IntWalk.i64_in _ (by omega)) <| .shl rfl rfl (by omega) (r := IntKind.u64.wrap ((b.getD k 0) % 128 * 2 ^ (7 * k))) (by rw [shx hk9]) <| .or rfl rfl (r := (v : Int)) (by rw [← hv]; exact or_shift u k (b.getD k 0) hu hk9 hxb.1 hxb.2 h9) <| .assign rfl <| .nil) ?_
   clear Hz Az; intro Az Hz
   replace Hz : Has 73 [(0, _), (1, _), (5, _), (6, _), (7, _)] Az := Hz.only [0, 1, 5, 6, 7]
   refine regS Hz (.move rfl <| .lss rfl rfl <| .nil) ?_
   clear Hz Az; intro Az Hz
   refine bool_cases Hz (t := 46) rfl ?_ ?_
   ·
    clear Hz; intro hb68 Hz; try simp only [QQ, Qax] at hb68
    refine wp_cond_true (Hz.ev (x := .tmp 46) rfl) ?_
    refine wp_seq_k (fun K8 hK8 => ?_)
    refine sr fun K9 hK9 => ?_
    refine goCh Hz (.move rfl <| .gtr rfl rfl <| .move rfl <| .nil) ?_
    clear Hz Az; intro Az Hz
    refine bool_cases Hz (t := 49) rfl ?_ ?_
    ·
     clear Hz; intro hb75 Hz; try simp only [QQ, Qax] at hb75
     refine goCh Hz (.moveZ rfl <| .eqlZ rfl rfl <| .pickT rfl rfl <| .nil) ?_
     clear Hz Az; intro Az Hz
     refine nl (hK9 _ _ ?_); clear hK9
     refine bool_cases Hz (t := 52) rfl ?_ ?_
     ·
      clear Hz; intro hb79 Hz; try simp only [QQ, Qax] at hb79
      have hN : numR b 0 mx = (0, [], 20) := numR_err mx (by rw [← hD, if_pos (.inr ⟨by omega, by omega⟩)])
      refine wp_cond_true (Hz.ev (x := .tmp 52) rfl) ?_
      replace Hz : Has 73 [(0, _), (1, _), (5, _), (6, _)] Az := Hz.only [0, 1, 5, 6]
      refine sr fun K10 hK10 => ?_
      refine goCh Hz (.move rfl .nil) ?_
      clear Hz Az; intro Az Hz
      refine wpList_plain rfl (fun K hK => ?_)
      refine e_call Hz Try.func75 rfl rfl rfl rfl (rfail_x _ _ _ _ _ _ (m32.into [(1, 1)] (by decide) rfl)) ?_
      rintro e w83 ⟨rfl, hm83⟩
      have mx83 := m32.back hm83 [(1, 1)] (by decide); clear hm83 m32
      have m83 : MemOk _ _ [(1, _), (2, _), (100, _)] _ := mx83.only [1, 2, 100]; clear mx83
      refine ⟨_, rfl, ?_⟩; clear Hz Az; intro Az Hz
      refine hK _ _ ?_; clear hK
      refine nl (hK10 _ _ ?_); clear hK10
      refine regS Hz (.assign rfl <| .nil) ?_
      clear Hz Az; intro Az Hz
      refine wp_ret ?_
      try dsimp only [Exit.then, Exit.inBlock]
      refine (ret1 (fn := Try.f65) Hz rfl rfl ?_)
      have m86 := m83.dat 90 rfl (Rd.nilN _ _ .u8 none); clear m83
      rw [hN]
      exact ⟨_, _, rfl, m86.ren [(1, 1), (2, 90)] (by decide)⟩
     clear Hz; intro hb79 Hz; try simp only [QQ, Qax] at hb79
     have hz : ¬ (0 < k ∧ (b.getD k 0) = 0) := by omega
     have hno : ¬ ((k = 9 ∧ 1 < (b.getD k 0)) ∨ (0 < k ∧ (b.getD k 0) = 0)) := fun h => h.elim (fun h => by have := h9 h.1; omega) hz
     have hO : dec 0 0 b = .ok v (k + 1) := by rw [← hD, if_neg hno, if_pos (by omega), hv]
     refine wp_cond_false (Hz.ev (x := .tmp 52) rfl) ?_
     refine ss (hK8 _ _ ?_); clear hK8
     refine wp_seq_k (fun K11 hK11 => ?_)
     replace Hz : Has 73 [(0, _), (1, _), (5, _), (6, _)] Az := Hz.only [0, 1, 5, 6]
     refine regS Hz (.move rfl <| .move rfl <| .gtr rfl rfl <| .nil) ?_
     clear Hz Az; intro Az Hz
     refine bool_cases Hz (t := 57) rfl ?_ ?_
     ·
      clear Hz; intro hb91 Hz; try simp only [QQ, Qax] at hb91
      have hN : numR b 0 mx = (0, [], 22) := by rw [numR_val mx hO, if_pos (by omega)]
      refine wp_cond_true (Hz.ev (x := .tmp 57) rfl) ?_
      refine sr fun K12 hK12 => ?_
      refine goCh Hz (.move rfl .nil) ?_
      clear Hz Az; intro Az Hz
      refine wpList_plain rfl (fun K hK => ?_)
      refine e_call Hz Try.func75 rfl rfl rfl rfl (rfail_x _ _ _ _ _ _ (m32.into [(1, 1)] (by decide) rfl)) ?_
      rintro e w94 ⟨rfl, hm94⟩
      have mx94 := m32.back hm94 [(1, 1)] (by decide); clear hm94 m32
      have m94 : MemOk _ _ [(1, _), (2, _), (100, _)] _ := mx94.only [1, 2, 100]; clear mx94
      refine ⟨_, rfl, ?_⟩; clear Hz Az; intro Az Hz
      refine hK _ _ ?_; clear hK
      refine nl (hK12 _ _ ?_); clear hK12
      refine regS Hz (.assign rfl <| .nil) ?_
      clear Hz Az; intro Az Hz
      refine wp_ret ?_
      try dsimp only [Exit.then, Exit.inBlock]
      refine (ret1 (fn := Try.f65) Hz rfl rfl ?_)
      have m97 := m94.dat 90 rfl (Rd.nilN _ _ .u8 none); clear m94
      rw [hN]
      exact ⟨_, _, rfl, m97.ren [(1, 1), (2, 90)] (by decide)⟩
     clear Hz; intro hb91 Hz; try simp only [QQ, Qax] at hb91
     have hN : numR b 0 mx = ((v : Int), b.drop (k + 1), 0) := by rw [numR_val mx hO, if_neg (by omega)]
     refine wp_cond_false (Hz.ev (x := .tmp 57) rfl) ?_
     refine ss (hK11 _ _ ?_); clear hK11
     refine sr fun K13 hK13 => ?_
     refine goCh Hz (.move rfl <| .move rfl <| .nilCheck rfl <| .fa 0 rfl U115 <| .lb m32 1 U25 rfl rfl rfl <| .move rfl <| .add rfl rfl (r := ((k + 1 : Nat) : Int)) (by rw [IntWalk.i64_in _ (by omega)]; omega) <| .nil) ?_
     clear Hz Az; intro Az Hz
     have m113 := m32.dropN (i := 2) rfl (k + 1) (show k + 1 ≤ b.length by omega) 101 rfl; clear m32
     refine goCh Hz (.c rfl (fun _ h => y_sliceLn h (k + 1) rfl rfl U25 fct0 rfl (show k + 1 ≤ b.length by omega)) <| .nilCheck rfl <| .fa 0 rfl U115 <| .nil) ?_
     clear Hz Az; intro Az Hz
     refine wpList_plain rfl (fun K hK => ?_)
     refine e_store1 Hz m113 1 rfl rfl rfl rfl rfl fct21 (by dsimp only [List.set] <;> rfl) ?_
     clear m113; intro w117 m117 hB117
     clear hB117
     refine hK _ _ ?_; clear hK
     refine nl (hK13 _ _ ?_); clear hK13
     replace Hz : Has 73 [(0, _), (1, _), (5, _), (6, _), (57, _)] Az := Hz.only [0, 1, 5, 6, 57]
     refine regS Hz (.move rfl <| .assign rfl <| .nil) ?_
     clear Hz Az; intro Az Hz
     refine wp_ret ?_
     try dsimp only [Exit.then, Exit.inBlock]
     refine (ret1 (fn := Try.f65) Hz rfl rfl ?_)
     have hl9 : b.length - (k + 1) = (b.drop (k + 1)).length := by rw [List.length_drop]
     rw [hl9] at m117
     rw [hN]
     exact ⟨_, _, rfl, m117.ren [(1, 1), (2, 101)] (by decide)⟩
    clear Hz; intro hb75 Hz; try simp only [QQ, Qax] at hb75
    have hz : ¬ (0 < k ∧ (b.getD k 0) = 0) := by omega
    have hno : ¬ ((k = 9 ∧ 1 < (b.getD k 0)) ∨ (0 < k ∧ (b.getD k 0) = 0)) := fun h => h.elim (fun h => by have := h9 h.1; omega) hz
    have hO : dec 0 0 b = .ok v (k + 1) := by rw [← hD, if_neg hno, if_pos (by omega), hv]
    refine goCh Hz (.sk <| .sk <| .pickF rfl rfl <| .nil) ?_
    clear Hz Az; intro Az Hz
    refine nl (hK9 _ _ ?_); clear hK9
    refine wp_cond_false (Hz.ev (x := .tmp 52) rfl) ?_
    refine ss (hK8 _ _ ?_); clear hK8
    refine wp_seq_k (fun K14 hK14 => ?_)
    replace Hz : Has 73 [(0, _), (1, _), (5, _), (6, _)] Az := Hz.only [0, 1, 5, 6]
    refine regS Hz (.move rfl <| .move rfl <| .gtr rfl rfl <| .nil) ?_
    clear Hz Az; intro Az Hz
    refine bool_cases Hz (t := 57) rfl ?_ ?_
    ·
     clear Hz; intro hb128 Hz; try simp only [QQ, Qax] at hb128
     have hN : numR b 0 mx = (0, [], 22) := by rw [numR_val mx hO, if_pos (by omega)]
     refine wp_cond_true (Hz.ev (x := .tmp 57) rfl) ?_
     refine sr fun K15 hK15 => ?_
     refine goCh Hz (.move rfl .nil) ?_
     clear Hz Az; intro Az Hz
     refine wpList_plain rfl (fun K hK => ?_)
     refine e_call Hz Try.func75 rfl rfl rfl rfl (rfail_x _ _ _ _ _ _ (m32.into [(1, 1)] (by decide) rfl)) ?_
     rintro e w131 ⟨rfl, hm131⟩
     have mx131 := m32.back hm131 [(1, 1)] (by decide); clear hm131 m32
     have m131 : MemOk _ _ [(1, _), (2, _), (100, _)] _ := mx131.only [1, 2, 100]; clear mx131
     refine ⟨_, rfl, ?_⟩; clear Hz Az; intro Az Hz
     refine hK _ _ ?_; clear hK
     refine nl (hK15 _ _ ?_); clear hK15
     refine regS Hz (.assign rfl <| .nil) ?_
     clear Hz Az; intro Az Hz
     refine wp_ret ?_
     try dsimp only [Exit.then, Exit.inBlock]
     refine (ret1 (fn := Try.f65) Hz rfl rfl ?_)
     have m134 := m131.dat 90 rfl (Rd.nilN _ _ .u8 none); clear m131
     rw [hN]
     exact ⟨_, _, rfl, m134.ren [(1, 1), (2, 90)] (by decide)⟩
    clear Hz; intro hb128 Hz; try simp only [QQ, Qax] at hb128
    have hN : numR b 0 mx = ((v : Int), b.drop (k + 1), 0) := by rw [numR_val mx hO, if_neg (by omega)]
    refine wp_cond_false (Hz.ev (x := .tmp 57) rfl) ?_
    refine ss (hK14 _ _ ?_); clear hK14
    refine sr fun K16 hK16 => ?_
    refine goCh Hz (.move rfl <| .move rfl <| .nilCheck rfl <| .fa 0 rfl U115 <| .lb m32 1 U25 rfl rfl rfl <| .move rfl <| .add rfl rfl (r := ((k + 1 : Nat) : Int)) (by rw [IntWalk.i64_in _ (by omega)]; omega) <| .nil) ?_
    clear Hz Az; intro Az Hz
    have m150 := m32.dropN (i := 2) rfl (k + 1) (show k + 1 ≤ b.length by omega) 101 rfl; clear m32
    refine goCh Hz (.c rfl (fun _ h => y_sliceLn h (k + 1) rfl rfl U25 fct0 rfl (show k + 1 ≤ b.length by omega)) <| .nilCheck rfl <| .fa 0 rfl U115 <| .nil) ?_
    clear Hz Az; intro Az Hz
    refine wpList_plain rfl (fun K hK => ?_)
    refine e_store1 Hz m150 1 rfl rfl rfl rfl rfl fct21 (by dsimp only [List.set] <;> rfl) ?_
    clear m150; intro w154 m154 hB154
    clear hB154
    refine hK _ _ ?_; clear hK
    refine nl (hK16 _ _ ?_); clear hK16
    replace Hz : Has 73 [(0, _), (1, _), (5, _), (6, _), (57, _)] Az := Hz.only [0, 1, 5, 6, 57]
    refine regS Hz (.move rfl <| .assign rfl <| .nil) ?_
    clear Hz Az; intro Az Hz
    refine wp_ret ?_
    try dsimp only [Exit.then, Exit.inBlock]
    refine (ret1 (fn := Try.f65) Hz rfl rfl ?_)
    have hl9 : b.length - (k + 1) = (b.drop (k + 1)).length := by rw [List.length_drop]
    rw [hl9] at m154
    rw [hN]
    exact ⟨_, _, rfl, m154.ren [(1, 1), (2, 101)] (by decide)⟩
   clear Hz; intro hb68 Hz; try simp only [QQ, Qax] at hb68
   have hz : ¬ (0 < k ∧ (b.getD k 0) = 0) := by omega
   have hno : ¬ ((k = 9 ∧ 1 < (b.getD k 0)) ∨ (0 < k ∧ (b.getD k 0) = 0)) := fun h => h.elim (fun h => by have := h9 h.1; omega) hz
   refine wp_cond_false (Hz.ev (x := .tmp 46) rfl) ?_
   refine ss (hK3 _ _ ?_); clear hK3
   refine wp_region_lit ?_
   refine goCh Hz (.move rfl <| .add rfl rfl (r := ((k + 1 : Nat) : Int)) (by rw [IntWalk.i64_in _ (by omega)]; omega) <| .assign rfl <| .nil) ?_
   clear Hz Az; intro Az Hz
   refine wpList_nil ?_
   show ∃ n', n' < _ ∧ _
   exact ⟨b.length - (k + 1), by omega, k + 1, v, by omega, by omega, rfl, by rw [← hv]; exact acc_bound u k (b.getD k 0) hu, by rw [← hD, if_neg hno, if_neg (by omega), hv], Hz.only [0, 1, 5, 6], m32.only [1, 2]⟩
  clear Hz; intro hb43 Hz; try simp only [QQ, Qax] at hb43
  have h9 : k = 9 → (b.getD k 0) ≤ 1 := by omega
  obtain ⟨v, hv⟩ : ∃ v, u + ((b.getD k 0) % 128).toNat * 2 ^ (7 * k) = v := ⟨_, rfl⟩
  refine goCh Hz (.sk <| .sk <| .pickF rfl rfl <| .nil) ?_
  clear Hz Az; intro Az Hz
  refine nl (hK6 _ _ ?_); clear hK6
  refine wp_cond_false (Hz.ev (x := .tmp 34) rfl) ?_
  refine ss (hK5 _ _ ?_); clear hK5
  replace Hz : Has 73 [(0, _), (1, _), (5, _), (6, _), (7, _)] Az := Hz.only [0, 1, 5, 6, 7]
  refine regS Hz (.move rfl <| .move rfl <| .and rfl rfl (r := (b.getD k 0) % 128) (andx hxb.1 hxb.2) <| .conv rfl U5 U111 (r := (b.getD k 0) % 128) (IntWalk.u64_in _ (by omega)) <| .move rfl <| .mul rfl rfl (r := 7 * (k : Int)) (IntWalk.i64_in _ (by omega)) <| .shl rfl rfl (by omega) (r := IntKind.u64.wrap ((b.getD k 0) % 128 * 2 ^ (7 * k))) (by rw [shx hk9]) <| .or rfl rfl (r := (v : Int)) (by rw [← hv]; exact or_shift u k (b.getD k 0) hu hk9 hxb.1 hxb.2 h9) <| .assign rfl <| .nil) ?_
  clear Hz Az; intro Az Hz
  replace Hz : Has 73 [(0, _), (1, _), (5, _), (6, _), (7, _)] Az := Hz.only [0, 1, 5, 6, 7]
  refine regS Hz (.move rfl <| .lss rfl rfl <| .nil) ?_
  clear Hz Az; intro Az Hz
  refine bool_cases Hz (t := 46) rfl ?_ ?_
  ·
   clear Hz; intro hb177 Hz; try simp only [QQ, Qax] at hb177
   refine wp_cond_true (Hz.ev (x := .tmp 46) rfl) ?_
   refine wp_seq_k (fun K17 hK17 => ?_)
   refine sr fun K18 hK18 => ?_
   refine goCh Hz (.move rfl <| .gtr rfl rfl <| .move rfl <| .nil) ?_
   clear Hz Az; intro Az Hz
   refine bool_cases Hz (t := 49) rfl ?_ ?_
   ·
    clear Hz; intro hb184 Hz; try simp only [QQ, Qax] at hb184
    refine goCh Hz (.moveZ rfl <| .eqlZ rfl rfl <| .pickT rfl rfl <| .nil) ?_
    clear Hz Az; intro Az Hz
    refine nl (hK18 _ _ ?_); clear hK18
    refine bool_cases Hz (t := 52) rfl ?_ ?_
    ·
     clear Hz; intro hb188 Hz; try simp only [QQ, Qax] at hb188
     have hN : numR b 0 mx = (0, [], 20) := numR_err mx (by rw [← hD, if_pos (.inr ⟨by omega, by omega⟩)])
     refine wp_cond_true (Hz.ev (x := .tmp 52) rfl) ?_
     replace Hz : Has 73 [(0, _), (1, _), (5, _), (6, _)] Az := Hz.only [0, 1, 5, 6]
     refine sr fun K19 hK19 => ?_
     refine goCh Hz (.move rfl .nil) ?_
     clear Hz Az; intro Az Hz
     refine wpList_plain rfl (fun K hK => ?_)
     refine e_call Hz Try.func75 rfl rfl rfl rfl (rfail_x _ _ _ _ _ _ (m32.into [(1, 1)] (by decide) rfl)) ?_
     rintro e w192 ⟨rfl, hm192⟩
     have mx192 := m32.back hm192 [(1, 1)] (by decide); clear hm192 m32
     have m192 : MemOk _ _ [(1, _), (2, _), (100, _)] _ := mx192.only [1, 2, 100]; clear mx192
     refine ⟨_, rfl, ?_⟩; clear Hz Az; intro Az Hz
     refine hK _ _ ?_; clear hK
     refine nl (hK19 _ _ ?_); clear hK19
     refine regS Hz (.assign rfl <| .nil) ?_
     clear Hz Az; intro Az Hz
     refine wp_ret ?_
     try dsimp only [Exit.then, Exit.inBlock]
     refine (ret1 (fn := Try.f65) Hz rfl rfl ?_)
     have m195 := m192.dat 90 rfl (Rd.nilN _ _ .u8 none); clear m192
     rw [hN]
     exact ⟨_, _, rfl, m195.ren [(1, 1), (2, 90)] (by decide)⟩
    clear Hz; intro hb188 Hz; try simp only [QQ, Qax] at hb188
    have hz : ¬ (0 < k ∧ (b.getD k 0) = 0) := by omega
    have hno : ¬ ((k = 9 ∧ 1 < (b.getD k 0)) ∨ (0 < k ∧ (b.getD k 0) = 0)) := fun h => h.elim (fun h => by have := h9 h.1; omega) hz
    have hO : dec 0 0 b = .ok v (k + 1) := by rw [← hD, if_neg hno, if_pos (by omega), hv]
    refine wp_cond_false (Hz.ev (x := .tmp 52) rfl) ?_
    refine ss (hK17 _ _ ?_); clear hK17
    refine wp_seq_k (fun K20 hK20 => ?_)
    replace Hz : Has 73 [(0, _), (1, _), (5, _), (6, _)] Az := Hz.only [0, 1, 5, 6]
    refine regS Hz (.move rfl <| .move rfl <| .gtr rfl rfl <| .nil) ?_
    clear Hz Az; intro Az Hz
    refine bool_cases Hz (t := 57) rfl ?_ ?_
    ·
     clear Hz; intro hb200 Hz; try simp only [QQ, Qax] at hb200
     have hN : numR b 0 mx = (0, [], 22) := by rw [numR_val mx hO, if_pos (by omega)]
     refine wp_cond_true (Hz.ev (x := .tmp 57) rfl) ?_
     refine sr fun K21 hK21 => ?_
     refine goCh Hz (.move rfl .nil) ?_
     clear Hz Az; intro Az Hz
     refine wpList_plain rfl (fun K hK => ?_)
     refine e_call Hz Try.func75 rfl rfl rfl rfl (rfail_x _ _ _ _ _ _ (m32.into [(1, 1)] (by decide) rfl)) ?_
     rintro e w203 ⟨rfl, hm203⟩
     have mx203 := m32.back hm203 [(1, 1)] (by decide); clear hm203 m32
     have m203 : MemOk _ _ [(1, _), (2, _), (100, _)] _ := mx203.only [1, 2, 100]; clear mx203
     refine ⟨_, rfl, ?_⟩; clear Hz Az; intro Az Hz
     refine hK _ _ ?_; clear hK
     refine nl (hK21 _ _ ?_); clear hK21
     refine regS Hz (.assign rfl <| .nil) ?_
     clear Hz Az; intro Az Hz
     refine wp_ret ?_
     try dsimp only [Exit.then, Exit.inBlock]
     refine (ret1 (fn := Try.f65) Hz rfl rfl ?_)
     have m206 := m203.dat 90 rfl (Rd.nilN _ _ .u8 none); clear m203
     rw [hN]
     exact ⟨_, _, rfl, m206.ren [(1, 1), (2, 90)] (by decide)⟩
    clear Hz; intro hb200 Hz; try simp only [QQ, Qax] at hb200
    have hN : numR b 0 mx = ((v : Int), b.drop (k + 1), 0) := by rw [numR_val mx hO, if_neg (by omega)]
    refine wp_cond_false (Hz.ev (x := .tmp 57) rfl) ?_
    refine ss (hK20 _ _ ?_); clear hK20
    refine sr fun K22 hK22 => ?_
    refine goCh Hz (.move rfl <| .move rfl <| .nilCheck rfl <| .fa 0 rfl U115 <| .lb m32 1 U25 rfl rfl rfl <| .move rfl <| .add rfl rfl (r := ((k + 1 : Nat) : Int)) (by rw [IntWalk.i64_in _ (by omega)]; omega) <| .nil) ?_
    clear Hz Az; intro Az Hz
    have m222 := m32.dropN (i := 2) rfl (k + 1) (show k + 1 ≤ b.length by omega) 101 rfl; clear m32
    refine goCh Hz (.c rfl (fun _ h => y_sliceLn h (k + 1) rfl rfl U25 fct0 rfl (show k + 1 ≤ b.length by omega)) <| .nilCheck rfl <| .fa 0 rfl U115 <| .nil) ?_
    clear Hz Az; intro Az Hz
    refine wpList_plain rfl (fun K hK => ?_)
    refine e_store1 Hz m222 1 rfl rfl rfl rfl rfl fct21 (by dsimp only [List.set] <;> rfl) ?_
    clear m222; intro w226 m226 hB226
    clear hB226
    refine hK _ _ ?_; clear hK
    refine nl (hK22 _ _ ?_); clear hK22
    replace Hz : Has 73 [(0, _), (1, _), (5, _), (6, _), (57, _)] Az := Hz.only [0, 1, 5, 6, 57]
    refine regS Hz (.move rfl <| .assign rfl <| .nil) ?_
    clear Hz Az; intro Az Hz
    refine wp_ret ?_
    try dsimp only [Exit.then, Exit.inBlock]
    refine (ret1 (fn := Try.f65) Hz rfl rfl ?_)
    have hl9 : b.length - (k + 1) = (b.drop (k + 1)).length := by rw [List.length_drop]
    rw [hl9] at m226
    rw [hN]
    exact ⟨_, _, rfl, m226.ren [(1, 1), (2, 101)] (by decide)⟩
   clear Hz; intro hb184 Hz; try simp only [QQ, Qax] at hb184
   have hz : ¬ (0 < k ∧ (b.getD k 0) = 0) := by omega
   have hno : ¬ ((k = 9 ∧ 1 < (b.getD k 0)) ∨ (0 < k ∧ (b.getD k 0) = 0)) := fun h => h.elim (fun h => by have := h9 h.1; omega) hz
   have hO : dec 0 0 b = .ok v (k + 1) := by rw [← hD, if_neg hno, if_pos (by omega), hv]
   refine goCh Hz (.sk <| .sk <| .pickF rfl rfl <| .nil) ?_
   clear Hz Az; intro Az Hz
   refine nl (hK18 _ _ ?_); clear hK18
   refine wp_cond_false (Hz.ev (x := .tmp 52) rfl) ?_
   refine ss (hK17 _ _ ?_); clear hK17
   refine wp_seq_k (fun K23 hK23 => ?_)
   replace Hz : Has 73 [(0, _), (1, _), (5, _), (6, _)] Az := Hz.only [0, 1, 5, 6]
   refine regS Hz (.move rfl <| .move rfl <| .gtr rfl rfl <| .nil) ?_
   clear Hz Az; intro Az Hz
   refine bool_cases Hz (t := 57) rfl ?_ ?_
   ·
    clear Hz; intro hb237 Hz; try simp only [QQ, Qax] at hb237
    have hN : numR b 0 mx = (0, [], 22) := by rw [numR_val mx hO, if_pos (by omega)]
    refine wp_cond_true (Hz.ev (x := .tmp 57) rfl) ?_
    refine sr fun K24 hK24 => ?_
    refine goCh Hz (.move rfl .nil) ?_
    clear Hz Az; intro Az Hz
    refine wpList_plain rfl (fun K hK => ?_)
    refine e_call Hz Try.func75 rfl rfl rfl rfl (rfail_x _ _ _ _ _ _ (m32.into [(1, 1)] (by decide) rfl)) ?_
    rintro e w240 ⟨rfl, hm240⟩
    have mx240 := m32.back hm240 [(1, 1)] (by decide); clear hm240 m32
    have m240 : MemOk _ _ [(1, _), (2, _), (100, _)] _ := mx240.only [1, 2, 100]; clear mx240
    refine ⟨_, rfl, ?_⟩; clear Hz Az; intro Az Hz
    refine hK _ _ ?_; clear hK
    refine nl (hK24 _ _ ?_); clear hK24
    refine regS Hz (.assign rfl <| .nil) ?_
    clear Hz Az; intro Az Hz
    refine wp_ret ?_
    try dsimp only [Exit.then, Exit.inBlock]
    refine (ret1 (fn := Try.f65) Hz rfl rfl ?_)
    have m243 := m240.dat 90 rfl (Rd.nilN _ _ .u8 none); clear m240
    rw [hN]
    exact ⟨_, _, rfl, m243.ren [(1, 1), (2, 90)] (by decide)⟩
   clear Hz; intro hb237 Hz; try simp only [QQ, Qax] at hb237
   have hN : numR b 0 mx = ((v : Int), b.drop (k + 1), 0) := by rw [numR_val mx hO, if_neg (by omega)]
   refine wp_cond_false (Hz.ev (x := .tmp 57) rfl) ?_
   refine ss (hK23 _ _ ?_); clear hK23
   refine sr fun K25 hK25 => ?_
   refine goCh Hz (.move rfl <| .move rfl <| .nilCheck rfl <| .fa 0 rfl U115 <| .lb m32 1 U25 rfl rfl rfl <| .move rfl <| .add rfl rfl (r := ((k + 1 : Nat) : Int)) (by rw [IntWalk.i64_in _ (by omega)]; omega) <| .nil) ?_
   clear Hz Az; intro Az Hz
   have m259 := m32.dropN (i := 2) rfl (k + 1) (show k + 1 ≤ b.length by omega) 101 rfl; clear m32
   refine goCh Hz (.c rfl (fun _ h => y_sliceLn h (k + 1) rfl rfl U25 fct0 rfl (show k + 1 ≤ b.length by omega)) <| .nilCheck rfl <| .fa 0 rfl U115 <| .nil) ?_
   clear Hz Az; intro Az Hz
   refine wpList_plain rfl (fun K hK => ?_)
   refine e_store1 Hz m259 1 rfl rfl rfl rfl rfl fct21 (by dsimp only [List.set] <;> rfl) ?_
   clear m259; intro w263 m263 hB263
   clear hB263
   refine hK _ _ ?_; clear hK
   refine nl (hK25 _ _ ?_); clear hK25
   replace Hz : Has 73 [(0, _), (1, _), (5, _), (6, _), (57, _)] Az := Hz.only [0, 1, 5, 6, 57]
   refine regS Hz (.move rfl <| .assign rfl <| .nil) ?_
   clear Hz Az; intro Az Hz
   refine wp_ret ?_
   try dsimp only [Exit.then, Exit.inBlock]
   refine (ret1 (fn := Try.f65) Hz rfl rfl ?_)
   have hl9 : b.length - (k + 1) = (b.drop (k + 1)).length := by rw [List.length_drop]
   rw [hl9] at m263
   rw [hN]
   exact ⟨_, _, rfl, m263.ren [(1, 1), (2, 101)] (by decide)⟩
  clear Hz; intro hb177 Hz; try simp only [QQ, Qax] at hb177
  have hz : ¬ (0 < k ∧ (b.getD k 0) = 0) := by omega
  have hno : ¬ ((k = 9 ∧ 1 < (b.getD k 0)) ∨ (0 < k ∧ (b.getD k 0) = 0)) := fun h => h.elim (fun h => by have := h9 h.1; omega) hz
  refine wp_cond_false (Hz.ev (x := .tmp 46) rfl) ?_
  refine ss (hK3 _ _ ?_); clear hK3
  refine wp_region_lit ?_
  refine goCh Hz (.move rfl <| .add rfl rfl (r := ((k + 1 : Nat) : Int)) (by rw [IntWalk.i64_in _ (by omega)]; omega) <| .assign rfl <| .nil) ?_
  clear Hz Az; intro Az Hz
  refine wpList_nil ?_
  show ∃ n', n' < _ ∧ _
  exact ⟨b.length - (k + 1), by omega, k + 1, v, by omega, by omega, rfl, by rw [← hv]; exact acc_bound u k (b.getD k 0) hu, by rw [← hD, if_neg hno, if_neg (by omega), hv], Hz.only [0, 1, 5, 6], m32.only [1, 2]⟩
 clear Hz; intro hb19 Hz; try simp only [QQ, Qax] at hb19
 obtain rfl : k = b.length := by omega
 have hN : numR b 0 mx = (0, [], 21) := numR_err mx (by rw [← hD0, List.drop_length]; rfl)
 refine wp_cond_false (Hz.ev (x := .tmp 19) rfl) ?_
 refine wp_exit ?_
 refine hK1 _ _ ?_; clear hK1
 replace Hz : Has 73 [(0, _), (1, _), (5, _), (6, _)] Az := Hz.only [0, 1, 5, 6]
 refine sr fun K26 hK26 => ?_
 refine goCh Hz (.move rfl .nil) ?_
 clear Hz Az; intro Az Hz
 refine wpList_plain rfl (fun K hK => ?_)
 refine e_call Hz Try.func75 rfl rfl rfl rfl (rfail_x _ _ _ _ _ _ (m11.into [(1, 1)] (by decide) rfl)) ?_
 rintro e w273 ⟨rfl, hm273⟩
 have mx273 := m11.back hm273 [(1, 1)] (by decide); clear hm273 m11
 have m273 : MemOk _ _ [(1, _), (2, _)] _ := mx273.only [1, 2]; clear mx273
 refine ⟨_, rfl, ?_⟩; clear Hz Az; intro Az Hz
 refine hK _ _ ?_; clear hK
 refine nl (hK26 _ _ ?_); clear hK26
 refine regS Hz (.assign rfl <| .nil) ?_
 clear Hz Az; intro Az Hz
 refine wp_ret ?_
 try dsimp only [Exit.then, Exit.inBlock]
 refine (ret1 (fn := Try.f65) Hz rfl rfl ?_)
 have m276 := m273.dat 90 rfl (Rd.nilN _ _ .u8 none); clear m273
 rw [hN]
 exact ⟨_, _, rfl, m276.ren [(1, 1), (2, 90)] (by decide)⟩
theorem rnum_ok (X : Cx) (B : Nat) (b : List Int) (mx : Int) (p : Option Addr) (c : Nat) (w0 : World) (x : Int) (rest : List Int) (hb : b.length ≤ 1000000) (hbb : BytesL b) (hbe : b = enc x ++ rest) (hmx : mx ≤ 18446744073709551615) (hx : 0 ≤ x ∧ x ≤ mx) (m0 : MemOk X w0 [(1, .box B 115 [.slice p (b).length c, .int .i64 0]), (2, .dat (.slice p (b).length c) (.ns .u8 (b)))] w0) :
   Calls Try.prog 65 #[.pointer (some ⟨B, 0, none⟩), .int .u64 mx] w0 fun e w' => ∃ (p' : Option Addr) (c' : Nat), e = .returned (.int .u64 x) ∧ MemOk X w0 [(1, .box B 115 [.slice p' (rest).length c', .int .i64 0]), (2, .dat (.slice p' (rest).length c') (.ns .u8 (rest)))] w' := by
 have h := rnum_x X B b 0 mx p c w0 hb hbb m0
 have hN : numR b 0 mx = (x, rest, 0) := by rw [hbe]; exact numR_ok x hx.1 (by omega) rest mx hx.2
 rw [hN] at h
 exact h
theorem rtakePlace_x (X : Cx) (B : Nat) (b : List Int) (p : Option Addr) (c : Nat) (w0 : World) (pl rest : List Int) (hb : b.length ≤ 1000000) (hbb : BytesL b) (hbe : b = enc pl.length ++ (encs pl ++ rest)) (hpl : pl.length ≤ 256) (hpb : ∀ k, k < pl.length → 0 ≤ pl.getD k 0 ∧ pl.getD k 0 ≤ 8) (m0 : MemOk X w0 [(1, .box B 115 [.slice p (b).length c, .int .i64 0]), (2, .dat (.slice p (b).length c) (.ns .u8 (b)))] w0) :
   Calls Try.prog 66 #[.pointer (some ⟨B, 0, none⟩)] w0 fun e w' => ∃ (p' : Option Addr) (c' : Nat) (p3 : Option Addr) (c3 : Nat), e = .returned (.slice p3 pl.length c3) ∧ MemOk X w0 [(1, .box B 115 [.slice p' (rest).length c', .int .i64 0]), (2, .dat (.slice p' (rest).length c') (.ns .u8 (rest))), (3, .dat (.slice p3 pl.length c3) (.ns .i64 pl))] w' := by
 refine ent1 Try.func66 rfl Try.ntmps66 fun Az Hz => ?_
 refine regS Hz (.assign rfl <| .nil) ?_
 clear Hz Az; intro Az Hz
 refine regS Hz (.assign rfl <| .nil) ?_
 clear Hz Az; intro Az Hz
 refine sr fun K0 hK0 => ?_
 refine goCh Hz (.move rfl .nil) ?_
 clear Hz Az; intro Az Hz
 refine wpList_plain rfl (fun K hK => ?_)
 refine e_call Hz Try.func65 rfl rfl rfl rfl (rnum_ok _ _ _ 256 _ _ _ (pl.length : Int) (encs pl ++ rest) hb hbb hbe (by decide) (by omega) (m0.into [(1, 1), (2, 2)] (by decide) rfl)) ?_
 rintro e w5 ⟨p5, c5, rfl, hm5⟩
 have mx5 := m0.back hm5 [(1, 1), (2, 2)] (by decide); clear hm5 m0
 have m5 : MemOk _ _ [(1, _), (2, _)] _ := mx5.only [1, 2]; clear mx5
 refine ⟨_, rfl, ?_⟩; clear Hz Az; intro Az Hz
 refine hK _ _ ?_; clear hK
 refine goCh Hz (.assign rfl .nil) ?_
 clear Hz Az; intro Az Hz
 refine nl (hK0 _ _ ?_); clear hK0
 refine wp_seq_k (fun K1 hK1 => ?_)
 refine regS Hz (.assign rfl <| .nil) ?_
 clear Hz Az; intro Az Hz
 refine wp_block ?_
 refine wp_loop_ghost (fun g a w => ∃ (k : Nat) (p1 : Option Addr) (c1 : Nat) (p3 : Option Addr) (c3 : Nat), k ≤ pl.length ∧ g = pl.length - k ∧ (encs (pl.drop k) ++ rest).length ≤ 1000000 ∧ BytesL (encs (pl.drop k) ++ rest) ∧ Has 27 [(0, .pointer (some ⟨B, 0, none⟩)), (3, .slice p3 (pl.take k).length c3), (4, .int .u64 (pl.length : Int)), (5, .int .u64 (k : Int))] a ∧ MemOk X w0 [(1, .box B 115 [.slice p1 (encs (pl.drop k) ++ rest).length c1, .int .i64 0]), (2, .dat (.slice p1 (encs (pl.drop k) ++ rest).length c1) (.ns .u8 (encs (pl.drop k) ++ rest))), (9, .num (.slice p3 (pl.take k).length c3) 3 .i64 (pl.take k))] w) (pl.length) ?_ ?_
 · have mz := m5.nilN 9 3 .i64
   exact ⟨0, _, _, _, _, Nat.zero_le _, rfl, by rw [hbe, List.length_append] at hb; simpa using (by omega : (encs pl ++ rest).length ≤ 1000000), bytes_r (by rw [hbe] at hbb; exact hbb), Hz.only [0, 3, 4, 5], mz.only [1, 2, 9]⟩
 clear Hz m5
 rintro g Az w9 ⟨k, p1, c1, p3, c3, hkl, hg, hb1, hbb1, Hz, m9⟩
 refine wp_seq_k (fun K2 hK2 => ?_)
 refine sr fun K3 hK3 => ?_
 refine goCh Hz (.move rfl <| .move rfl <| .lss rfl rfl <| .move rfl <| .nil) ?_
 clear Hz Az; intro Az Hz
 refine bool_cases Hz (t := 11) rfl ?_ ?_
 ·
  clear Hz; intro hb18 Hz; try simp only [QQ, Qax] at hb18
  have hk : k < pl.length := by omega
  refine goCh Hz (.moveZ rfl <| .nilCheckZ rfl <| .faZ 1 rfl U115 <| .loadB1Z m9 (i := 1) rfl rfl rfl U3 rfl <| .eqlZ rfl rfl <| .pickT rfl rfl <| .nil) ?_
  clear Hz Az; intro Az Hz
  refine nl (hK3 _ _ ?_); clear hK3
  refine bool_cases Hz (t := 17) rfl ?_ ?_
  rotate_left
  · intro hb _; exact absurd hb (by simp)
  clear Hz; intro _ Hz
  refine wp_cond_true (Hz.ev (x := .tmp 17) rfl) ?_
  refine ss (hK2 _ _ ?_); clear hK2
  refine wp_seq_k (fun K4 hK4 => ?_)
  refine wp_block ?_
  replace Hz : Has 27 [(0, _), (3, _), (4, _), (5, _)] Az := Hz.only [0, 3, 4, 5]
  refine wp_region_lit ?_
  refine goCh Hz (.move rfl <| .move rfl <| .nil) ?_
  clear Hz Az; intro Az Hz
  refine wpList_plain rfl (fun K hK => ?_)
  refine e_call Hz Try.func65 rfl rfl rfl rfl (rnum_ok _ _ _ 8 _ _ _ (pl.getD k 0) (encs (pl.drop (k + 1)) ++ rest) hb1 hbb1 (by rw [encs_drop hk, List.append_assoc]) (by decide) (hpb k hk) (m9.into [(1, 1), (2, 2)] (by decide) rfl)) ?_
  rintro e w29 ⟨p29, c29, rfl, hm29⟩
  have mx29 := m9.back hm29 [(1, 1), (2, 2)] (by decide); clear hm29 m9
  have m29 : MemOk _ _ [(1, _), (2, _), (9, _)] _ := mx29.only [1, 2, 9]; clear mx29
  refine ⟨_, rfl, ?_⟩; clear Hz Az; intro Az Hz
  refine hK _ _ ?_; clear hK
  refine goCh Hz (.conv rfl U111 U3 (r := pl.getD k 0) (IntWalk.i64_in _ (by have := hpb k hk; omega)) .nil) ?_
  clear Hz Az; intro Az Hz
  refine wpList_plain rfl (fun K hK => ?_)
  refine e_litN Hz m29 100 (k := .i64) rfl rfl U26 fct22 rfl rfl rfl rfl ?_
  clear Hz Az m29; intro g32 Az w33 Hz m33
  refine hK _ _ ?_; clear hK
  refine wpList_plain rfl (fun K hK => ?_)
  refine e_appN Hz m33 9 rfl rfl rfl (m33.numsO (i := 100) rfl) U26 fct22 (by decide) (by simp; omega) rfl ?_
  clear Hz Az m33; intro p34 c34 Az w35 Hz m35
  refine hK _ _ ?_; clear hK
  refine goCh Hz (.assign rfl .nil) ?_
  clear Hz Az; intro Az Hz
  refine nl (hK4 _ _ ?_); clear hK4
  replace Hz : Has 27 [(0, _), (3, _), (4, _), (5, _)] Az := Hz.only [0, 3, 4, 5]
  refine wp_region_lit ?_
  refine goCh Hz (.move rfl <| .add rfl rfl (r := ((k + 1 : Nat) : Int)) (by rw [IntWalk.u64_in _ (by omega)]; omega) <| .assign rfl <| .nil) ?_
  clear Hz Az; intro Az Hz
  refine wpList_nil ?_
  show ∃ n', n' < _ ∧ _
  have hE : pl.take k ++ [pl.getD k 0] = pl.take (k + 1) := (take_getD hk).symm
  rw [hE] at m35 Hz
  exact ⟨pl.length - (k + 1), by omega, k + 1, _, _, _, _, by omega, rfl, by rw [encs_drop hk, List.append_assoc, List.length_append] at hb1; omega, bytes_r (by rw [encs_drop hk, List.append_assoc] at hbb1; exact hbb1), Hz.only [0, 3, 4, 5], m35.only [1, 2, 9]⟩
 clear Hz; intro hb18 Hz; try simp only [QQ, Qax] at hb18
 obtain rfl : k = pl.length := by omega
 refine goCh Hz (.sk <| .sk <| .sk <| .sk <| .sk <| .pickF rfl rfl <| .nil) ?_
 clear Hz Az; intro Az Hz
 refine nl (hK3 _ _ ?_); clear hK3
 refine wp_cond_false (Hz.ev (x := .tmp 17) rfl) ?_
 refine wp_exit ?_
 refine hK1 _ _ ?_; clear hK1
 replace Hz : Has 27 [(0, _), (3, _), (4, _), (5, _)] Az := Hz.only [0, 3, 4, 5]
 refine regS Hz (.move rfl <| .assign rfl <| .nil) ?_
 clear Hz Az; intro Az Hz
 refine wp_ret ?_
 try dsimp only [Exit.then, Exit.inBlock]
 refine (ret1 (fn := Try.f66) Hz rfl rfl ?_)
 have m50 := m9.freezeN 9 rfl; clear m9
 rw [List.drop_length, List.take_length, show encs [] ++ rest = rest from rfl] at m50
 rw [List.take_length]
 exact ⟨_, _, _, _, rfl, m50.ren [(1, 1), (2, 2), (3, 9)] (by decide)⟩
theorem rlump_ok (X : Cx) (B : Nat) (b : List Int) (mx : Int) (p : Option Addr) (c : Nat) (w0 : World) (d rest : List Int) (hb : b.length ≤ 1000000) (hbb : BytesL b) (hbe : b = enc d.length ++ (d ++ rest)) (hmx : 0 ≤ mx ∧ mx ≤ 1000000) (hd : (d.length : Int) ≤ mx) (m0 : MemOk X w0 [(1, .box B 115 [.slice p (b).length c, .int .i64 0]), (2, .dat (.slice p (b).length c) (.ns .u8 (b)))] w0) :
   Calls Try.prog 76 #[.pointer (some ⟨B, 0, none⟩), .int .i64 mx] w0 fun e w' => ∃ (p' : Option Addr) (c' : Nat) (p3 : Option Addr) (c3 : Nat), e = .returned (.slice p3 d.length c3) ∧ MemOk X w0 [(1, .box B 115 [.slice p' (rest).length c', .int .i64 0]), (2, .dat (.slice p' (rest).length c') (.ns .u8 (rest))), (3, .dat (.slice p3 d.length c3) (.ns .u8 d))] w' := by
 refine ent2 Try.func76 rfl Try.ntmps76 fun Az Hz => ?_
 have hun : d.length ≤ (d ++ rest).length := by rw [List.length_append]; omega
 refine regS Hz (.assign rfl <| .nil) ?_
 clear Hz Az; intro Az Hz
 refine sr fun K0 hK0 => ?_
 refine goCh Hz (.move rfl <| .move rfl <| .c rfl (fun _ h => y_max h rfl rfl (r := mx) (by omega)) <| .conv rfl U3 U111 (r := mx) (IntWalk.u64_in _ (by omega)) <| .nil) ?_
 clear Hz Az; intro Az Hz
 refine wpList_plain rfl (fun K hK => ?_)
 refine e_call Hz Try.func65 rfl rfl rfl rfl (rnum_ok _ _ _ mx _ _ _ (d.length : Int) (d ++ rest) hb hbb hbe (by omega) (by omega) (m0.into [(1, 1), (2, 2)] (by decide) rfl)) ?_
 rintro e w10 ⟨p10, c10, rfl, hm10⟩
 have mx10 := m0.back hm10 [(1, 1), (2, 2)] (by decide); clear hm10 m0
 have m10 : MemOk _ _ [(1, _), (2, _)] _ := mx10.only [1, 2]; clear mx10
 refine ⟨_, rfl, ?_⟩; clear Hz Az; intro Az Hz
 refine hK _ _ ?_; clear hK
 refine goCh Hz (.assign rfl .nil) ?_
 clear Hz Az; intro Az Hz
 refine nl (hK0 _ _ ?_); clear hK0
 refine wp_seq_k (fun K1 hK1 => ?_)
 replace Hz : Has 43 [(0, _), (4, _), (5, _)] Az := Hz.only [0, 4, 5]
 refine regS Hz (.move rfl <| .nilCheck rfl <| .fa 1 rfl U115 <| .lb m10 1 U3 rfl rfl rfl <| .neq rfl rfl <| .nil) ?_
 clear Hz Az; intro Az Hz
 refine bool_cases Hz (t := 16) rfl ?_ ?_
 · intro hb _; exact absurd hb (by simp)
 clear Hz; intro _ Hz
 refine wp_cond_false (Hz.ev (x := .tmp 16) rfl) ?_
 refine ss (hK1 _ _ ?_); clear hK1
 refine wp_seq_k (fun K2 hK2 => ?_)
 refine regS Hz (.move rfl <| .move rfl <| .nilCheck rfl <| .fa 0 rfl U115 <| .lb m10 1 U25 rfl rfl rfl <| .len rfl U25 <| .conv rfl U3 U111 (r := ((d ++ rest).length : Int)) (IntWalk.u64_in _ (by rw [hbe, List.length_append] at hb; omega)) <| .gtr rfl rfl <| .nil) ?_
 clear Hz Az; intro Az Hz
 refine bool_cases Hz (t := 24) rfl ?_ ?_
 · intro hb _; exact absurd hb (by simp; omega)
 clear Hz; intro _ Hz
 refine wp_cond_false (Hz.ev (x := .tmp 24) rfl) ?_
 refine ss (hK2 _ _ ?_); clear hK2
 replace Hz : Has 43 [(0, _), (4, _), (5, _)] Az := Hz.only [0, 4, 5]
 refine sr fun K3 hK3 => ?_
 refine goCh Hz (.move rfl <| .nilCheck rfl <| .fa 0 rfl U115 <| .lb m10 1 U25 rfl rfl rfl <| .move rfl <| .nil) ?_
 clear Hz Az; intro Az Hz
 have hcap41 := (m10.rd (i := 2) rfl).ns_out.cap
 have m41 := m10.takeN (i := 2) rfl d.length hun 20 rfl; clear m10
 refine goCh Hz (.c rfl (fun _ h => y_sliceHn h d.length rfl rfl U25 fct0 rfl (Nat.le_trans hun hcap41.1)) <| .assign rfl <| .nil) ?_
 clear Hz Az; intro Az Hz
 refine nl (hK3 _ _ ?_); clear hK3
 replace Hz : Has 43 [(0, _), (4, _), (5, _), (6, _)] Az := Hz.only [0, 4, 5, 6]
 refine sr fun K4 hK4 => ?_
 refine goCh Hz (.move rfl <| .move rfl <| .nilCheck rfl <| .fa 0 rfl U115 <| .lb m41 1 U25 rfl rfl rfl <| .move rfl <| .nil) ?_
 clear Hz Az; intro Az Hz
 have m58 := m41.dropN (i := 2) rfl d.length hun 21 rfl; clear m41
 refine goCh Hz (.c rfl (fun _ h => y_sliceLn h d.length rfl rfl U25 fct0 rfl hun) <| .nilCheck rfl <| .fa 0 rfl U115 <| .nil) ?_
 clear Hz Az; intro Az Hz
 refine wpList_plain rfl (fun K hK => ?_)
 refine e_store1 Hz m58 1 rfl rfl rfl rfl rfl fct21 (by dsimp only [List.set] <;> rfl) ?_
 clear m58; intro w62 m62 hB62
 clear hB62
 refine hK _ _ ?_; clear hK
 refine nl (hK4 _ _ ?_); clear hK4
 replace Hz : Has 43 [(4, _), (6, _)] Az := Hz.only [4, 6]
 refine regS Hz (.move rfl <| .assign rfl <| .nil) ?_
 clear Hz Az; intro Az Hz
 refine wp_ret ?_
 try dsimp only [Exit.then, Exit.inBlock]
 refine (ret1 (fn := Try.f76) Hz rfl rfl ?_)
 have e1 : (d ++ rest).take d.length = d := List.take_left
 have e2 : (d ++ rest).drop d.length = rest := List.drop_left
 have e3 : (d ++ rest).length - d.length = rest.length := by rw [List.length_append]; omega
 rw [e1, e2, e3] at m62
 exact ⟨_, _, _, _, rfl, m62.ren [(1, 1), (2, 21), (3, 20)] (by decide)⟩
theorem rtakeItems_x (X : Cx) (B : Nat) (b : List Int) (p : Option Addr) (c : Nat) (w0 : World) (es : List (Int × List Int)) (rest : List Int) (hb : b.length ≤ 1000000) (hbb : BytesL b) (hbe : b = enc es.length ++ (itemsE es ++ rest)) (hel : es.length ≤ 8) (hok : ∀ e ∈ es, (0 ≤ e.1 ∧ e.1 ≤ 256) ∧ (e.2.length : Int) ≤ 32) (m0 : MemOk X w0 [(1, .box B 115 [.slice p (b).length c, .int .i64 0]), (2, .dat (.slice p (b).length c) (.ns .u8 (b)))] w0) :
   Calls Try.prog 67 #[.pointer (some ⟨B, 0, none⟩)] w0 fun e w' => ∃ (p' : Option Addr) (c' : Nat) (p3 : Option Addr) (c3 : Nat), e = .returned (.slice p3 (es.map itD).length c3) ∧ MemOk X w0 [(1, .box B 115 [.slice p' (rest).length c', .int .i64 0]), (2, .dat (.slice p' (rest).length c') (.ns .u8 (rest))), (3, .dat (.slice p3 (es.map itD).length c3) (.l 2 (es.map itD)))] w' := by
 refine ent1 Try.func67 rfl Try.ntmps67 fun Az Hz => ?_
 refine regS Hz (.assign rfl <| .nil) ?_
 clear Hz Az; intro Az Hz
 refine regS Hz (.assign rfl <| .nil) ?_
 clear Hz Az; intro Az Hz
 refine sr fun K0 hK0 => ?_
 refine goCh Hz (.move rfl .nil) ?_
 clear Hz Az; intro Az Hz
 refine wpList_plain rfl (fun K hK => ?_)
 refine e_call Hz Try.func65 rfl rfl rfl rfl (rnum_ok _ _ _ 8 _ _ _ (es.length : Int) (itemsE es ++ rest) hb hbb hbe (by decide) (by omega) (m0.into [(1, 1), (2, 2)] (by decide) rfl)) ?_
 rintro e w5 ⟨p5, c5, rfl, hm5⟩
 have mx5 := m0.back hm5 [(1, 1), (2, 2)] (by decide); clear hm5 m0
 have m5 : MemOk _ _ [(1, _), (2, _)] _ := mx5.only [1, 2]; clear mx5
 refine ⟨_, rfl, ?_⟩; clear Hz Az; intro Az Hz
 refine hK _ _ ?_; clear hK
 refine goCh Hz (.assign rfl .nil) ?_
 clear Hz Az; intro Az Hz
 refine nl (hK0 _ _ ?_); clear hK0
 refine wp_seq_k (fun K1 hK1 => ?_)
 refine regS Hz (.assign rfl <| .nil) ?_
 clear Hz Az; intro Az Hz
 refine wp_block ?_
 refine wp_loop_ghost (fun g a w => ∃ (k : Nat) (p1 : Option Addr) (c1 : Nat) (p3 : Option Addr) (c3 : Nat), k ≤ es.length ∧ g = es.length - k ∧ (itemsE (es.drop k) ++ rest).length ≤ 1000000 ∧ BytesL (itemsE (es.drop k) ++ rest) ∧ Has 33 [(0, .pointer (some ⟨B, 0, none⟩)), (3, .slice p3 ((es.take k).map itD).length c3), (4, .int .u64 (es.length : Int)), (5, .int .u64 (k : Int))] a ∧ MemOk X w0 [(1, .box B 115 [.slice p1 (itemsE (es.drop k) ++ rest).length c1, .int .i64 0]), (2, .dat (.slice p1 (itemsE (es.drop k) ++ rest).length c1) (.ns .u8 (itemsE (es.drop k) ++ rest))), (9, .row (.slice p3 ((es.take k).map itD).length c3) 29 2 ((es.take k).map itD))] w) (es.length) ?_ ?_
 · have mz := m5.nilR 9 29 2
   exact ⟨0, _, _, _, _, Nat.zero_le _, rfl, by rw [hbe, List.length_append] at hb; simpa using (by omega : (itemsE es ++ rest).length ≤ 1000000), bytes_r (by rw [hbe] at hbb; exact hbb), Hz.only [0, 3, 4, 5], mz.only [1, 2, 9]⟩
 clear Hz m5
 rintro g Az w9 ⟨k, p1, c1, p3, c3, hkl, hg, hb1, hbb1, Hz, m9⟩
 refine wp_seq_k (fun K2 hK2 => ?_)
 refine sr fun K3 hK3 => ?_
 refine goCh Hz (.move rfl <| .move rfl <| .lss rfl rfl <| .move rfl <| .nil) ?_
 clear Hz Az; intro Az Hz
 refine bool_cases Hz (t := 12) rfl ?_ ?_
 ·
  clear Hz; intro hb18 Hz; try simp only [QQ, Qax] at hb18
  have hk : k < es.length := by omega
  obtain ⟨⟨xb, xd⟩, hes⟩ : ∃ e, es[k]? = some e := ⟨_, List.getElem?_eq_getElem hk⟩
  have hed := hok _ (List.mem_of_getElem? hes)
  dsimp only at hed
  have hE1 : itemsE (es.drop k) ++ rest = enc xb ++ (enc xd.length ++ (xd ++ (itemsE (es.drop (k + 1)) ++ rest))) := by rw [itemsE_drop hes]; simp only [itemE, List.append_assoc]
  have hb2 : (enc xd.length ++ (xd ++ (itemsE (es.drop (k + 1)) ++ rest))).length ≤ 1000000 := by rw [hE1, List.length_append] at hb1; omega
  have hbb2 : BytesL (enc xd.length ++ (xd ++ (itemsE (es.drop (k + 1)) ++ rest))) := bytes_r (by rw [hE1] at hbb1; exact hbb1)
  have hb3 : (itemsE (es.drop (k + 1)) ++ rest).length ≤ 1000000 := by rw [List.length_append, List.length_append] at hb2; omega
  have hbb3 : BytesL (itemsE (es.drop (k + 1)) ++ rest) := bytes_r (bytes_r hbb2)
  refine goCh Hz (.moveZ rfl <| .nilCheckZ rfl <| .faZ 1 rfl U115 <| .loadB1Z m9 (i := 1) rfl rfl rfl U3 rfl <| .eqlZ rfl rfl <| .pickT rfl rfl <| .nil) ?_
  clear Hz Az; intro Az Hz
  refine nl (hK3 _ _ ?_); clear hK3
  refine bool_cases Hz (t := 18) rfl ?_ ?_
  rotate_left
  · intro hb _; exact absurd hb (by simp)
  clear Hz; intro _ Hz
  refine wp_cond_true (Hz.ev (x := .tmp 18) rfl) ?_
  refine ss (hK2 _ _ ?_); clear hK2
  refine wp_seq_k (fun K4 hK4 => ?_)
  refine wp_block ?_
  replace Hz : Has 33 [(0, _), (3, _), (4, _), (5, _)] Az := Hz.only [0, 3, 4, 5]
  refine sr fun K5 hK5 => ?_
  refine goCh Hz (.move rfl .nil) ?_
  clear Hz Az; intro Az Hz
  refine wpList_plain rfl (fun K hK => ?_)
  refine e_call Hz Try.func65 rfl rfl rfl rfl (rnum_ok _ _ _ 256 _ _ _ xb (enc xd.length ++ (xd ++ (itemsE (es.drop (k + 1)) ++ rest))) hb1 hbb1 hE1 (by decide) hed.1 (m9.into [(1, 1), (2, 2)] (by decide) rfl)) ?_
  rintro e w29 ⟨p29, c29, rfl, hm29⟩
  have mx29 := m9.back hm29 [(1, 1), (2, 2)] (by decide); clear hm29 m9
  have m29 : MemOk _ _ [(1, _), (2, _), (9, _)] _ := mx29.only [1, 2, 9]; clear mx29
  refine ⟨_, rfl, ?_⟩; clear Hz Az; intro Az Hz
  refine hK _ _ ?_; clear hK
  refine goCh Hz (.conv rfl U111 U3 (r := xb) (IntWalk.i64_in _ (by omega)) <| .assign rfl <| .nil) ?_
  clear Hz Az; intro Az Hz
  refine nl (hK5 _ _ ?_); clear hK5
  refine wp_region_lit ?_
  refine goCh Hz (.move rfl <| .move rfl <| .move rfl <| .nil) ?_
  clear Hz Az; intro Az Hz
  refine wpList_plain rfl (fun K hK => ?_)
  refine e_call Hz Try.func76 rfl rfl rfl rfl (rlump_ok _ _ _ 32 _ _ _ xd (itemsE (es.drop (k + 1)) ++ rest) hb2 hbb2 rfl (by decide) hed.2 (m29.into [(1, 1), (2, 2)] (by decide) rfl)) ?_
  rintro e w36 ⟨p36, c36, p336, c336, rfl, hm36⟩
  have mx36 := m29.back hm36 [(1, 1), (2, 2), (100, 3)] (by decide); clear hm36 m29
  have m36 : MemOk _ _ [(1, _), (2, _), (100, _), (9, _)] _ := mx36.only [1, 2, 100, 9]; clear mx36
  refine ⟨_, rfl, ?_⟩; clear Hz Az; intro Az Hz
  refine hK _ _ ?_; clear hK
  refine wpList_plain rfl (fun K hK => ?_)
  refine e_app0N Hz m36 101 rfl rfl (m36.nums (i := 100) rfl) U25 fct13 (by decide) (by omega) rfl ?_
  clear Hz Az m36; intro p38 c38 Az w39 Hz m39
  refine hK _ _ ?_; clear hK
  refine goCh Hz (.build rfl fct11 fl29xtI rfl (by dsimp only [setL, List.set] <;> rfl) .nil) ?_
  clear Hz Az; intro Az Hz
  have m42 := m39.freezeN 101 rfl; clear m39
  refine wpList_plain rfl (fun K hK => ?_)
  refine e_litR Hz m42 102 (mm := 2) rfl (.cons rfl rfl (.cons (.v _) (.cons (m42.rd (i := 101) rfl) .nil)) <| .nil) U22 fct24 rfl rfl rfl rfl rfl ?_
  clear Hz Az m42; intro g41 Az w43 Hz m43
  refine hK _ _ ?_; clear hK
  have m45 := m43.freezeR 102 rfl; clear m43
  refine wpList_plain rfl (fun K hK => ?_)
  refine e_appR Hz m45 9 rfl rfl rfl (m45.rd (i := 102) rfl) U22 fct24 rfl rfl (by decide) (by simp; omega) rfl ?_
  clear Hz Az m45; intro p44 c44 Az w46 Hz m46
  refine hK _ _ ?_; clear hK
  refine goCh Hz (.assign rfl .nil) ?_
  clear Hz Az; intro Az Hz
  refine nl (hK4 _ _ ?_); clear hK4
  replace Hz : Has 33 [(0, _), (3, _), (4, _), (5, _)] Az := Hz.only [0, 3, 4, 5]
  refine wp_region_lit ?_
  refine goCh Hz (.move rfl <| .add rfl rfl (r := ((k + 1 : Nat) : Int)) (by rw [IntWalk.u64_in _ (by omega)]; omega) <| .assign rfl <| .nil) ?_
  clear Hz Az; intro Az Hz
  refine wpList_nil ?_
  show ∃ n', n' < _ ∧ _
  have hE : (es.take k).map itD ++ [[D.v (.int .i64 xb), .ns .u8 xd]] = (es.take (k + 1)).map itD := by rw [take_snoc hes, List.map_append]; rfl
  rw [hE] at m46 Hz
  exact ⟨es.length - (k + 1), by omega, k + 1, _, _, _, _, by omega, rfl, hb3, hbb3, Hz.only [0, 3, 4, 5], m46.only [1, 2, 9]⟩
 clear Hz; intro hb18 Hz; try simp only [QQ, Qax] at hb18
 obtain rfl : k = es.length := by omega
 refine goCh Hz (.sk <| .sk <| .sk <| .sk <| .sk <| .pickF rfl rfl <| .nil) ?_
 clear Hz Az; intro Az Hz
 refine nl (hK3 _ _ ?_); clear hK3
 refine wp_cond_false (Hz.ev (x := .tmp 18) rfl) ?_
 refine wp_exit ?_
 refine hK1 _ _ ?_; clear hK1
 replace Hz : Has 33 [(0, _), (3, _), (4, _), (5, _)] Az := Hz.only [0, 3, 4, 5]
 refine regS Hz (.move rfl <| .assign rfl <| .nil) ?_
 clear Hz Az; intro Az Hz
 refine wp_ret ?_
 try dsimp only [Exit.then, Exit.inBlock]
 refine (ret1 (fn := Try.f67) Hz rfl rfl ?_)
 have m61 := m9.freezeR 9 rfl; clear m9
 rw [List.drop_length, List.take_length, show itemsE [] ++ rest = rest from rfl] at m61
 rw [List.take_length]
 exact ⟨_, _, _, _, rfl, m61.ren [(1, 1), (2, 2), (3, 9)] (by decide)⟩
end Go.Proofs.Ytkdnhndjjfjppaa.K
