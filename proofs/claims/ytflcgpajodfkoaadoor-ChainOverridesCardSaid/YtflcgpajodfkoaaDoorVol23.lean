/- The reference's numbers and lumps as bytes, one's own. -/
import Derived.Test.YtflcgpajodfkoaaDoorVol22
namespace Go.Proofs.YtflcgpajodfkoaaDoor.K
open Go.ChangeShapes Go.WideShapes Go.ChangeAt Go.RowKit
set_option linter.unusedVariables false
set_option linter.unusedSimpArgs false
theorem bytes_app {a b : List Int} (ha : BytesL a) (hb : BytesL b) : BytesL (a ++ b) := fun x hx => (List.mem_append.1 hx).elim (ha x) (hb x)
theorem wrap1 (x : Int) : ∀ k, k < [IntKind.u64.wrap x].length → 0 ≤ [IntKind.u64.wrap x].getD k 0 ∧ [IntKind.u64.wrap x].getD k 0 < 2 ^ 64 := fun k hk => by
 obtain rfl : k = 0 := by simpa using hk
 have e : IntKind.u64.wrap x = x % 18446744073709551616 := by simp [IntKind.wrap, IntKind.signed, IntKind.bits]
 simp [e]; omega
set_option maxRecDepth 100000
set_option maxHeartbeats 4000000
theorem rput_own (xs : List Int) (q : Option Addr) (cq : Nat) (w0 : World) (h0 : Rd (fun _ => True) w0 (.slice q xs.length cq) (.ns .u64 xs)) (hl : xs.length ≤ 1000000) (hxb : ∀ k, k < xs.length → 0 ≤ xs.getD k 0 ∧ xs.getD k 0 < 2 ^ 64) :
   Calls Tryd.prog 31 #[.slice q xs.length cq] w0 fun e w' => ∃ (b : List Int) (p : Option Addr) (c : Nat), e = .returned (.slice p b.length c) ∧ b.length ≤ 10 * xs.length ∧ BytesL b ∧ w'.ownsRow w0.heap.size 5 1 (.slice p b.length c) b.length (b.map (Value.int .u8)) ∧ Below w0.heap.size w0 w' := by
 refine ent1 Tryd.func31 rfl Tryd.ntmps31 fun Az Hz => ?_
 have m0 := MemOk.start (fun _ => False) w0
 refine regS Hz (.assign rfl <| .nil) ?_
 clear Hz Az; intro Az Hz
 refine regS Hz (.assign rfl <| .nil) ?_
 clear Hz Az; intro Az Hz
 refine wp_seq_k (fun K0 hK0 => ?_)
 refine regS Hz (.assign rfl <| .nil) ?_
 clear Hz Az; intro Az Hz
 refine wp_block ?_
 refine wp_loop_ghost (fun g a w => ∃ (k : Nat) (b : List Int) (p : Option Addr) (c : Nat), k ≤ xs.length ∧ g = xs.length - k ∧ b.length ≤ 10 * k ∧ BytesL b ∧ Has 32 [(0, .slice q xs.length cq), (3, .slice p b.length c), (4, .int .i64 k)] a ∧ MemOk (cn w0) w0 [(9, .num (.slice p b.length c) 5 .u8 b)] w) (xs.length) ?_ ?_
 · have mz := m0.nilN 9 5 .u8
   exact ⟨0, [], _, _, Nat.zero_le _, rfl, by simp, (fun _ h => by cases h), Hz.only [0, 3, 4], mz.only [9]⟩
 clear Hz m0
 rintro g Az w4 ⟨k, b, p, c, hkl, hg, hbl, hbb, Hz, m4⟩
 refine wp_seq_k (fun K1 hK1 => ?_)
 refine regS Hz (.move rfl <| .move rfl <| .len rfl U100 <| .lss rfl rfl <| .nil) ?_
 clear Hz Az; intro Az Hz
 refine bool_cases Hz (t := 9) rfl ?_ ?_
 ·
  clear Hz; intro hb9 Hz; try simp only [QQ, Qax] at hb9
  have hk : k < xs.length := by omega
  have hxk := hxb k hk
  refine wp_cond_true (Hz.ev (x := .tmp 9) rfl) ?_
  refine zss (hK1 _ _ ?_); clear hK1
  refine wp_seq_k (fun K2 hK2 => ?_)
  refine wp_block ?_
  refine zsr fun K3 hK3 => ?_
  refine goCh Hz (.move rfl <| .move rfl <| .nil) ?_
  clear Hz Az; intro Az Hz
  obtain ⟨gx15, ox15, hp15, hl15, hrg15⟩ := h0.extN (k) hk
  cases hp15; clear hl15
  refine goCh Hz (.c rfl (fun _ h => y_idx h rfl rfl U100 fct32 (k) rfl hk) <| .loadAt1 (hrg15 m4 rfl) (q := 0) rfl rfl rfl U71 rfl <| .assign rfl <| .nil) ?_
  clear Hz Az; intro Az Hz
  refine znl (hK3 _ _ ?_); clear hK3
  refine wp_seq_k (fun K4 hK4 => ?_)
  refine wp_block ?_
  refine wp_loop_ghost (fun g a w => ∃ (j : Nat) (u : Int) (b : List Int) (p : Option Addr) (c : Nat), j ≤ 9 ∧ 0 ≤ u ∧ u < 2 ^ (64 - 7 * j) ∧ g = u.toNat ∧ b.length ≤ 10 * k + j ∧ BytesL b ∧ Has 32 [(0, .slice (some ⟨gx15, ox15, none⟩) xs.length cq), (3, .slice p b.length c), (4, .int .i64 k), (5, .int .u64 u)] a ∧ MemOk (cn w0) w0 [(9, .num (.slice p b.length c) 5 .u8 b)] w) ((xs.getD k 0).toNat) ?_ ?_
  · exact ⟨0, xs.getD k 0, b, _, _, by omega, by omega, by simpa using hxk.2, rfl, by omega, hbb, Hz.only [0, 3, 4, 5], m4.only [9]⟩
  clear Hz m4
  rintro g Az w19 ⟨j, u, b, p, c, hj9, hu0, hu1, hg2, hbl2, hbb2, Hz, m19⟩
  refine wp_seq_k (fun K5 hK5 => ?_)
  refine regS Hz (.move rfl <| .geq rfl rfl <| .nil) ?_
  clear Hz Az; intro Az Hz
  refine bool_cases Hz (t := 17) rfl ?_ ?_
  ·
   clear Hz; intro hb22 Hz; try simp only [QQ, Qax] at hb22
   obtain ⟨z, hz, hzb⟩ : ∃ z, IntKind.u8.wrap ((BitVec.ofInt IntKind.u8.bits (IntKind.u8.wrap u) ||| BitVec.ofInt IntKind.u8.bits 128).toNat) = z ∧ 0 ≤ z ∧ z ≤ 255 := ⟨_, rfl, wrap_u8 _⟩
   obtain ⟨hj8, hu2⟩ := leb_step hj9 hu1 (by omega)
   refine wp_cond_true (Hz.ev (x := .tmp 17) rfl) ?_
   refine zss (hK5 _ _ ?_); clear hK5
   refine wp_block ?_
   refine zsr fun K6 hK6 => ?_
   refine goCh Hz (.move rfl <| .move rfl <| .conv rfl U71 U5 rfl <| .or rfl rfl (r := z) hz <| .nil) ?_
   clear Hz Az; intro Az Hz
   refine wpList_plain rfl (fun K hK => ?_)
   refine e_litN Hz m19 200 (k := .u8) rfl rfl U22 fct0 rfl rfl rfl rfl ?_
   clear Hz Az m19; intro g31 Az w32 Hz m32
   refine hK _ _ ?_; clear hK
   refine wpList_plain rfl (fun K hK => ?_)
   refine e_appN Hz m32 9 rfl rfl rfl (m32.numsO (i := 200) rfl) U22 fct0 (by decide) (by simp; omega) rfl ?_
   clear Hz Az m32; intro p33 c33 Az w34 Hz m34
   refine hK _ _ ?_; clear hK
   refine goCh Hz (.assign rfl .nil) ?_
   clear Hz Az; intro Az Hz
   refine znl (hK6 _ _ ?_); clear hK6
   replace Hz : Has 32 [(0, _), (3, _), (4, _), (5, _)] Az := Hz.only [0, 3, 4, 5]
   refine wp_region_lit ?_
   refine goCh Hz (.move rfl <| .shr rfl rfl (by decide) (r := u / 128) (by rw [show (2 : Int) ^ min (7 : Int).toNat IntKind.u64.bits = 128 from by decide]; exact Int.fdiv_eq_ediv_of_nonneg _ (by decide)) <| .assign rfl <| .nil) ?_
   clear Hz Az; intro Az Hz
   refine wpList_nil ?_
   show ∃ n', n' < _ ∧ _
   exact ⟨(u / 128).toNat, by omega, j + 1, u / 128, _, _, _, hj8, by omega, hu2, rfl, by simp; omega, bytes_snoc hbb2 hzb, Hz.only [0, 3, 4, 5], m34.only [9]⟩
  clear Hz; intro hb22 Hz; try simp only [QQ, Qax] at hb22
  refine wp_cond_false (Hz.ev (x := .tmp 17) rfl) ?_
  refine wp_exit ?_
  refine hK4 _ _ ?_; clear hK4
  refine wp_region_lit ?_
  refine goCh Hz (.move rfl <| .move rfl <| .conv rfl U71 U5 rfl <| .nil) ?_
  clear Hz Az; intro Az Hz
  refine wpList_plain rfl (fun K hK => ?_)
  refine e_litN Hz m19 200 (k := .u8) rfl rfl U22 fct0 rfl rfl rfl rfl ?_
  clear Hz Az m19; intro g43 Az w44 Hz m44
  refine hK _ _ ?_; clear hK
  refine wpList_plain rfl (fun K hK => ?_)
  refine e_appN Hz m44 9 rfl rfl rfl (m44.numsO (i := 200) rfl) U22 fct0 (by decide) (by simp; omega) rfl ?_
  clear Hz Az m44; intro p45 c45 Az w46 Hz m46
  refine hK _ _ ?_; clear hK
  refine goCh Hz (.assign rfl .nil) ?_
  clear Hz Az; intro Az Hz
  refine znl (hK2 _ _ ?_); clear hK2
  replace Hz : Has 32 [(0, _), (3, _), (4, _), (5, _)] Az := Hz.only [0, 3, 4, 5]
  refine wp_region_lit ?_
  refine goCh Hz (.move rfl <| .add rfl rfl (r := ((k + 1 : Nat) : Int)) (by rw [IntWalk.i64_in _ (by omega)]; omega) <| .assign rfl <| .nil) ?_
  clear Hz Az; intro Az Hz
  refine wpList_nil ?_
  show ∃ n', n' < _ ∧ _
  exact ⟨xs.length - (k + 1), by omega, k + 1, _, _, _, by omega, rfl, by simp; omega, bytes_snoc hbb2 (wrap_u8 _), Hz.only [0, 3, 4], m46.only [9]⟩
 clear Hz; intro hb9 Hz; try simp only [QQ, Qax] at hb9
 obtain rfl : k = xs.length := by omega
 refine wp_cond_false (Hz.ev (x := .tmp 9) rfl) ?_
 refine wp_exit ?_
 refine hK0 _ _ ?_; clear hK0
 refine regS Hz (.move rfl <| .assign rfl <| .nil) ?_
 clear Hz Az; intro Az Hz
 refine wp_ret ?_
 try dsimp only [Exit.then, Exit.inBlock]
 refine (ret1 (fn := Tryd.f31) Hz rfl rfl ?_)
 exact ⟨_, _, _, rfl, hbl, hbb, m4.ok 9 _ rfl, m4.below⟩
theorem rnums16 (xs : List Int) (q : Option Addr) (cq : Nat) (w0 : World) (h0 : Rd (fun _ => True) w0 (.slice q xs.length cq) (.ns .i64 xs)) (hl : xs.length ≤ 1000000) :
   Calls Tryd.prog 59 #[.slice q xs.length cq] w0 fun e w' => ∃ (b : List Int) (p : Option Addr) (c : Nat), e = .returned (.slice p b.length c) ∧ b.length ≤ 10 * xs.length ∧ BytesL b ∧ w'.ownsRow w0.heap.size 5 1 (.slice p b.length c) b.length (b.map (Value.int .u8)) ∧ Below w0.heap.size w0 w' := by
 refine ent1 Tryd.func59 rfl Tryd.ntmps59 fun Az Hz => ?_
 have m0 := MemOk.start (fun _ => False) w0
 refine regS Hz (.assign rfl <| .nil) ?_
 clear Hz Az; intro Az Hz
 refine regS Hz (.assign rfl <| .nil) ?_
 clear Hz Az; intro Az Hz
 refine wp_seq_k (fun K0 hK0 => ?_)
 refine regS Hz (.assign rfl <| .nil) ?_
 clear Hz Az; intro Az Hz
 refine wp_block ?_
 refine wp_loop_ghost (fun g a w => ∃ (k : Nat) (b : List Int) (p : Option Addr) (c : Nat), k ≤ xs.length ∧ g = xs.length - k ∧ b.length ≤ 10 * k ∧ BytesL b ∧ Has 21 [(0, .slice q xs.length cq), (3, .slice p b.length c), (4, .int .i64 k)] a ∧ MemOk (cn w0) w0 [(9, .num (.slice p b.length c) 5 .u8 b)] w) (xs.length) ?_ ?_
 · have mz := m0.nilN 9 5 .u8
   exact ⟨0, [], _, _, Nat.zero_le _, rfl, by simp, (fun _ h => by cases h), Hz.only [0, 3, 4], mz.only [9]⟩
 clear Hz m0
 rintro g Az w4 ⟨k, b, p, c, hkl, hg, hbl, hbb, Hz, m4⟩
 refine wp_seq_k (fun K1 hK1 => ?_)
 refine regS Hz (.move rfl <| .move rfl <| .len rfl U27 <| .lss rfl rfl <| .nil) ?_
 clear Hz Az; intro Az Hz
 refine bool_cases Hz (t := 8) rfl ?_ ?_
 ·
  clear Hz; intro hb9 Hz; try simp only [QQ, Qax] at hb9
  have hk : k < xs.length := by omega
  refine wp_cond_true (Hz.ev (x := .tmp 8) rfl) ?_
  refine zss (hK1 _ _ ?_); clear hK1
  refine wp_seq_k (fun K2 hK2 => ?_)
  refine wp_block ?_
  refine wp_region_lit ?_
  refine goCh Hz (.move rfl <| .move rfl <| .move rfl <| .nil) ?_
  clear Hz Az; intro Az Hz
  obtain ⟨gx13, ox13, hp13, hl13, hrg13⟩ := h0.extN (k) hk
  cases hp13; clear hl13
  refine goCh Hz (.c rfl (fun _ h => y_idx h rfl rfl U27 fct23 (k) rfl hk) <| .loadAt1 (hrg13 m4 rfl) (q := 0) rfl rfl rfl U2 rfl <| .conv rfl U2 U71 rfl <| .nil) ?_
  clear Hz Az; intro Az Hz
  refine wpList_plain rfl (fun K hK => ?_)
  refine e_litN Hz m4 100 (k := .u64) rfl rfl U100 fct33 rfl rfl rfl rfl ?_
  clear Hz Az m4; intro g17 Az w18 Hz m18
  refine hK _ _ ?_; clear hK
  have m19 := m18.freezeN 100 rfl; clear m18
  refine wpList_plain rfl (fun K hK => ?_)
  refine e_call Hz Tryd.func31 rfl rfl rfl rfl (rput_own [IntKind.u64.wrap (xs.getD k 0)] _ _ _ ((m19.rd (i := 100) rfl).any) (by simp) (wrap1 _)) ?_
  rintro e w20 ⟨d1, p20, c20, rfl, hld1, hbd1, ho20, hb20⟩
  have m21 := m19.newN 101 hb20 ho20
  clear m19
  clear hb20 ho20
  refine ⟨_, rfl, ?_⟩; clear Hz Az; intro Az Hz
  refine hK _ _ ?_; clear hK
  refine wpList_plain rfl (fun K hK => ?_)
  refine e_appN Hz m21 9 rfl rfl rfl (m21.numsO (i := 101) rfl) U22 fct0 (by decide) (by simp at hld1 ⊢; omega) rfl ?_
  clear Hz Az m21; intro p23 c23 Az w24 Hz m24
  refine hK _ _ ?_; clear hK
  refine goCh Hz (.assign rfl .nil) ?_
  clear Hz Az; intro Az Hz
  refine znl (hK2 _ _ ?_); clear hK2
  replace Hz : Has 21 [(0, _), (3, _), (4, _)] Az := Hz.only [0, 3, 4]
  refine wp_region_lit ?_
  refine goCh Hz (.move rfl <| .add rfl rfl (r := ((k + 1 : Nat) : Int)) (by rw [IntWalk.i64_in _ (by omega)]; omega) <| .assign rfl <| .nil) ?_
  clear Hz Az; intro Az Hz
  refine wpList_nil ?_
  show ∃ n', n' < _ ∧ _
  exact ⟨xs.length - (k + 1), by omega, k + 1, _, _, _, by omega, rfl, by simp at hld1 ⊢; omega, bytes_app hbb hbd1, Hz.only [0, 3, 4], m24.only [9]⟩
 clear Hz; intro hb9 Hz; try simp only [QQ, Qax] at hb9
 obtain rfl : k = xs.length := by omega
 refine wp_cond_false (Hz.ev (x := .tmp 8) rfl) ?_
 refine wp_exit ?_
 refine hK0 _ _ ?_; clear hK0
 refine regS Hz (.move rfl <| .assign rfl <| .nil) ?_
 clear Hz Az; intro Az Hz
 refine wp_ret ?_
 try dsimp only [Exit.then, Exit.inBlock]
 refine (ret1 (fn := Tryd.f59) Hz rfl rfl ?_)
 exact ⟨_, _, _, rfl, hbl, hbb, m4.ok 9 _ rfl, m4.below⟩
theorem rnums13 (xs : List Int) (q : Option Addr) (cq : Nat) (w0 : World) (h0 : Rd (fun _ => True) w0 (.slice q xs.length cq) (.ns .i64 xs)) (hl : xs.length ≤ 1000000) :
   Calls Tryd.prog 81 #[.slice q xs.length cq] w0 fun e w' => ∃ (b : List Int) (p : Option Addr) (c : Nat), e = .returned (.slice p b.length c) ∧ b.length ≤ 10 * xs.length ∧ BytesL b ∧ w'.ownsRow w0.heap.size 5 1 (.slice p b.length c) b.length (b.map (Value.int .u8)) ∧ Below w0.heap.size w0 w' := by
 refine ent1 Tryd.func81 rfl Tryd.ntmps81 fun Az Hz => ?_
 have m0 := MemOk.start (fun _ => False) w0
 refine regS Hz (.assign rfl <| .nil) ?_
 clear Hz Az; intro Az Hz
 refine regS Hz (.assign rfl <| .nil) ?_
 clear Hz Az; intro Az Hz
 refine wp_seq_k (fun K0 hK0 => ?_)
 refine regS Hz (.assign rfl <| .nil) ?_
 clear Hz Az; intro Az Hz
 refine wp_block ?_
 refine wp_loop_ghost (fun g a w => ∃ (k : Nat) (b : List Int) (p : Option Addr) (c : Nat), k ≤ xs.length ∧ g = xs.length - k ∧ b.length ≤ 10 * k ∧ BytesL b ∧ Has 21 [(0, .slice q xs.length cq), (3, .slice p b.length c), (4, .int .i64 k)] a ∧ MemOk (cn w0) w0 [(9, .num (.slice p b.length c) 5 .u8 b)] w) (xs.length) ?_ ?_
 · have mz := m0.nilN 9 5 .u8
   exact ⟨0, [], _, _, Nat.zero_le _, rfl, by simp, (fun _ h => by cases h), Hz.only [0, 3, 4], mz.only [9]⟩
 clear Hz m0
 rintro g Az w4 ⟨k, b, p, c, hkl, hg, hbl, hbb, Hz, m4⟩
 refine wp_seq_k (fun K1 hK1 => ?_)
 refine regS Hz (.move rfl <| .move rfl <| .len rfl U27 <| .lss rfl rfl <| .nil) ?_
 clear Hz Az; intro Az Hz
 refine bool_cases Hz (t := 8) rfl ?_ ?_
 ·
  clear Hz; intro hb9 Hz; try simp only [QQ, Qax] at hb9
  have hk : k < xs.length := by omega
  refine wp_cond_true (Hz.ev (x := .tmp 8) rfl) ?_
  refine zss (hK1 _ _ ?_); clear hK1
  refine wp_seq_k (fun K2 hK2 => ?_)
  refine wp_block ?_
  refine wp_region_lit ?_
  refine goCh Hz (.move rfl <| .move rfl <| .move rfl <| .nil) ?_
  clear Hz Az; intro Az Hz
  obtain ⟨gx13, ox13, hp13, hl13, hrg13⟩ := h0.extN (k) hk
  cases hp13; clear hl13
  refine goCh Hz (.c rfl (fun _ h => y_idx h rfl rfl U27 fct23 (k) rfl hk) <| .loadAt1 (hrg13 m4 rfl) (q := 0) rfl rfl rfl U2 rfl <| .conv rfl U2 U71 rfl <| .nil) ?_
  clear Hz Az; intro Az Hz
  refine wpList_plain rfl (fun K hK => ?_)
  refine e_litN Hz m4 100 (k := .u64) rfl rfl U100 fct33 rfl rfl rfl rfl ?_
  clear Hz Az m4; intro g17 Az w18 Hz m18
  refine hK _ _ ?_; clear hK
  have m19 := m18.freezeN 100 rfl; clear m18
  refine wpList_plain rfl (fun K hK => ?_)
  refine e_call Hz Tryd.func31 rfl rfl rfl rfl (rput_own [IntKind.u64.wrap (xs.getD k 0)] _ _ _ ((m19.rd (i := 100) rfl).any) (by simp) (wrap1 _)) ?_
  rintro e w20 ⟨d1, p20, c20, rfl, hld1, hbd1, ho20, hb20⟩
  have m21 := m19.newN 101 hb20 ho20
  clear m19
  clear hb20 ho20
  refine ⟨_, rfl, ?_⟩; clear Hz Az; intro Az Hz
  refine hK _ _ ?_; clear hK
  refine wpList_plain rfl (fun K hK => ?_)
  refine e_appN Hz m21 9 rfl rfl rfl (m21.numsO (i := 101) rfl) U22 fct0 (by decide) (by simp at hld1 ⊢; omega) rfl ?_
  clear Hz Az m21; intro p23 c23 Az w24 Hz m24
  refine hK _ _ ?_; clear hK
  refine goCh Hz (.assign rfl .nil) ?_
  clear Hz Az; intro Az Hz
  refine znl (hK2 _ _ ?_); clear hK2
  replace Hz : Has 21 [(0, _), (3, _), (4, _)] Az := Hz.only [0, 3, 4]
  refine wp_region_lit ?_
  refine goCh Hz (.move rfl <| .add rfl rfl (r := ((k + 1 : Nat) : Int)) (by rw [IntWalk.i64_in _ (by omega)]; omega) <| .assign rfl <| .nil) ?_
  clear Hz Az; intro Az Hz
  refine wpList_nil ?_
  show ∃ n', n' < _ ∧ _
  exact ⟨xs.length - (k + 1), by omega, k + 1, _, _, _, by omega, rfl, by simp at hld1 ⊢; omega, bytes_app hbb hbd1, Hz.only [0, 3, 4], m24.only [9]⟩
 clear Hz; intro hb9 Hz; try simp only [QQ, Qax] at hb9
 obtain rfl : k = xs.length := by omega
 refine wp_cond_false (Hz.ev (x := .tmp 8) rfl) ?_
 refine wp_exit ?_
 refine hK0 _ _ ?_; clear hK0
 refine regS Hz (.move rfl <| .assign rfl <| .nil) ?_
 clear Hz Az; intro Az Hz
 refine wp_ret ?_
 try dsimp only [Exit.then, Exit.inBlock]
 refine (ret1 (fn := Tryd.f81) Hz rfl rfl ?_)
 exact ⟨_, _, _, rfl, hbl, hbb, m4.ok 9 _ rfl, m4.below⟩
theorem rlump (xs : List Int) (q : Option Addr) (cq : Nat) (w0 : World) (h0 : Rd (fun _ => True) w0 (.slice q xs.length cq) (.ns .u8 xs)) (hl : xs.length ≤ 1000000) (hxb : BytesL xs) :
   Calls Tryd.prog 82 #[.slice q xs.length cq] w0 fun e w' => ∃ (b : List Int) (p : Option Addr) (c : Nat), e = .returned (.slice p b.length c) ∧ b.length ≤ 10 + xs.length ∧ BytesL b ∧ w'.ownsRow w0.heap.size 5 1 (.slice p b.length c) b.length (b.map (Value.int .u8)) ∧ Below w0.heap.size w0 w' := by
 refine ent1 Tryd.func82 rfl Tryd.ntmps82 fun Az Hz => ?_
 have m0 := MemOk.start (fun _ => False) w0
 refine regS Hz (.assign rfl <| .nil) ?_
 clear Hz Az; intro Az Hz
 refine zsr fun K0 hK0 => ?_
 refine goCh Hz (.move rfl <| .len rfl U22 <| .conv rfl U3 U71 rfl <| .nil) ?_
 clear Hz Az; intro Az Hz
 refine wpList_plain rfl (fun K hK => ?_)
 refine e_litN Hz m0 20 (k := .u64) rfl rfl U100 fct33 rfl rfl rfl rfl ?_
 clear Hz Az m0; intro g8 Az w9 Hz m9
 refine hK _ _ ?_; clear hK
 have m10 := m9.freezeN 20 rfl; clear m9
 refine wpList_plain rfl (fun K hK => ?_)
 refine e_call Hz Tryd.func31 rfl rfl rfl rfl (rput_own [IntKind.u64.wrap ((xs.length : Int))] _ _ _ ((m10.rd (i := 20) rfl).any) (by simp) (wrap1 _)) ?_
 rintro e w11 ⟨d1, p11, c11, rfl, hld1, hbd1, ho11, hb11⟩
 have m12 := m10.newN 21 hb11 ho11
 clear m10
 clear hb11 ho11
 refine ⟨_, rfl, ?_⟩; clear Hz Az; intro Az Hz
 refine hK _ _ ?_; clear hK
 refine goCh Hz (.move rfl .nil) ?_
 clear Hz Az; intro Az Hz
 refine wpList_plain rfl (fun K hK => ?_)
 refine e_appN Hz m12 21 rfl rfl rfl (h0.now' m12 rfl).ns_out.nums U22 fct0 (by decide) (by simp at hld1 ⊢; omega) rfl ?_
 clear Hz Az m12; intro p15 c15 Az w16 Hz m16
 refine hK _ _ ?_; clear hK
 refine goCh Hz (.assign rfl .nil) ?_
 clear Hz Az; intro Az Hz
 refine znl (hK0 _ _ ?_); clear hK0
 refine wp_ret ?_
 try dsimp only [Exit.then, Exit.inBlock]
 refine (ret1 (fn := Tryd.f82) Hz rfl rfl ?_)
 exact ⟨_, _, _, rfl, (by simp at hld1 ⊢; omega), bytes_app hbd1 hxb, m16.ok 21 _ rfl, m16.below⟩
end Go.Proofs.YtflcgpajodfkoaaDoor.K
