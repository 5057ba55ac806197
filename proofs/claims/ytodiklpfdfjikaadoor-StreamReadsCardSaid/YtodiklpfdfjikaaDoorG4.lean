/- General laws of walks: Vol23, Vol24, Vol30, Vol16, Vol17, Vol18, Ab22, Vol32. -/
import Derived.Test.YtodiklpfdfjikaaDoorG3
section
namespace Go.Proofs.YtodiklpfdfjikaaDoor.K
open Go.ChangeShapes Go.WideShapes Go.ChangeAt Go.RowKit
set_option linter.unusedVariables false
set_option linter.unusedSimpArgs false
theorem bytes_app {a b : List Int} (ha : BytesL a) (hb : BytesL b) : BytesL (a ++ b) := fun x hx => (List.mem_append.1 hx).elim (ha x) (hb x)
theorem wrap1 (x : Int) : ∀ k, k < [IntKind.u64.wrap x].length → 0 ≤ [IntKind.u64.wrap x].getD k 0 ∧ [IntKind.u64.wrap x].getD k 0 < 2 ^ 64 := fun k hk => by
 obtain rfl : k = 0 := by simpa using hk
 have e : IntKind.u64.wrap x = x % 18446744073709551616 := by simp [IntKind.wrap, IntKind.signed, IntKind.bits]
 simp [e]; omega
set_option maxRecDepth 100000
set_option maxHeartbeats 4000000
theorem rput_own (xs : List Int) (q : Option Addr) (cq : Nat) (w0 : World) (h0 : Rd (fun _ => True) w0 (.slice q xs.length cq) (.ns .u64 xs)) (hl : xs.length ≤ 1000000) (hxb : ∀ k, k < xs.length → 0 ≤ xs.getD k 0 ∧ xs.getD k 0 < 2 ^ 64) :
   Calls Tryd.prog 17 #[.slice q xs.length cq] w0 fun e w' => ∃ (b : List Int) (p : Option Addr) (c : Nat), e = .returned (.slice p b.length c) ∧ b.length ≤ 10 * xs.length ∧ BytesL b ∧ w'.ownsRow w0.heap.size 5 1 (.slice p b.length c) b.length (b.map (Value.int .u8)) ∧ Below w0.heap.size w0 w' := by
 refine ent1 Tryd.func17 rfl Tryd.ntmps17 fun Az Hz => ?_
 have m0 := MemOk.start (fun _ => False) w0
 refine regS Hz (.assign rfl <| .nil) fun Az Hz => ?_
 refine regS Hz (.assign rfl <| .nil) fun Az Hz => ?_
 refine wp_seq_k (fun K0 hK0 => ?_)
 refine regS Hz (.assign rfl <| .nil) fun Az Hz => ?_
 refine wp_block ?_
 refine wp_loop_ghost (fun g a w => ∃ (k : Nat) (b : List Int) (p : Option Addr) (c : Nat), k ≤ xs.length ∧ g = xs.length - k ∧ b.length ≤ 10 * k ∧ BytesL b ∧ Has 32 [(0, .slice q xs.length cq), (3, .slice p b.length c), (4, .int .i64 k)] a ∧ MemOk (cn w0) w0 [(9, .num (.slice p b.length c) 5 .u8 b)] w) (xs.length) ?_ ?_
 · have mz := m0.nilN 9 5 .u8
   exact ⟨0, [], _, _, Nat.zero_le _, rfl, by simp, (fun _ h => by cases h), Hz.only [0, 3, 4], mz.only [9]⟩
 clear Hz m0
 rintro g Az w4 ⟨k, b, p, c, hkl, hg, hbl, hbb, Hz, m4⟩
 refine wp_seq_k (fun K1 hK1 => ?_)
 refine regS Hz (.move rfl <| .move rfl <| .len rfl U78 <| .lss rfl rfl <| .nil) fun Az Hz => ?_
 refine bc Hz 9 ?_ ?_
 ·
  intro hb9 Hz; try simp only [QQ, Qax] at hb9
  have hk : k < xs.length := by omega
  have hxk := hxb k hk
  refine wct Hz ?_
  refine zss (hK1 _ _ ?_); clear hK1
  refine wp_seq_k (fun K2 hK2 => ?_)
  refine wp_block ?_
  refine zsr fun K3 hK3 => ?_
  refine goCh Hz (.move rfl <| .move rfl <| .nil) fun Az Hz => ?_
  obtain ⟨gx15, ox15, hp15, hl15, hrg15⟩ := h0.extN (k) hk
  revert Hz
  cases hp15; clear hl15
  intro Hz
  refine goCh Hz (.c rfl (fun _ h => y_idx h rfl rfl U78 fct32 (k) rfl hk) <| .loadAt1 (hrg15 m4 rfl) (q := 0) rfl rfl rfl U49 rfl <| .assign rfl <| .nil) fun Az Hz => ?_
  refine znl (hK3 _ _ ?_); clear hK3
  refine wp_seq_k (fun K4 hK4 => ?_)
  refine wp_block ?_
  refine wp_loop_ghost (fun g a w => ∃ (j : Nat) (u : Int) (b : List Int) (p : Option Addr) (c : Nat), j ≤ 9 ∧ 0 ≤ u ∧ u < 2 ^ (64 - 7 * j) ∧ g = u.toNat ∧ b.length ≤ 10 * k + j ∧ BytesL b ∧ Has 32 [(0, .slice (some ⟨gx15, ox15, none⟩) xs.length cq), (3, .slice p b.length c), (4, .int .i64 k), (5, .int .u64 u)] a ∧ MemOk (cn w0) w0 [(9, .num (.slice p b.length c) 5 .u8 b)] w) ((xs.getD k 0).toNat) ?_ ?_
  · exact ⟨0, xs.getD k 0, b, _, _, by omega, by omega, by simpa using hxk.2, rfl, by omega, hbb, Hz.only [0, 3, 4, 5], m4.only [9]⟩
  clear Hz m4
  rintro g Az w19 ⟨j, u, b, p, c, hj9, hu0, hu1, hg2, hbl2, hbb2, Hz, m19⟩
  refine wp_seq_k (fun K5 hK5 => ?_)
  refine regS Hz (.move rfl <| .geq rfl rfl <| .nil) fun Az Hz => ?_
  refine bc Hz 17 ?_ ?_
  ·
   intro hb22 Hz; try simp only [QQ, Qax] at hb22
   obtain ⟨z, hz, hzb⟩ : ∃ z, IntKind.u8.wrap ((BitVec.ofInt IntKind.u8.bits (IntKind.u8.wrap u) ||| BitVec.ofInt IntKind.u8.bits 128).toNat) = z ∧ 0 ≤ z ∧ z ≤ 255 := ⟨_, rfl, wrap_u8 _⟩
   obtain ⟨hj8, hu2⟩ := leb_step hj9 hu1 (by omega)
   refine wct Hz ?_
   refine zss (hK5 _ _ ?_); clear hK5
   refine wp_block ?_
   refine zsr fun K6 hK6 => ?_
   refine goCh Hz (.move rfl <| .move rfl <| .conv rfl U49 U5 rfl <| .or rfl rfl (r := z) hz <| .nil) fun Az Hz => ?_
   refine plz (e_litN Hz m19 200 (k := .u8) rfl rfl U22 fct0 rfl rfl rfl rfl fun g31 Az w32 Hz m32 => ?_)
   refine plz (e_appN Hz m32 9 rfl rfl rfl (m32.numsO (i := 200) rfl) U22 fct0 (by decide) (by simp; omega) rfl fun p33 c33 Az w34 Hz m34 => ?_)
   refine goCh Hz (.assign rfl .nil) fun Az Hz => ?_
   refine znl (hK6 _ _ ?_); clear hK6
   replace Hz : Has 32 [(0, _), (3, _), (4, _), (5, _)] Az := Hz.only [0, 3, 4, 5]
   refine wp_region_lit ?_
   refine goCh Hz (.move rfl <| .shr rfl rfl (by decide) (r := u / 128) (by rw [show (2 : Int) ^ min (7 : Int).toNat IntKind.u64.bits = 128 from by decide]; exact Int.fdiv_eq_ediv_of_nonneg _ (by decide)) <| .assign rfl <| .nil) fun Az Hz => ?_
   refine wpList_nil ?_
   show ∃ n', n' < _ ∧ _
   exact ⟨(u / 128).toNat, by omega, j + 1, u / 128, _, _, _, hj8, by omega, hu2, rfl, by simp; omega, bytes_snoc hbb2 hzb, Hz.only [0, 3, 4, 5], m34.only [9]⟩
  intro hb22 Hz; try simp only [QQ, Qax] at hb22
  refine wcf Hz ?_
  refine wp_exit ?_
  refine hK4 _ _ ?_; clear hK4
  refine wp_region_lit ?_
  refine goCh Hz (.move rfl <| .move rfl <| .conv rfl U49 U5 rfl <| .nil) fun Az Hz => ?_
  refine plz (e_litN Hz m19 200 (k := .u8) rfl rfl U22 fct0 rfl rfl rfl rfl fun g43 Az w44 Hz m44 => ?_)
  refine plz (e_appN Hz m44 9 rfl rfl rfl (m44.numsO (i := 200) rfl) U22 fct0 (by decide) (by simp; omega) rfl fun p45 c45 Az w46 Hz m46 => ?_)
  refine goCh Hz (.assign rfl .nil) fun Az Hz => ?_
  refine znl (hK2 _ _ ?_); clear hK2
  replace Hz : Has 32 [(0, _), (3, _), (4, _), (5, _)] Az := Hz.only [0, 3, 4, 5]
  refine wp_region_lit ?_
  refine goCh Hz (.move rfl <| .add rfl rfl (r := ((k + 1 : Nat) : Int)) (by rw [IntWalk.i64_in _ (by omega)]; omega) <| .assign rfl <| .nil) fun Az Hz => ?_
  refine wpList_nil ?_
  show ∃ n', n' < _ ∧ _
  exact ⟨xs.length - (k + 1), by omega, k + 1, _, _, _, by omega, rfl, by simp; omega, bytes_snoc hbb2 (wrap_u8 _), Hz.only [0, 3, 4], m46.only [9]⟩
 intro hb9 Hz; try simp only [QQ, Qax] at hb9
 revert Hz
 obtain rfl : k = xs.length := by omega
 intro Hz
 refine wcf Hz ?_
 refine wp_exit ?_
 refine hK0 _ _ ?_; clear hK0
 refine regS Hz (.move rfl <| .assign rfl <| .nil) fun Az Hz => ?_
 refine rtd (ret1 (fn := Tryd.f17) Hz rfl rfl ?_)
 exact ⟨_, _, _, rfl, hbl, hbb, m4.ok 9 _ rfl, m4.below⟩
theorem rnums16 (xs : List Int) (q : Option Addr) (cq : Nat) (w0 : World) (h0 : Rd (fun _ => True) w0 (.slice q xs.length cq) (.ns .i64 xs)) (hl : xs.length ≤ 1000000) :
   Calls Tryd.prog 58 #[.slice q xs.length cq] w0 fun e w' => ∃ (b : List Int) (p : Option Addr) (c : Nat), e = .returned (.slice p b.length c) ∧ b.length ≤ 10 * xs.length ∧ BytesL b ∧ w'.ownsRow w0.heap.size 5 1 (.slice p b.length c) b.length (b.map (Value.int .u8)) ∧ Below w0.heap.size w0 w' := by
 refine ent1 Tryd.func58 rfl Tryd.ntmps58 fun Az Hz => ?_
 have m0 := MemOk.start (fun _ => False) w0
 refine regS Hz (.assign rfl <| .nil) fun Az Hz => ?_
 refine regS Hz (.assign rfl <| .nil) fun Az Hz => ?_
 refine wp_seq_k (fun K0 hK0 => ?_)
 refine regS Hz (.assign rfl <| .nil) fun Az Hz => ?_
 refine wp_block ?_
 refine wp_loop_ghost (fun g a w => ∃ (k : Nat) (b : List Int) (p : Option Addr) (c : Nat), k ≤ xs.length ∧ g = xs.length - k ∧ b.length ≤ 10 * k ∧ BytesL b ∧ Has 21 [(0, .slice q xs.length cq), (3, .slice p b.length c), (4, .int .i64 k)] a ∧ MemOk (cn w0) w0 [(9, .num (.slice p b.length c) 5 .u8 b)] w) (xs.length) ?_ ?_
 · have mz := m0.nilN 9 5 .u8
   exact ⟨0, [], _, _, Nat.zero_le _, rfl, by simp, (fun _ h => by cases h), Hz.only [0, 3, 4], mz.only [9]⟩
 clear Hz m0
 rintro g Az w4 ⟨k, b, p, c, hkl, hg, hbl, hbb, Hz, m4⟩
 refine wp_seq_k (fun K1 hK1 => ?_)
 refine regS Hz (.move rfl <| .move rfl <| .len rfl U53 <| .lss rfl rfl <| .nil) fun Az Hz => ?_
 refine bc Hz 8 ?_ ?_
 ·
  intro hb9 Hz; try simp only [QQ, Qax] at hb9
  have hk : k < xs.length := by omega
  refine wct Hz ?_
  refine zss (hK1 _ _ ?_); clear hK1
  refine wp_seq_k (fun K2 hK2 => ?_)
  refine wp_block ?_
  refine wp_region_lit ?_
  refine goCh Hz (.move rfl <| .move rfl <| .move rfl <| .nil) fun Az Hz => ?_
  obtain ⟨gx13, ox13, hp13, hl13, hrg13⟩ := h0.extN (k) hk
  revert Hz
  cases hp13; clear hl13
  intro Hz
  refine goCh Hz (.c rfl (fun _ h => y_idx h rfl rfl U53 fct3 (k) rfl hk) <| .loadAt1 (hrg13 m4 rfl) (q := 0) rfl rfl rfl U2 rfl <| .conv rfl U2 U49 rfl <| .nil) fun Az Hz => ?_
  refine plz (e_litN Hz m4 100 (k := .u64) rfl rfl U78 fct1 rfl rfl rfl rfl fun g17 Az w18 Hz m18 => ?_)
  have m19 := m18.freezeN 100 rfl; clear m18
  refine plz (ecl Hz Tryd.func17 rfl (rput_own [IntKind.u64.wrap (xs.getD k 0)] _ _ _ ((m19.rd (i := 100) rfl).any) (by simp) (wrap1 _)) ?_)
  rintro e w20 ⟨d1, p20, c20, rfl, hld1, hbd1, ho20, hb20⟩
  have m21 := m19.newN 101 hb20 ho20
  clear m19
  clear hb20 ho20
  refine ⟨_, rfl, ?_⟩; intro Az Hz
  refine plz (e_appN Hz m21 9 rfl rfl rfl (m21.numsO (i := 101) rfl) U22 fct0 (by decide) (by simp at hld1 ⊢; omega) rfl fun p23 c23 Az w24 Hz m24 => ?_)
  refine goCh Hz (.assign rfl .nil) fun Az Hz => ?_
  refine znl (hK2 _ _ ?_); clear hK2
  replace Hz : Has 21 [(0, _), (3, _), (4, _)] Az := Hz.only [0, 3, 4]
  refine wp_region_lit ?_
  refine goCh Hz (.move rfl <| .add rfl rfl (r := ((k + 1 : Nat) : Int)) (by rw [IntWalk.i64_in _ (by omega)]; omega) <| .assign rfl <| .nil) fun Az Hz => ?_
  refine wpList_nil ?_
  show ∃ n', n' < _ ∧ _
  exact ⟨xs.length - (k + 1), by omega, k + 1, _, _, _, by omega, rfl, by simp at hld1 ⊢; omega, bytes_app hbb hbd1, Hz.only [0, 3, 4], m24.only [9]⟩
 intro hb9 Hz; try simp only [QQ, Qax] at hb9
 revert Hz
 obtain rfl : k = xs.length := by omega
 intro Hz
 refine wcf Hz ?_
 refine wp_exit ?_
 refine hK0 _ _ ?_; clear hK0
 refine regS Hz (.move rfl <| .assign rfl <| .nil) fun Az Hz => ?_
 refine rtd (ret1 (fn := Tryd.f58) Hz rfl rfl ?_)
 exact ⟨_, _, _, rfl, hbl, hbb, m4.ok 9 _ rfl, m4.below⟩
theorem rnums13 (xs : List Int) (q : Option Addr) (cq : Nat) (w0 : World) (h0 : Rd (fun _ => True) w0 (.slice q xs.length cq) (.ns .i64 xs)) (hl : xs.length ≤ 1000000) :
   Calls Tryd.prog 73 #[.slice q xs.length cq] w0 fun e w' => ∃ (b : List Int) (p : Option Addr) (c : Nat), e = .returned (.slice p b.length c) ∧ b.length ≤ 10 * xs.length ∧ BytesL b ∧ w'.ownsRow w0.heap.size 5 1 (.slice p b.length c) b.length (b.map (Value.int .u8)) ∧ Below w0.heap.size w0 w' := by
 refine ent1 Tryd.func73 rfl Tryd.ntmps73 fun Az Hz => ?_
 have m0 := MemOk.start (fun _ => False) w0
 refine regS Hz (.assign rfl <| .nil) fun Az Hz => ?_
 refine regS Hz (.assign rfl <| .nil) fun Az Hz => ?_
 refine wp_seq_k (fun K0 hK0 => ?_)
 refine regS Hz (.assign rfl <| .nil) fun Az Hz => ?_
 refine wp_block ?_
 refine wp_loop_ghost (fun g a w => ∃ (k : Nat) (b : List Int) (p : Option Addr) (c : Nat), k ≤ xs.length ∧ g = xs.length - k ∧ b.length ≤ 10 * k ∧ BytesL b ∧ Has 21 [(0, .slice q xs.length cq), (3, .slice p b.length c), (4, .int .i64 k)] a ∧ MemOk (cn w0) w0 [(9, .num (.slice p b.length c) 5 .u8 b)] w) (xs.length) ?_ ?_
 · have mz := m0.nilN 9 5 .u8
   exact ⟨0, [], _, _, Nat.zero_le _, rfl, by simp, (fun _ h => by cases h), Hz.only [0, 3, 4], mz.only [9]⟩
 clear Hz m0
 rintro g Az w4 ⟨k, b, p, c, hkl, hg, hbl, hbb, Hz, m4⟩
 refine wp_seq_k (fun K1 hK1 => ?_)
 refine regS Hz (.move rfl <| .move rfl <| .len rfl U53 <| .lss rfl rfl <| .nil) fun Az Hz => ?_
 refine bc Hz 8 ?_ ?_
 ·
  intro hb9 Hz; try simp only [QQ, Qax] at hb9
  have hk : k < xs.length := by omega
  refine wct Hz ?_
  refine zss (hK1 _ _ ?_); clear hK1
  refine wp_seq_k (fun K2 hK2 => ?_)
  refine wp_block ?_
  refine wp_region_lit ?_
  refine goCh Hz (.move rfl <| .move rfl <| .move rfl <| .nil) fun Az Hz => ?_
  obtain ⟨gx13, ox13, hp13, hl13, hrg13⟩ := h0.extN (k) hk
  revert Hz
  cases hp13; clear hl13
  intro Hz
  refine goCh Hz (.c rfl (fun _ h => y_idx h rfl rfl U53 fct3 (k) rfl hk) <| .loadAt1 (hrg13 m4 rfl) (q := 0) rfl rfl rfl U2 rfl <| .conv rfl U2 U49 rfl <| .nil) fun Az Hz => ?_
  refine plz (e_litN Hz m4 100 (k := .u64) rfl rfl U78 fct1 rfl rfl rfl rfl fun g17 Az w18 Hz m18 => ?_)
  have m19 := m18.freezeN 100 rfl; clear m18
  refine plz (ecl Hz Tryd.func17 rfl (rput_own [IntKind.u64.wrap (xs.getD k 0)] _ _ _ ((m19.rd (i := 100) rfl).any) (by simp) (wrap1 _)) ?_)
  rintro e w20 ⟨d1, p20, c20, rfl, hld1, hbd1, ho20, hb20⟩
  have m21 := m19.newN 101 hb20 ho20
  clear m19
  clear hb20 ho20
  refine ⟨_, rfl, ?_⟩; intro Az Hz
  refine plz (e_appN Hz m21 9 rfl rfl rfl (m21.numsO (i := 101) rfl) U22 fct0 (by decide) (by simp at hld1 ⊢; omega) rfl fun p23 c23 Az w24 Hz m24 => ?_)
  refine goCh Hz (.assign rfl .nil) fun Az Hz => ?_
  refine znl (hK2 _ _ ?_); clear hK2
  replace Hz : Has 21 [(0, _), (3, _), (4, _)] Az := Hz.only [0, 3, 4]
  refine wp_region_lit ?_
  refine goCh Hz (.move rfl <| .add rfl rfl (r := ((k + 1 : Nat) : Int)) (by rw [IntWalk.i64_in _ (by omega)]; omega) <| .assign rfl <| .nil) fun Az Hz => ?_
  refine wpList_nil ?_
  show ∃ n', n' < _ ∧ _
  exact ⟨xs.length - (k + 1), by omega, k + 1, _, _, _, by omega, rfl, by simp at hld1 ⊢; omega, bytes_app hbb hbd1, Hz.only [0, 3, 4], m24.only [9]⟩
 intro hb9 Hz; try simp only [QQ, Qax] at hb9
 revert Hz
 obtain rfl : k = xs.length := by omega
 intro Hz
 refine wcf Hz ?_
 refine wp_exit ?_
 refine hK0 _ _ ?_; clear hK0
 refine regS Hz (.move rfl <| .assign rfl <| .nil) fun Az Hz => ?_
 refine rtd (ret1 (fn := Tryd.f73) Hz rfl rfl ?_)
 exact ⟨_, _, _, rfl, hbl, hbb, m4.ok 9 _ rfl, m4.below⟩
theorem rlump (xs : List Int) (q : Option Addr) (cq : Nat) (w0 : World) (h0 : Rd (fun _ => True) w0 (.slice q xs.length cq) (.ns .u8 xs)) (hl : xs.length ≤ 1000000) (hxb : BytesL xs) :
   Calls Tryd.prog 74 #[.slice q xs.length cq] w0 fun e w' => ∃ (b : List Int) (p : Option Addr) (c : Nat), e = .returned (.slice p b.length c) ∧ b.length ≤ 10 + xs.length ∧ BytesL b ∧ w'.ownsRow w0.heap.size 5 1 (.slice p b.length c) b.length (b.map (Value.int .u8)) ∧ Below w0.heap.size w0 w' := by
 refine ent1 Tryd.func74 rfl Tryd.ntmps74 fun Az Hz => ?_
 have m0 := MemOk.start (fun _ => False) w0
 refine regS Hz (.assign rfl <| .nil) fun Az Hz => ?_
 refine zsr fun K0 hK0 => ?_
 refine goCh Hz (.move rfl <| .len rfl U22 <| .conv rfl U3 U49 rfl <| .nil) fun Az Hz => ?_
 refine plz (e_litN Hz m0 20 (k := .u64) rfl rfl U78 fct1 rfl rfl rfl rfl fun g8 Az w9 Hz m9 => ?_)
 have m10 := m9.freezeN 20 rfl; clear m9
 refine plz (ecl Hz Tryd.func17 rfl (rput_own [IntKind.u64.wrap ((xs.length : Int))] _ _ _ ((m10.rd (i := 20) rfl).any) (by simp) (wrap1 _)) ?_)
 rintro e w11 ⟨d1, p11, c11, rfl, hld1, hbd1, ho11, hb11⟩
 have m12 := m10.newN 21 hb11 ho11
 clear m10
 clear hb11 ho11
 refine ⟨_, rfl, ?_⟩; intro Az Hz
 refine goCh Hz (.move rfl .nil) fun Az Hz => ?_
 refine plz (e_appN Hz m12 21 rfl rfl rfl (h0.now' m12 rfl).ns_out.nums U22 fct0 (by decide) (by simp at hld1 ⊢; omega) rfl fun p15 c15 Az w16 Hz m16 => ?_)
 refine goCh Hz (.assign rfl .nil) fun Az Hz => ?_
 refine znl (hK0 _ _ ?_); clear hK0
 refine rtd (ret1 (fn := Tryd.f74) Hz rfl rfl ?_)
 exact ⟨_, _, _, rfl, (by simp at hld1 ⊢; omega), bytes_app hbd1 hxb, m16.ok 21 _ rfl, m16.below⟩
end Go.Proofs.YtodiklpfdfjikaaDoor.K
end
section
namespace Go.Proofs.YtodiklpfdfjikaaDoor.K
open Go.ChangeShapes Go.WideShapes Go.ChangeAt Go.RowKit
set_option linter.unusedVariables false
set_option linter.unusedSimpArgs false
def ItsS (es : List (Int × List Int)) : Prop := ∀ e ∈ es, e.2.length ≤ 1000 ∧ BytesL e.2
set_option maxRecDepth 100000
set_option maxHeartbeats 4000000
theorem rplace (xs : List Int) (q : Option Addr) (cq : Nat) (w0 : World) (h0 : Rd (fun _ => True) w0 (.slice q xs.length cq) (.ns .i64 xs)) (hl : xs.length ≤ 1000000) :
   Calls Tryd.prog 59 #[.slice q xs.length cq] w0 fun e w' => ∃ (b : List Int) (p : Option Addr) (c : Nat), e = .returned (.slice p b.length c) ∧ b.length ≤ 10 + 10 * xs.length ∧ BytesL b ∧ w'.ownsRow w0.heap.size 5 1 (.slice p b.length c) b.length (b.map (Value.int .u8)) ∧ Below w0.heap.size w0 w' := by
 refine ent1 Tryd.func59 rfl Tryd.ntmps59 fun Az Hz => ?_
 have m0 := MemOk.start (fun _ => False) w0
 refine regS Hz (.assign rfl <| .nil) fun Az Hz => ?_
 refine zsr fun K0 hK0 => ?_
 refine goCh Hz (.move rfl <| .len rfl U52 <| .nil) fun Az Hz => ?_
 refine plz (e_litN Hz m0 20 (k := .i64) rfl rfl U53 fct13 rfl rfl rfl rfl fun g6 Az w7 Hz m7 => ?_)
 have m8 := m7.freezeN 20 rfl; clear m7
 refine plz (ecl Hz Tryd.func58 rfl (rnums16 [(xs.length : Int)] _ _ _ ((m8.rd (i := 20) rfl).any) (by simp)) ?_)
 rintro e w9 ⟨d0, p9, c9, rfl, hld0, hbd0, ho9, hb9⟩
 have m10 := m8.newN 21 hb9 ho9
 clear m8
 clear hb9 ho9
 refine ⟨_, rfl, ?_⟩; intro Az Hz
 refine goCh Hz (.assign rfl .nil) fun Az Hz => ?_
 refine znl (hK0 _ _ ?_); clear hK0
 refine wp_seq_k (fun K1 hK1 => ?_)
 refine regS Hz (.assign rfl <| .nil) fun Az Hz => ?_
 refine wp_block ?_
 refine wp_loop_ghost (fun g a w => ∃ (k : Nat) (b : List Int) (p : Option Addr) (c : Nat), k ≤ xs.length ∧ g = xs.length - k ∧ b.length ≤ 10 + 10 * k ∧ BytesL b ∧ Has 24 [(0, .slice q xs.length cq), (3, .slice p b.length c), (4, .int .i64 k)] a ∧ MemOk (cn w0) w0 [(9, .num (.slice p b.length c) 5 .u8 b)] w) (xs.length) ?_ ?_
 · exact ⟨0, d0, _, _, Nat.zero_le _, rfl, by simpa using hld0, hbd0, Hz.only [0, 3, 4], m10.ren [(9, 21)] (by decide)⟩
 clear Hz m10
 rintro g Az w14 ⟨k, b, p, c, hkl, hg, hbl, hbb, Hz, m14⟩
 refine wp_seq_k (fun K2 hK2 => ?_)
 refine regS Hz (.move rfl <| .move rfl <| .len rfl U52 <| .lss rfl rfl <| .nil) fun Az Hz => ?_
 refine bc Hz 12 ?_ ?_
 ·
  intro hb19 Hz; try simp only [QQ, Qax] at hb19
  have hk : k < xs.length := by omega
  refine wct Hz ?_
  refine zss (hK2 _ _ ?_); clear hK2
  refine wp_seq_k (fun K3 hK3 => ?_)
  refine wp_block ?_
  refine wp_region_lit ?_
  refine goCh Hz (.move rfl <| .move rfl <| .move rfl <| .nil) fun Az Hz => ?_
  obtain ⟨gx23, ox23, hp23, hl23, hrg23⟩ := h0.extN (k) hk
  revert Hz
  cases hp23; clear hl23
  intro Hz
  refine goCh Hz (.c rfl (fun _ h => y_idx h rfl rfl U52 fct2 (k) rfl hk) <| .loadAt1 (hrg23 m14 rfl) (q := 0) rfl rfl rfl U3 rfl <| .nil) fun Az Hz => ?_
  refine plz (e_litN Hz m14 100 (k := .i64) rfl rfl U53 fct13 rfl rfl rfl rfl fun g26 Az w27 Hz m27 => ?_)
  have m28 := m27.freezeN 100 rfl; clear m27
  refine plz (ecl Hz Tryd.func58 rfl (rnums16 [xs.getD k 0] _ _ _ ((m28.rd (i := 100) rfl).any) (by simp)) ?_)
  rintro e w29 ⟨d1, p29, c29, rfl, hld1, hbd1, ho29, hb29⟩
  have m30 := m28.newN 101 hb29 ho29
  clear m28
  clear hb29 ho29
  refine ⟨_, rfl, ?_⟩; intro Az Hz
  refine plz (e_appN Hz m30 9 rfl rfl rfl (m30.numsO (i := 101) rfl) U22 fct0 (by decide) (by simp at hld1 ⊢; omega) rfl fun p32 c32 Az w33 Hz m33 => ?_)
  refine goCh Hz (.assign rfl .nil) fun Az Hz => ?_
  refine znl (hK3 _ _ ?_); clear hK3
  replace Hz : Has 24 [(0, _), (3, _), (4, _)] Az := Hz.only [0, 3, 4]
  refine wp_region_lit ?_
  refine goCh Hz (.move rfl <| .add rfl rfl (r := ((k + 1 : Nat) : Int)) (by rw [IntWalk.i64_in _ (by omega)]; omega) <| .assign rfl <| .nil) fun Az Hz => ?_
  refine wpList_nil ?_
  show ∃ n', n' < _ ∧ _
  exact ⟨xs.length - (k + 1), by omega, k + 1, _, _, _, by omega, rfl, by simp at hld1 ⊢; omega, bytes_app hbb hbd1, Hz.only [0, 3, 4], m33.only [9]⟩
 intro hb19 Hz; try simp only [QQ, Qax] at hb19
 revert Hz
 obtain rfl : k = xs.length := by omega
 intro Hz
 refine wcf Hz ?_
 refine wp_exit ?_
 refine hK1 _ _ ?_; clear hK1
 refine regS Hz (.move rfl <| .assign rfl <| .nil) fun Az Hz => ?_
 refine rtd (ret1 (fn := Tryd.f59) Hz rfl rfl ?_)
 exact ⟨_, _, _, rfl, hbl, hbb, m14.ok 9 _ rfl, m14.below⟩
theorem rputItems (es : List (Int × List Int)) (q : Option Addr) (nn cq : Nat) (w0 : World) (h0 : Rd (fun _ => True) w0 (.slice q nn cq) (.l 2 (es.map itD))) (hl : es.length ≤ 10000) (hok : ItsS es) :
   Calls Tryd.prog 60 #[.slice q nn cq] w0 fun e w' => ∃ (b : List Int) (p : Option Addr) (c : Nat), e = .returned (.slice p b.length c) ∧ b.length ≤ 10 + 1020 * es.length ∧ BytesL b ∧ w'.ownsRow w0.heap.size 5 1 (.slice p b.length c) b.length (b.map (Value.int .u8)) ∧ Below w0.heap.size w0 w' := by
 obtain rfl : nn = es.length := by obtain ⟨pq, c9, hv, _⟩ := h0.l_shape; injection hv with _ e2 _; rw [List.length_map] at e2; exact e2
 refine ent1 Tryd.func60 rfl Tryd.ntmps60 fun Az Hz => ?_
 have m0 := MemOk.start (fun _ => False) w0
 refine regS Hz (.assign rfl <| .nil) fun Az Hz => ?_
 refine zsr fun K0 hK0 => ?_
 refine goCh Hz (.move rfl <| .len rfl U27 <| .nil) fun Az Hz => ?_
 refine plz (e_litN Hz m0 20 (k := .i64) rfl rfl U53 fct13 rfl rfl rfl rfl fun g6 Az w7 Hz m7 => ?_)
 have m8 := m7.freezeN 20 rfl; clear m7
 refine plz (ecl Hz Tryd.func73 rfl (rnums13 [(es.length : Int)] _ _ _ ((m8.rd (i := 20) rfl).any) (by simp)) ?_)
 rintro e w9 ⟨d0, p9, c9, rfl, hld0, hbd0, ho9, hb9⟩
 have m10 := m8.newN 21 hb9 ho9
 clear m8
 clear hb9 ho9
 refine ⟨_, rfl, ?_⟩; intro Az Hz
 refine goCh Hz (.assign rfl .nil) fun Az Hz => ?_
 refine znl (hK0 _ _ ?_); clear hK0
 refine wp_seq_k (fun K1 hK1 => ?_)
 refine regS Hz (.assign rfl <| .nil) fun Az Hz => ?_
 refine wp_block ?_
 refine wp_loop_ghost (fun g a w => ∃ (k : Nat) (b : List Int) (p : Option Addr) (c : Nat), k ≤ es.length ∧ g = es.length - k ∧ b.length ≤ 10 + 1020 * k ∧ BytesL b ∧ Has 32 [(0, .slice q es.length cq), (3, .slice p b.length c), (4, .int .i64 k)] a ∧ MemOk (cn w0) w0 [(9, .num (.slice p b.length c) 5 .u8 b)] w) (es.length) ?_ ?_
 · exact ⟨0, d0, _, _, Nat.zero_le _, rfl, by simpa using hld0, hbd0, Hz.only [0, 3, 4], m10.ren [(9, 21)] (by decide)⟩
 clear Hz m10
 rintro g Az w14 ⟨k, b, p, c, hkl, hg, hbl, hbb, Hz, m14⟩
 refine wp_seq_k (fun K2 hK2 => ?_)
 refine regS Hz (.move rfl <| .move rfl <| .len rfl U27 <| .lss rfl rfl <| .nil) fun Az Hz => ?_
 refine bc Hz 12 ?_ ?_
 ·
  intro hb19 Hz; try simp only [QQ, Qax] at hb19
  have hk : k < es.length := by omega
  obtain ⟨⟨xb, xd⟩, hes⟩ : ∃ e, es[k]? = some e := ⟨_, List.getElem?_eq_getElem hk⟩
  have hed := hok _ (List.mem_of_getElem? hes)
  dsimp only at hed
  refine wct Hz ?_
  refine zss (hK2 _ _ ?_); clear hK2
  refine wp_seq_k (fun K3 hK3 => ?_)
  refine wp_block ?_
  obtain ⟨gx21, ox21, vx21, hp21, hl21, hR21, hrg21⟩ := h0.extA (k) (r := [.v (.int .i64 xb), .ns .u8 xd]) (itD_get hes)
  revert Hz
  cases hp21; clear hl21
  rcases hR21 with _ | ⟨hd21_0, _ | ⟨hd21_1, _ | _⟩⟩
  obtain rfl := hd21_0.v_out
  clear hd21_0
  obtain ⟨p22, c22, hv22, hw22⟩ := hd21_1.ns_shape; subst hv22
  intro Hz
  obtain ⟨gx24, ox24, vx24, hp24, hl24, hR24, hrg24⟩ := h0.extA (k) (r := [.v (.int .i64 xb), .ns .u8 xd]) (itD_get hes)
  revert Hz
  cases hp24; clear hl24
  rcases hR24 with _ | ⟨hd24_0, _ | ⟨hd24_1, _ | _⟩⟩
  obtain rfl := hd24_0.v_out
  clear hd24_0
  obtain ⟨p25, c25, hv25, hw25⟩ := hd24_1.ns_shape; subst hv25
  intro Hz
  have m26 : MemOk _ _ [(9, _)] _ := m14.only [9]; clear m14
  refine region_p 17 (B := []) (m26.to trivial) m26 (by kernel_rfl) (fun w27 hP27 m27 => ?_); clear m26
  refine goR hP27 [0, 1, 2, 3, 4, 5, 9, 10, 11, 12, 13] [5, 13] 11 0 15935 Hz (m27.to trivial) (.move rfl <| .move rfl <| .move rfl <| .p (fun _ _ h => y_idx h rfl rfl U27 fct15 (k) rfl hk) <| .fieldAddrQ 0 rfl U46 rfl (s := 0) (by kernel_rfl) rfl <| .loadAt1 (fun _ h => (hrg21 h rfl)) (q := 0) rfl rfl rfl U3 rfl <| .move rfl <| .move rfl <| .p (fun _ _ h => y_idx h rfl rfl U27 fct15 (k) rfl hk) <| .fieldAddrQ 1 rfl U46 rfl (s := 0) (by kernel_rfl) rfl <| .loadAt1 (fun _ h => (hrg24 h rfl)) (q := 1) rfl rfl rfl U22 rfl <| .nil) fun Az Hz => ?_
  refine so 6 ?_
  refine e_litN Hz m27 102 (k := .i64) rfl rfl U53 fct13 rfl rfl rfl rfl fun g39 Az w40 Hz m40 => ?_
  refine ⟨m40.to trivial, ?_⟩
  have m41 := m40.freezeN 102 rfl; clear m40
  refine so 7 ?_
  refine ecl Hz Tryd.func73 rfl (rnums13 [xb] _ _ _ ((m41.rd (i := 102) rfl).any) (by simp)) ?_
  rintro e w42 ⟨d1, p42, c42, rfl, hld1, hbd1, ho42, hb42⟩
  have m43 := m41.newN 103 hb42 ho42
  clear m41
  clear hb42 ho42
  refine ⟨_, rfl, ?_⟩; intro Az Hz
  refine ⟨m43.to trivial, ?_⟩
  refine so 8 ?_
  refine e_appN Hz m43 9 rfl rfl rfl (m43.numsO (i := 103) rfl) U22 fct0 (by decide) (by simp at hld1 ⊢; omega) rfl fun p45 c45 Az w46 Hz m46 => ?_
  refine ⟨m46.to trivial, ?_⟩
  refine so 14 ?_
  refine ecl Hz Tryd.func74 rfl (rlump xd _ _ _ ((hd24_1.now' m46 rfl).any) (by omega) hed.2) ?_
  rintro e w47 ⟨d2, p47, c47, rfl, hld2, hbd2, ho47, hb47⟩
  have m48 := m46.newN 104 hb47 ho47
  clear m46
  clear hb47 ho47
  refine ⟨_, rfl, ?_⟩; intro Az Hz
  refine ⟨m48.to trivial, ?_⟩
  refine so 15 ?_
  refine e_appN Hz m48 9 rfl rfl rfl (m48.numsO (i := 104) rfl) U22 fct0 (by decide) (by simp at hld1 ⊢; omega) rfl fun p50 c50 Az w51 Hz m51 => ?_
  refine ⟨m51.to trivial, ?_⟩
  refine goA hP27 [16] 1 65535 131071 Hz (m51.to trivial) (.assign rfl <| .nil) fun Az Hz => ?_
  refine wpAnyE_done (by kernel_rfl) ?_ _
  refine hK3 _ _ ?_; clear hK3
  replace Hz : Has 32 [(0, _), (3, _), (4, _)] Az := Hz.only [0, 3, 4]
  refine wp_region_lit ?_
  refine goCh Hz (.move rfl <| .add rfl rfl (r := ((k + 1 : Nat) : Int)) (by rw [IntWalk.i64_in _ (by omega)]; omega) <| .assign rfl <| .nil) fun Az Hz => ?_
  refine wpList_nil ?_
  show ∃ n', n' < _ ∧ _
  exact ⟨es.length - (k + 1), by omega, k + 1, _, _, _, by omega, rfl, by simp at hld1 ⊢; omega, bytes_app (bytes_app hbb hbd1) hbd2, Hz.only [0, 3, 4], m51.only [9]⟩
 intro hb19 Hz; try simp only [QQ, Qax] at hb19
 revert Hz
 obtain rfl : k = es.length := by omega
 intro Hz
 refine wcf Hz ?_
 refine wp_exit ?_
 refine hK1 _ _ ?_; clear hK1
 refine regS Hz (.move rfl <| .assign rfl <| .nil) fun Az Hz => ?_
 refine rtd (ret1 (fn := Tryd.f60) Hz rfl rfl ?_)
 exact ⟨_, _, _, rfl, hbl, hbb, m14.ok 9 _ rfl, m14.below⟩
end Go.Proofs.YtodiklpfdfjikaaDoor.K
end
section
namespace Go.Proofs.YtodiklpfdfjikaaDoor.K
open Go.ChangeShapes Go.WideShapes Go.ChangeAt Go.RowKit
set_option linter.unusedVariables false
set_option linter.unusedSimpArgs false
theorem fl46tI : flatS Tryd.prog 46 [.int .i64 0, .slice none 0 0] = true := by kernel_rfl
theorem its_snoc {es : List (Int × List Int)} {x : Int × List Int} (h : (∀ e ∈ es, e.2.length ≤ 32 ∧ BytesL e.2)) (hx : x.2.length ≤ 32 ∧ BytesL x.2) : ∀ e ∈ es ++ [x], e.2.length ≤ 32 ∧ BytesL e.2 := fun e he => by
 rcases List.mem_append.1 he with h1 | h1
 · exact h e h1
 rw [List.mem_singleton.1 h1]; exact hx
set_option maxRecDepth 100000
set_option maxHeartbeats 4000000
theorem rtakeItems (X : Cx) (B : Nat) (b : List Int) (er : Int) (p : Option Addr) (c : Nat) (w0 : World) (hb : b.length ≤ 1000000) (hbb : BytesL b) (m0 : MemOk X w0 [(1, .box B 67 [.slice p b.length c, .int .i64 er]), (2, .dat (.slice p b.length c) (.ns .u8 b))] w0) :
   Calls Tryd.prog 77 #[.pointer (some ⟨B, 0, none⟩)] w0 fun e w' => ∃ (es : List (Int × List Int)) (b' : List Int) (p' : Option Addr) (c' : Nat) (er' : Int) (p3 : Option Addr) (c3 : Nat), e = .returned (.slice p3 (es.map itD).length c3) ∧ es.length ≤ 8 ∧ (∀ e ∈ es, e.2.length ≤ 32 ∧ BytesL e.2) ∧ b'.length ≤ b.length ∧ BytesL b' ∧ MemOk X w0 [(1, .box B 67 [.slice p' b'.length c', .int .i64 er']), (2, .dat (.slice p' b'.length c') (.ns .u8 b')), (3, .dat (.slice p3 (es.map itD).length c3) (.l 2 (es.map itD)))] w' := by
 refine ent1 Tryd.func77 rfl Tryd.ntmps77 fun Az Hz => ?_
 refine regS Hz (.assign rfl <| .nil) fun Az Hz => ?_
 refine regS Hz (.assign rfl <| .nil) fun Az Hz => ?_
 refine zsr fun K0 hK0 => ?_
 refine goCh Hz (.move rfl .nil) fun Az Hz => ?_
 refine plz (ecl Hz Tryd.func27 rfl (rnum _ _ b _ 8 _ _ _ (by omega) hbb (by decide) (m0.into [(1, 1), (2, 2)] (by decide) rfl)) ?_)
 rintro e w5 ⟨un, b2, p5, c5, er5, rfl, huun, hbl2, hbb2, hm5⟩
 have mx5 := m0.back hm5 [(1, 1), (2, 2)] (by decide); clear hm5 m0
 have m5 : MemOk _ _ [(1, _), (2, _)] _ := mx5.only [1, 2]; clear mx5
 refine ⟨_, rfl, ?_⟩; intro Az Hz
 refine goCh Hz (.assign rfl .nil) fun Az Hz => ?_
 refine znl (hK0 _ _ ?_); clear hK0
 refine wp_seq_k (fun K1 hK1 => ?_)
 refine regS Hz (.assign rfl <| .nil) fun Az Hz => ?_
 refine wp_block ?_
 refine wp_loop_ghost (fun g a w => ∃ (k : Nat) (es : List (Int × List Int)) (b1 : List Int) (p1 : Option Addr) (c1 : Nat) (er1 : Int) (p3 : Option Addr) (c3 : Nat), (k : Int) ≤ un ∧ g = un.toNat - k ∧ es.length ≤ k ∧ (∀ e ∈ es, e.2.length ≤ 32 ∧ BytesL e.2) ∧ b1.length ≤ b.length ∧ BytesL b1 ∧ Has 33 [(0, .pointer (some ⟨B, 0, none⟩)), (3, .slice p3 (es.map itD).length c3), (4, .int .u64 un), (5, .int .u64 (k : Int))] a ∧ MemOk X w0 [(1, .box B 67 [.slice p1 b1.length c1, .int .i64 er1]), (2, .dat (.slice p1 b1.length c1) (.ns .u8 b1)), (9, .row (.slice p3 (es.map itD).length c3) 46 2 (es.map itD))] w) (un.toNat) ?_ ?_
 · have mz := m5.nilR 9 46 2
   exact ⟨0, [], b2, _, _, _, _, _, by omega, rfl, Nat.le_refl _, (fun e h => by cases h), hbl2, hbb2, Hz.only [0, 3, 4, 5], mz.only [1, 2, 9]⟩
 clear Hz m5
 rintro g Az w9 ⟨k, es, b1, p1, c1, er1, p3, c3, hku, hg, hel, hes, hbl1, hbb1, Hz, m9⟩
 refine wp_seq_k (fun K2 hK2 => ?_)
 refine zsr fun K3 hK3 => ?_
 refine goCh Hz (.move rfl <| .move rfl <| .lss rfl rfl <| .move rfl <| .nil) fun Az Hz => ?_
 refine bc Hz 12 ?_ ?_
 ·
  intro hb18 Hz; try simp only [QQ, Qax] at hb18
  refine goCh Hz (.moveZ rfl <| .nilCheckZ rfl <| .faZ 1 rfl U67 <| .loadB1Z m9 (i := 1) rfl rfl rfl U3 rfl <| .eqlZ rfl rfl <| .pickT rfl rfl <| .nil) fun Az Hz => ?_
  refine znl (hK3 _ _ ?_); clear hK3
  refine bc Hz 18 ?_ ?_
  ·
   intro hb25 Hz; try simp only [QQ, Qax] at hb25
   refine wct Hz ?_
   refine zss (hK2 _ _ ?_); clear hK2
   refine wp_seq_k (fun K4 hK4 => ?_)
   refine wp_block ?_
   replace Hz : Has 33 [(0, _), (3, _), (4, _), (5, _)] Az := Hz.only [0, 3, 4, 5]
   refine zsr fun K5 hK5 => ?_
   refine goCh Hz (.move rfl .nil) fun Az Hz => ?_
   refine plz (ecl Hz Tryd.func27 rfl (rnum _ _ b1 _ 256 _ _ _ (by omega) hbb1 (by decide) (m9.into [(1, 1), (2, 2)] (by decide) rfl)) ?_)
   rintro e w29 ⟨uv, b3, p29, c29, er29, rfl, huuv, hbl3, hbb3, hm29⟩
   have mx29 := m9.back hm29 [(1, 1), (2, 2)] (by decide); clear hm29 m9
   have m29 : MemOk _ _ [(1, _), (2, _), (9, _)] _ := mx29.only [1, 2, 9]; clear mx29
   refine ⟨_, rfl, ?_⟩; intro Az Hz
   refine goCh Hz (.conv rfl U49 U3 (r := uv) (IntWalk.i64_in _ (by omega)) <| .assign rfl <| .nil) fun Az Hz => ?_
   refine znl (hK5 _ _ ?_); clear hK5
   refine wp_region_lit ?_
   refine goCh Hz (.move rfl <| .move rfl <| .move rfl <| .nil) fun Az Hz => ?_
   refine plz (ecl Hz Tryd.func81 rfl (rlumpR _ _ b3 _ 32 _ _ _ (by omega) hbb3 (by decide) (m29.into [(1, 1), (2, 2)] (by decide) rfl)) ?_)
   rintro e w36 ⟨xd, b4, p36, c36, er36, p336, c336, rfl, hxd, hbxd, hbl4, hbb4, hm36⟩
   have mx36 := m29.back hm36 [(1, 1), (2, 2), (100, 3)] (by decide); clear hm36 m29
   have m36 : MemOk _ _ [(1, _), (2, _), (100, _), (9, _)] _ := mx36.only [1, 2, 100, 9]; clear mx36
   refine ⟨_, rfl, ?_⟩; intro Az Hz
   refine plz (e_app0N Hz m36 101 rfl rfl (m36.nums (i := 100) rfl) U22 fct0 (by decide) (by omega) rfl fun p38 c38 Az w39 Hz m39 => ?_)
   refine goCh Hz (.build rfl fct18 fl46tI rfl (by dsimp only [setL, List.set] <;> rfl) .nil) fun Az Hz => ?_
   have m42 := m39.freezeN 101 rfl; clear m39
   refine plz (e_litR Hz m42 102 (mm := 2) rfl (.cons rfl rfl (.cons (.v _) (.cons (m42.rd (i := 101) rfl) .nil)) <| .nil) U27 fct17 rfl rfl rfl rfl rfl fun g41 Az w43 Hz m43 => ?_)
   have m45 := m43.freezeR 102 rfl; clear m43
   refine plz (e_appR Hz m45 9 rfl rfl rfl (m45.rd (i := 102) rfl) U27 fct17 rfl rfl (by decide) (by simp; omega) rfl fun p44 c44 Az w46 Hz m46 => ?_)
   refine goCh Hz (.assign rfl .nil) fun Az Hz => ?_
   refine znl (hK4 _ _ ?_); clear hK4
   replace Hz : Has 33 [(0, _), (3, _), (4, _), (5, _)] Az := Hz.only [0, 3, 4, 5]
   refine wp_region_lit ?_
   refine goCh Hz (.move rfl <| .add rfl rfl (r := ((k + 1 : Nat) : Int)) (by rw [IntWalk.u64_in _ (by omega)]; omega) <| .assign rfl <| .nil) fun Az Hz => ?_
   refine wpList_nil ?_
   show ∃ n', n' < _ ∧ _
   have hE : es.map itD ++ [[D.v (.int .i64 uv), .ns .u8 xd]] = (es ++ [(uv, xd)]).map itD := by rw [List.map_append]; rfl
   rw [hE] at m46 Hz
   exact ⟨un.toNat - (k + 1), by omega, k + 1, es ++ [(uv, xd)], b4, _, _, _, _, _, by omega, rfl, by simp; omega, its_snoc hes ⟨by have := hxd; simp only; omega, hbxd⟩, by omega, hbb4, Hz.only [0, 3, 4, 5], m46.only [1, 2, 9]⟩
  intro hb25 Hz; try simp only [QQ, Qax] at hb25
  refine wcf Hz ?_
  refine wp_exit ?_
  refine hK1 _ _ ?_; clear hK1
  replace Hz : Has 33 [(0, _), (3, _), (4, _), (5, _)] Az := Hz.only [0, 3, 4, 5]
  refine regS Hz (.move rfl <| .assign rfl <| .nil) fun Az Hz => ?_
  refine rtd (ret1 (fn := Tryd.f77) Hz rfl rfl ?_)
  have m55 := m9.freezeR 9 rfl; clear m9
  exact ⟨es, b1, _, _, _, _, _, rfl, by omega, hes, hbl1, hbb1, m55.ren [(1, 1), (2, 2), (3, 9)] (by decide)⟩
 intro hb18 Hz; try simp only [QQ, Qax] at hb18
 refine goCh Hz (.sk <| .sk <| .sk <| .sk <| .sk <| .pickF rfl rfl <| .nil) fun Az Hz => ?_
 refine znl (hK3 _ _ ?_); clear hK3
 refine wcf Hz ?_
 refine wp_exit ?_
 refine hK1 _ _ ?_; clear hK1
 replace Hz : Has 33 [(0, _), (3, _), (4, _), (5, _)] Az := Hz.only [0, 3, 4, 5]
 refine regS Hz (.move rfl <| .assign rfl <| .nil) fun Az Hz => ?_
 refine rtd (ret1 (fn := Tryd.f77) Hz rfl rfl ?_)
 have m65 := m9.freezeR 9 rfl; clear m9
 exact ⟨es, b1, _, _, _, _, _, rfl, by omega, hes, hbl1, hbb1, m65.ren [(1, 1), (2, 2), (3, 9)] (by decide)⟩
end Go.Proofs.YtodiklpfdfjikaaDoor.K
end
section
namespace Go.Proofs.YtodiklpfdfjikaaDoor.K
open Go.ChangeShapes Go.WideShapes Go.ChangeAt Go.RowKit
set_option linter.unusedVariables false
set_option linter.unusedSimpArgs false
theorem le_snoc {l : List Int} {k : Nat} {a : Int} (h : ∀ j, j < k → l.getD j 0 ≤ a) (hk : l.getD k 0 ≤ a) : ∀ j, j < k + 1 → l.getD j 0 ≤ a := fun j hj => by
 rcases Nat.lt_or_ge j k with h1 | h1
 · exact h j h1
 obtain rfl : j = k := by omega
 exact hk
theorem nn_snoc {l : List Int} {k : Nat} {a : Int} (h : ∀ j, j < k → l.getD j 0 ≠ a) (hk : ¬ l.getD k 0 = a) : ∀ j, j < k + 1 → l.getD j 0 ≠ a := fun j hj => by
 rcases Nat.lt_or_ge j k with h1 | h1
 · exact h j h1
 obtain rfl : j = k := by omega
 exact hk
theorem sortP_sorted (l : List Int) : (sortP l).Pairwise (· ≤ ·) := by
 have h := List.pairwise_mergeSort (le := fun (x y : Int) => decide (x ≤ y)) (fun a b c h1 h2 => by simp at h1 h2 ⊢; omega) (fun a b => by simp; omega) l
 exact h.imp (fun h => by simpa using h)
theorem pin_sorted {pins : List Int} {at0 : Int} {k : Nat} (hs : pins.Pairwise (· ≤ ·)) (hall : ∀ j, j < k → pins.getD j 0 ≤ at0) (hkl : k ≤ pins.length) (hnx : k = pins.length ∨ at0 < pins.getD k 0) : pins.take k ++ [at0] ++ pins.drop k = sortP (pins ++ [at0]) := by
 refine List.Perm.eq_of_pairwise (le := (· ≤ ·)) (fun a b _ _ h1 h2 => by omega) ?_ (sortP_sorted _) ?_
 · rw [List.append_assoc, List.pairwise_append]
   refine ⟨hs.sublist (List.take_sublist _ _), ?_, ?_⟩
   · rw [List.singleton_append, List.pairwise_cons]
     refine ⟨fun b hb => ?_, hs.sublist (List.drop_sublist _ _)⟩
     rcases hnx with rfl | hnx
     · rw [List.drop_length] at hb; cases hb
     obtain ⟨j, hj, rfl⟩ := List.getElem_of_mem hb
     rw [List.length_drop] at hj
     rw [List.getElem_drop]
     have h1 : pins.getD k 0 ≤ pins[k + j] := by
       rw [List.getD, List.getElem?_eq_getElem (by omega)]
       rcases Nat.eq_zero_or_pos j with rfl | hj0
       · exact Int.le_refl _
       exact List.pairwise_iff_getElem.1 hs k (k + j) (by omega) (by omega) (by omega)
     omega
   intro a ha b hb
   obtain ⟨j, hj, rfl⟩ := List.getElem_of_mem ha
   rw [List.length_take] at hj
   rw [List.getElem_take]
   have h1 : pins[j] ≤ at0 := by have := hall j (by omega); rwa [List.getD, List.getElem?_eq_getElem (by omega)] at this
   rcases List.mem_append.1 hb with hb | hb
   · simp at hb; omega
   obtain ⟨i, hi, rfl⟩ := List.getElem_of_mem hb
   rw [List.length_drop] at hi
   rw [List.getElem_drop]
   exact List.pairwise_iff_getElem.1 hs j (k + i) (by omega) (by omega) (by omega)
 refine List.Perm.trans ?_ (List.mergeSort_perm _ _).symm
 rw [List.append_assoc]
 refine (List.Perm.append_left _ (List.perm_append_comm)).trans ?_
 rw [← List.append_assoc, List.take_append_drop]
set_option maxRecDepth 100000
set_option maxHeartbeats 4000000
theorem rdone (X : Cx) (vo bl sz pe to ne fl : Int) (hi : Bool) (place pins : List Int) (ws : List (Int × List (Int × List Int))) (items : List (Int × List Int)) (pp pn pw : Option Addr) (cp cn9 cw : Nat) (pi : Option Addr) (ci : Nat) (kd v1 v2 v3 v4 v5 at0 ix : Int) (q1 : Option Addr) (n1 c1 : Nat) (w0 : World) (hk4 : kd ≠ 4) (hk5 : kd ≠ 5) (hne : -1000000000000000 ≤ ne ∧ ne ≤ 1000000000000000) (hl : ws.length ≤ 900000) (hp : pins.length ≤ 1000000) (hil : items.length ≤ 1000000) (hio : ItsOk items) (m0 : MemOk X w0 [(1, .dat (.slice pp place.length cp) (.ns .i64 place)), (2, .dat (.slice pn pins.length cn9) (.ns .i64 pins)), (3, .dat (.slice pw (ws.map wrD).length cw) (.l 2 (ws.map wrD))), (4, .dat (.slice pi items.length ci) (.l 2 (items.map itD)))] w0) :
   Calls Tryd.prog 78 #[.agg #[.int .i64 vo, .int .i64 bl, .int .i64 sz, .int .i64 pe, .slice pp place.length cp, .int .i64 to, .int .i64 ne, .bool hi, .int .i64 fl, .slice pn pins.length cn9, .slice pw (ws.map wrD).length cw], .agg #[.int .i64 kd, .int .i64 v1, .int .i64 v2, .int .i64 v3, .int .i64 v4, .slice q1 n1 c1, .int .i64 v5, .int .i64 at0, .int .i64 ix, .slice pi items.length ci]] w0 fun e w' => ∃ (ne' : Int) (hi' : Bool) (fl' : Int) (ws' : List (Int × List (Int × List Int))) (e9 : Int) (p3' : Option Addr) (d3' : Nat), e = .returned (.tuple #[.agg #[.int .i64 vo, .int .i64 bl, .int .i64 sz, .int .i64 pe, .slice pp place.length cp, .int .i64 to, .int .i64 ne', .bool hi', .int .i64 fl', .slice pn pins.length cn9, .slice p3' (ws'.map wrD).length d3'], .int .i64 e9]) ∧ doR bl sz to ne fl hi pins ws kd at0 ix items = (ne', hi', fl', ws', e9) ∧ MemOk X w0 [(1, .dat (.slice pp place.length cp) (.ns .i64 place)), (2, .dat (.slice pn pins.length cn9) (.ns .i64 pins)), (3, .dat (.slice pw (ws.map wrD).length cw) (.l 2 (ws.map wrD))), (4, .dat (.slice pi items.length ci) (.l 2 (items.map itD))), (7, .dat (.slice p3' (ws'.map wrD).length d3') (.l 2 (ws'.map wrD)))] w' := by
 refine ent2 Tryd.func78 rfl Tryd.ntmps78 fun Az Hz => ?_
 refine zsr fun K0 hK0 => ?_
 refine plz (e_box Hz m0 20 (cs := [_, _, _, _, _, _, _, _, _, _, _]) rfl rfl rfl fun g1 Az w2 Hz m2 _ _ => ?_)
 refine plz (e_box Hz m2 21 (cs := [_, _, _, _, _, _, _, _, _, _]) rfl rfl rfl fun g3 Az w4 Hz m4 _ _ => ?_)
 refine plz (e_alloc Hz m4 22 fct21 rfl fun g5 Az w6 Hz m6 _ _ => ?_)
 refine goCh Hz (.assign rfl .nil) fun Az Hz => ?_
 refine znl (hK0 _ _ ?_); clear hK0
 refine wp_seq_k (fun K1 hK1 => ?_)
 refine regS Hz (.fa 0 rfl U89 <| .lb m6 21 U3 rfl rfl rfl <| .nil) fun Az Hz => ?_
 refine wp_block ?_
 refine wp_seq_k (fun K2 hK2 => ?_)
 refine regS Hz (.eql rfl rfl <| .assign rfl <| .nil) fun Az Hz => ?_
 refine bc Hz 10 ?_ ?_
 ·
  intro hb12 Hz; try simp only [QQ, Qax] at hb12
  refine wct Hz ?_
  refine zss (hK2 _ _ ?_); clear hK2
  refine wct Hz ?_
  refine regS Hz (.fa 7 rfl U56 <| .lb m6 20 U4 rfl rfl rfl <| .nil) fun Az Hz => ?_
  refine bc Hz 16 ?_ ?_
  ·
   intro hb15 Hz; try simp only [QQ, Qax] at hb15
   refine wct Hz ?_
   replace Hz : Has 197 [(2, _), (3, _), (4, _), (5, _), (10, _), (16, _)] Az := Hz.only [2, 3, 4, 5, 10, 16]
   refine zsr fun K3 hK3 => ?_
   refine goCh Hz (.loadBR m6 (i := 20) rfl rfl U56 rfl fct16 (by simp) (by dsimp only [List.drop, List.take] <;> rfl) .nil) fun Az Hz => ?_
   refine plz (e_storeW Hz m6 22 rfl rfl rfl rfl rfl fct16 fun w19 m19 _ => ?_)
   refine goCh Hz (.assign rfl .nil) fun Az Hz => ?_
   refine znl (hK3 _ _ ?_); clear hK3
   refine rtd (retCT (fn := Tryd.f78) Hz m19 (i := 22) rfl rfl rfl rfl U56 rfl fct16 ?_)
   have m21 := m19.dat 23 rfl (m19.rd (i := 3) rfl); clear m19
   exact ⟨ne, hi, fl, ws, 28, _, _, rfl, by rw [doR, if_pos (by omega), putR, if_pos (by assumption)], m21.ren [(1, 1), (2, 2), (3, 3), (4, 4), (7, 23)] (by decide)⟩
  intro hb15 Hz; try simp only [QQ, Qax] at hb15
  refine wcf Hz ?_
  refine zss (hK1 _ _ ?_); clear hK1
  refine wp_seq_k (fun K4 hK4 => ?_)
  replace Hz : Has 197 [(2, _), (3, _), (4, _), (5, _), (10, _), (16, _)] Az := Hz.only [2, 3, 4, 5, 10, 16]
  refine regS Hz (.fa 0 rfl U89 <| .lb m6 21 U3 rfl rfl rfl <| .nil) fun Az Hz => ?_
  refine wp_block ?_
  refine regS Hz (.eql rfl rfl <| .assign rfl <| .nil) fun Az Hz => ?_
  refine bc Hz 21 ?_ ?_
  rotate_left
  · intro hb _; exact absurd hb (by simp; omega)
  clear Hz; intro _ Hz
  refine wct Hz ?_
  refine wp_seq_k (fun K5 hK5 => ?_)
  refine zsr fun K6 hK6 => ?_
  refine goCh Hz (.fa 1 rfl U56 <| .lb m6 20 U3 rfl rfl rfl <| .fa 2 rfl U56 <| .lb m6 20 U3 rfl rfl rfl <| .fa 9 rfl U89 <| .lb m6 21 U27 rfl rfl rfl <| .nil) fun Az Hz => ?_
  refine plz (ecl Hz Tryd.func82 rfl (ritems_any _ _ items _ _ _ _ ((m6.rd (i := 4) rfl).any) hil) ?_)
  rintro e w40 ⟨ib, rfl, hib, hb40⟩
  have m41 := m6.later hb40
  clear m6
  clear hb40
  refine ⟨_, rfl, ?_⟩; intro Az Hz
  refine goCh Hz (.not rfl .nil) fun Az Hz => ?_
  refine znl (hK6 _ _ ?_); clear hK6
  refine bc Hz 30 ?_ ?_
  ·
   intro hb44 Hz; try simp only [QQ, Qax] at hb44
   refine wct Hz ?_
   replace Hz : Has 197 [(2, _), (3, _), (4, _), (5, _), (10, _), (16, _), (19, _), (21, _), (30, _)] Az := Hz.only [2, 3, 4, 5, 10, 16, 19, 21, 30]
   refine zsr fun K7 hK7 => ?_
   refine goCh Hz (.loadBR m41 (i := 20) rfl rfl U56 rfl fct16 (by simp) (by dsimp only [List.drop, List.take] <;> rfl) .nil) fun Az Hz => ?_
   refine plz (e_storeW Hz m41 22 rfl rfl rfl rfl rfl fct16 fun w48 m48 _ => ?_)
   refine goCh Hz (.assign rfl .nil) fun Az Hz => ?_
   refine znl (hK7 _ _ ?_); clear hK7
   refine rtd (retCT (fn := Tryd.f78) Hz m48 (i := 22) rfl rfl rfl rfl U56 rfl fct16 ?_)
   have m50 := m48.dat 23 rfl (m48.rd (i := 3) rfl); clear m48
   exact ⟨ne, hi, fl, ws, 23, _, _, rfl, by rw [doR, if_pos (by omega), putR, if_neg (by simp_all), wrR, if_neg (fun h => by have h9 := hib.2 h; simp_all)], m50.ren [(1, 1), (2, 2), (3, 3), (4, 4), (7, 23)] (by decide)⟩
  intro hb44 Hz; try simp only [QQ, Qax] at hb44
  refine wcf Hz ?_
  refine zss (hK5 _ _ ?_); clear hK5
  replace Hz : Has 197 [(2, _), (3, _), (4, _), (5, _), (10, _), (16, _), (19, _), (21, _), (30, _)] Az := Hz.only [2, 3, 4, 5, 10, 16, 19, 21, 30]
  refine zsr fun K8 hK8 => ?_
  refine goCh Hz (.loadBR m41 (i := 20) rfl rfl U56 rfl fct16 (by simp) (by dsimp only [List.drop, List.take] <;> rfl) <| .fa 9 rfl U89 <| .lb m41 21 U27 rfl rfl rfl <| .nil) fun Az Hz => ?_
  refine plz (ecl Hz Tryd.func83 rfl (rwrite_fr _ _ _ _ _ _ _ _ _ place pins ws items _ _ _ _ _ _ _ _ _ hl hil hio (m41.into [(1, 1), (2, 2), (3, 3), (4, 4)] (by decide) rfl)) ?_)
  rintro e w58 ⟨p58, c58, rfl, hm58⟩
  have mx58 := m41.back hm58 [(1, 1), (2, 2), (3, 3), (4, 4), (23, 7)] (by decide); clear hm58 m41
  have m58 : MemOk _ _ [(1, _), (2, _), (3, _), (4, _), (23, _), (20, _), (21, _), (22, _)] _ := mx58.only [1, 2, 3, 4, 23, 20, 21, 22]; clear mx58
  refine ⟨_, rfl, ?_⟩; intro Az Hz
  refine plz (e_storeW Hz m58 22 rfl rfl rfl rfl rfl fct16 fun w60 m60 _ => ?_)
  refine goCh Hz (.assign rfl .nil) fun Az Hz => ?_
  refine znl (hK8 _ _ ?_); clear hK8
  refine rtd (retCT (fn := Tryd.f78) Hz m60 (i := 22) rfl rfl rfl rfl U56 rfl fct16 ?_)
  exact ⟨ne, hi, fl, (ws ++ [((ws.length : Int) + 1, items)]), 0, _, _, rfl, by rw [doR, if_pos (by omega), putR, if_neg (by simp_all), wrR, if_pos (hib.1 (by simp_all))], m60.ren [(1, 1), (2, 2), (3, 3), (4, 4), (7, 23)] (by decide)⟩
 intro hb12 Hz; try simp only [QQ, Qax] at hb12
 refine wcf Hz ?_
 refine regS Hz (.eql rfl rfl <| .assign rfl <| .nil) fun Az Hz => ?_
 refine bc Hz 10 ?_ ?_
 ·
  intro hb64 Hz; try simp only [QQ, Qax] at hb64
  refine wct Hz ?_
  refine zss (hK2 _ _ ?_); clear hK2
  refine wct Hz ?_
  replace Hz : Has 197 [(2, _), (3, _), (4, _), (5, _), (10, _)] Az := Hz.only [2, 3, 4, 5, 10]
  refine regS Hz (.fa 7 rfl U56 <| .lb m6 20 U4 rfl rfl rfl <| .nil) fun Az Hz => ?_
  refine bc Hz 16 ?_ ?_
  ·
   intro hb68 Hz; try simp only [QQ, Qax] at hb68
   refine wct Hz ?_
   refine zsr fun K9 hK9 => ?_
   refine goCh Hz (.loadBR m6 (i := 20) rfl rfl U56 rfl fct16 (by simp) (by dsimp only [List.drop, List.take] <;> rfl) .nil) fun Az Hz => ?_
   refine plz (e_storeW Hz m6 22 rfl rfl rfl rfl rfl fct16 fun w71 m71 _ => ?_)
   refine goCh Hz (.assign rfl .nil) fun Az Hz => ?_
   refine znl (hK9 _ _ ?_); clear hK9
   refine rtd (retCT (fn := Tryd.f78) Hz m71 (i := 22) rfl rfl rfl rfl U56 rfl fct16 ?_)
   have m73 := m71.dat 23 rfl (m71.rd (i := 3) rfl); clear m71
   exact ⟨ne, hi, fl, ws, 28, _, _, rfl, by rw [doR, if_neg (by omega), if_pos (by omega), pruneR]; simp_all [reachR], m73.ren [(1, 1), (2, 2), (3, 3), (4, 4), (7, 23)] (by decide)⟩
  intro hb68 Hz; try simp only [QQ, Qax] at hb68
  refine wcf Hz ?_
  refine zss (hK1 _ _ ?_); clear hK1
  refine wp_seq_k (fun K10 hK10 => ?_)
  refine regS Hz (.fa 0 rfl U89 <| .lb m6 21 U3 rfl rfl rfl <| .nil) fun Az Hz => ?_
  refine wp_block ?_
  refine regS Hz (.eql rfl rfl <| .assign rfl <| .nil) fun Az Hz => ?_
  refine bc Hz 21 ?_ ?_
  · intro hb _; exact absurd hb (by simp; omega)
  clear Hz; intro _ Hz
  refine wcf Hz ?_
  refine regS Hz (.eql rfl rfl <| .assign rfl <| .nil) fun Az Hz => ?_
  refine bc Hz 36 ?_ ?_
  rotate_left
  · intro hb _; exact absurd hb (by simp; omega)
  clear Hz; intro _ Hz
  refine wct Hz ?_
  refine wp_seq_k (fun K11 hK11 => ?_)
  refine regS Hz (.fa 7 rfl U89 <| .lb m6 21 U2 rfl rfl rfl <| .fa 8 rfl U56 <| .lb m6 20 U2 rfl rfl rfl <| .lss rfl rfl <| .nil) fun Az Hz => ?_
  refine bc Hz 42 ?_ ?_
  ·
   intro hb87 Hz; try simp only [QQ, Qax] at hb87
   refine wct Hz ?_
   replace Hz : Has 197 [(2, _), (3, _), (4, _), (5, _), (10, _), (16, _), (19, _), (21, _), (36, _), (42, _)] Az := Hz.only [2, 3, 4, 5, 10, 16, 19, 21, 36, 42]
   refine zsr fun K12 hK12 => ?_
   refine goCh Hz (.loadBR m6 (i := 20) rfl rfl U56 rfl fct16 (by simp) (by dsimp only [List.drop, List.take] <;> rfl) .nil) fun Az Hz => ?_
   refine plz (e_storeW Hz m6 22 rfl rfl rfl rfl rfl fct16 fun w91 m91 _ => ?_)
   refine goCh Hz (.assign rfl .nil) fun Az Hz => ?_
   refine znl (hK12 _ _ ?_); clear hK12
   refine rtd (retCT (fn := Tryd.f78) Hz m91 (i := 22) rfl rfl rfl rfl U56 rfl fct16 ?_)
   have m93 := m91.dat 23 rfl (m91.rd (i := 3) rfl); clear m91
   exact ⟨ne, hi, fl, ws, 30, _, _, rfl, by rw [doR, if_neg (by omega), if_pos (by omega), pruneR]; rw [show reachR hi fl at0 (lowL ws.length pins) = 30 from by rw [reachR, if_neg (by simp_all), if_pos (by omega)]]; rfl, m93.ren [(1, 1), (2, 2), (3, 3), (4, 4), (7, 23)] (by decide)⟩
  intro hb87 Hz; try simp only [QQ, Qax] at hb87
  refine wcf Hz ?_
  refine zss (hK11 _ _ ?_); clear hK11
  refine wp_seq_k (fun K13 hK13 => ?_)
  refine wp_seq_k (fun K14 hK14 => ?_)
  replace Hz : Has 197 [(2, _), (3, _), (4, _), (5, _), (10, _), (16, _), (19, _), (21, _), (36, _), (42, _)] Az := Hz.only [2, 3, 4, 5, 10, 16, 19, 21, 36, 42]
  have m95 : MemOk _ _ [(1, _), (2, _), (3, _), (4, _), (20, _), (21, _), (22, _)] _ := m6.only [1, 2, 3, 4, 20, 21, 22]; clear m6
  refine region_p 5 (B := [(1, _), (2, _), (3, _), (4, _), (20, _), (21, _), (22, _)]) (m95.to ⟨il, il, il, il, il, il, il, trivial⟩) m95 (by kernel_rfl) (fun w96 hP96 m96 => ?_); clear m95
  refine goR hP96 [0, 1, 2] [1, 2] 3 0 7 Hz (m96.to ⟨il, il, il, il, il, il, il, trivial⟩) (.fa 7 rfl U89 <| .lb hh 21 U2 rfl rfl rfl <| .loadBR hh (i := 20) rfl rfl U56 rfl fct16 (by simp) (by dsimp only [List.drop, List.take] <;> rfl) <| .nil) fun Az Hz => ?_
  refine stepE_only 3 rfl (by kernel_rfl) rfl (fun K hK => ?_)
  refine e_call Hz Tryd.func84 rfl rfl rfl rfl (rlow_any _ _ _ _ _ _ _ _ pins _ _ _ _ _ _ _ _ _ ((m96.rd (i := 2) rfl).any) hp) ?_
  rintro e w100 ⟨rfl, hb100⟩
  rw [List.length_map]
  have m101 := m96.later hb100
  clear m96
  clear hb100
  refine ⟨_, rfl, ?_⟩; intro Az Hz
  refine hK _ _ (m101.to ⟨il, il, il, il, il, il, il, trivial⟩) ?_; clear hK K
  refine goA hP96 [4] 1 15 31 Hz (m101.to ⟨il, il, il, il, il, il, il, trivial⟩) (.gtr rfl rfl <| .nil) fun Az Hz => ?_
  refine wpAnyE_done (by kernel_rfl) ?_ _
  refine hK14 _ _ ?_; clear hK14
  refine bc Hz 48 ?_ ?_
  ·
   intro hb104 Hz; try simp only [QQ, Qax] at hb104
   refine wct Hz ?_
   refine zsr fun K15 hK15 => ?_
   refine goCh Hz (.loadBR m101 (i := 20) rfl rfl U56 rfl fct16 (by simp) (by dsimp only [List.drop, List.take] <;> rfl) .nil) fun Az Hz => ?_
   refine plz (e_storeW Hz m101 22 rfl rfl rfl rfl rfl fct16 fun w107 m107 _ => ?_)
   refine goCh Hz (.assign rfl .nil) fun Az Hz => ?_
   refine znl (hK15 _ _ ?_); clear hK15
   refine rtd (retCT (fn := Tryd.f78) Hz m107 (i := 22) rfl rfl rfl rfl U56 rfl fct16 ?_)
   have m109 := m107.dat 23 rfl (m107.rd (i := 3) rfl); clear m107
   exact ⟨ne, hi, fl, ws, 31, _, _, rfl, by rw [doR, if_neg (by omega), if_pos (by omega), pruneR]; rw [show reachR hi fl at0 (lowL ws.length pins) = 31 from by rw [reachR, if_neg (by simp_all), if_neg (by omega), if_pos (by omega)]]; rfl, m109.ren [(1, 1), (2, 2), (3, 3), (4, 4), (7, 23)] (by decide)⟩
  intro hb104 Hz; try simp only [QQ, Qax] at hb104
  refine wcf Hz ?_
  refine zss (hK13 _ _ ?_); clear hK13
  refine wp_region_lit ?_
  refine goCh Hz (.fa 7 rfl U89 <| .lb m101 21 U2 rfl rfl rfl <| .fa 8 rfl U56 <| .nil) fun Az Hz => ?_
  refine plz (e_store1 Hz m101 20 rfl rfl rfl rfl rfl fct3 (by dsimp only [List.set] <;> rfl) fun w113 m113 _ => ?_)
  refine znl (hK10 _ _ ?_); clear hK10
  replace Hz : Has 197 [(2, _), (4, _), (5, _), (10, _), (16, _), (21, _), (36, _), (42, _), (48, _)] Az := Hz.only [2, 4, 5, 10, 16, 21, 36, 42, 48]
  refine zsr fun K16 hK16 => ?_
  refine goCh Hz (.loadBR m113 (i := 20) rfl rfl U56 rfl fct16 (by simp) (by dsimp only [List.drop, List.take] <;> rfl) .nil) fun Az Hz => ?_
  refine plz (e_storeW Hz m113 22 rfl rfl rfl rfl rfl fct16 fun w117 m117 _ => ?_)
  refine goCh Hz (.assign rfl .nil) fun Az Hz => ?_
  refine znl (hK16 _ _ ?_); clear hK16
  refine rtd (retCT (fn := Tryd.f78) Hz m117 (i := 22) rfl rfl rfl rfl U56 rfl fct16 ?_)
  have m119 := m117.dat 23 rfl (m117.rd (i := 3) rfl); clear m117
  exact ⟨ne, hi, at0, ws, 0, _, _, rfl, by rw [doR, if_neg (by omega), if_pos (by omega), pruneR]; rw [show reachR hi fl at0 (lowL ws.length pins) = 0 from by rw [reachR, if_neg (by simp_all), if_neg (by omega), if_neg (by omega)]]; rfl, m119.ren [(1, 1), (2, 2), (3, 3), (4, 4), (7, 23)] (by decide)⟩
 intro hb64 Hz; try simp only [QQ, Qax] at hb64
 refine wcf Hz ?_
 refine regS Hz (.eql rfl rfl <| .assign rfl <| .nil) fun Az Hz => ?_
 refine bc Hz 10 ?_ ?_
 · intro hb _; exact absurd hb (by simp; omega)
 clear Hz; intro _ Hz
 refine wcf Hz ?_
 replace Hz : Has 197 [(2, _), (3, _), (4, _), (5, _), (9, _), (10, _)] Az := Hz.only [2, 3, 4, 5, 9, 10]
 refine wp_region_lit ?_
 refine goCh Hz (.eql rfl rfl <| .assign rfl <| .nil) fun Az Hz => ?_
 refine znl (hK2 _ _ ?_); clear hK2
 refine bc Hz 10 ?_ ?_
 · intro hb _; exact absurd hb (by simp; omega)
 clear Hz; intro _ Hz
 refine wcf Hz ?_
 refine zss (hK1 _ _ ?_); clear hK1
 refine wp_seq_k (fun K17 hK17 => ?_)
 refine regS Hz (.fa 0 rfl U89 <| .lb m6 21 U3 rfl rfl rfl <| .nil) fun Az Hz => ?_
 refine wp_block ?_
 refine regS Hz (.eql rfl rfl <| .assign rfl <| .nil) fun Az Hz => ?_
 refine bc Hz 21 ?_ ?_
 · intro hb _; exact absurd hb (by simp; omega)
 clear Hz; intro _ Hz
 refine wcf Hz ?_
 refine regS Hz (.eql rfl rfl <| .assign rfl <| .nil) fun Az Hz => ?_
 refine bc Hz 36 ?_ ?_
 · intro hb _; exact absurd hb (by simp; omega)
 clear Hz; intro _ Hz
 refine wcf Hz ?_
 refine regS Hz (.eql rfl rfl <| .assign rfl <| .nil) fun Az Hz => ?_
 refine bc Hz 53 ?_ ?_
 · intro hb _; exact absurd hb (by simp; omega)
 clear Hz; intro _ Hz
 refine wcf Hz ?_
 replace Hz : Has 197 [(2, _), (3, _), (4, _), (5, _), (10, _), (19, _), (21, _), (36, _)] Az := Hz.only [2, 3, 4, 5, 10, 19, 21, 36]
 refine regS Hz (.eql rfl rfl <| .assign rfl <| .nil) fun Az Hz => ?_
 refine bc Hz 99 ?_ ?_
 · intro hb _; exact absurd hb (by simp; omega)
 clear Hz; intro _ Hz
 refine wcf Hz ?_
 refine regS Hz (.eql rfl rfl <| .assign rfl <| .nil) fun Az Hz => ?_
 refine bc Hz 130 ?_ ?_
 ·
  intro hb144 Hz; try simp only [QQ, Qax] at hb144
  refine wct Hz ?_
  refine wp_seq_k (fun K18 hK18 => ?_)
  refine regS Hz (.fa 7 rfl U56 <| .lb m6 20 U4 rfl rfl rfl <| .not rfl <| .nil) fun Az Hz => ?_
  refine bc Hz 134 ?_ ?_
  ·
   intro hb148 Hz; try simp only [QQ, Qax] at hb148
   refine wct Hz ?_
   refine zsr fun K19 hK19 => ?_
   refine goCh Hz (.loadBR m6 (i := 20) rfl rfl U56 rfl fct16 (by simp) (by dsimp only [List.drop, List.take] <;> rfl) .nil) fun Az Hz => ?_
   refine plz (e_storeW Hz m6 22 rfl rfl rfl rfl rfl fct16 fun w151 m151 _ => ?_)
   refine goCh Hz (.assign rfl .nil) fun Az Hz => ?_
   refine znl (hK19 _ _ ?_); clear hK19
   refine rtd (retCT (fn := Tryd.f78) Hz m151 (i := 22) rfl rfl rfl rfl U56 rfl fct16 ?_)
   have m153 := m151.dat 23 rfl (m151.rd (i := 3) rfl); clear m151
   exact ⟨ne, hi, fl, ws, 33, _, _, rfl, by rw [doR, if_neg (by omega), if_neg (by omega), if_pos (by omega), takeR, if_pos (by simp_all)], m153.ren [(1, 1), (2, 2), (3, 3), (4, 4), (7, 23)] (by decide)⟩
  intro hb148 Hz; try simp only [QQ, Qax] at hb148
  refine wcf Hz ?_
  refine zss (hK18 _ _ ?_); clear hK18
  refine wp_seq_k (fun K20 hK20 => ?_)
  refine zsr fun K21 hK21 => ?_
  refine goCh Hz (.fa 8 rfl U89 <| .lb m6 21 U3 rfl rfl rfl <| .geq rfl rfl <| .move rfl <| .nil) fun Az Hz => ?_
  refine bc Hz 139 ?_ ?_
  ·
   intro hb162 Hz; try simp only [QQ, Qax] at hb162
   refine goCh Hz (.faZ 8 rfl U89 <| .loadB1Z m6 (i := 21) rfl rfl rfl U3 rfl <| .faZ 6 rfl U56 <| .loadB1Z m6 (i := 20) rfl rfl rfl U3 rfl <| .lssZ rfl rfl <| .pickT rfl rfl <| .nil) fun Az Hz => ?_
   refine znl (hK21 _ _ ?_); clear hK21
   refine bc Hz 145 ?_ ?_
   ·
    intro hb169 Hz; try simp only [QQ, Qax] at hb169
    refine wct Hz ?_
    replace Hz : Has 197 [(2, _), (3, _), (4, _), (5, _), (10, _), (19, _), (21, _), (36, _), (130, _), (134, _), (139, _), (145, _)] Az := Hz.only [2, 3, 4, 5, 10, 19, 21, 36, 130, 134, 139, 145]
    refine zsr fun K22 hK22 => ?_
    refine goCh Hz (.loadBR m6 (i := 20) rfl rfl U56 rfl fct16 (by simp) (by dsimp only [List.drop, List.take] <;> rfl) .nil) fun Az Hz => ?_
    refine plz (e_storeW Hz m6 22 rfl rfl rfl rfl rfl fct16 fun w173 m173 _ => ?_)
    refine goCh Hz (.assign rfl .nil) fun Az Hz => ?_
    refine znl (hK22 _ _ ?_); clear hK22
    refine rtd (retCT (fn := Tryd.f78) Hz m173 (i := 22) rfl rfl rfl rfl U56 rfl fct16 ?_)
    have m175 := m173.dat 23 rfl (m173.rd (i := 3) rfl); clear m173
    exact ⟨ne, hi, fl, ws, 0, _, _, rfl, by rw [doR, if_neg (by omega), if_neg (by omega), if_pos (by omega), takeR, if_neg (by simp_all), if_pos (by omega)], m175.ren [(1, 1), (2, 2), (3, 3), (4, 4), (7, 23)] (by decide)⟩
   intro hb169 Hz; try simp only [QQ, Qax] at hb169
   refine wcf Hz ?_
   refine zss (hK20 _ _ ?_); clear hK20
   refine wp_seq_k (fun K23 hK23 => ?_)
   replace Hz : Has 197 [(2, _), (3, _), (4, _), (5, _), (10, _), (19, _), (21, _), (36, _), (130, _), (134, _), (139, _), (145, _)] Az := Hz.only [2, 3, 4, 5, 10, 19, 21, 36, 130, 134, 139, 145]
   refine zsr fun K24 hK24 => ?_
   refine goCh Hz (.fa 8 rfl U89 <| .lb m6 21 U3 rfl rfl rfl <| .fa 6 rfl U56 <| .lb m6 20 U3 rfl rfl rfl <| .neq rfl rfl <| .move rfl <| .nil) fun Az Hz => ?_
   refine bc Hz 152 ?_ ?_
   ·
    intro hb189 Hz; try simp only [QQ, Qax] at hb189
    refine goCh Hz (.sk <| .sk <| .sk <| .sk <| .sk <| .pickT rfl rfl <| .nil) fun Az Hz => ?_
    refine znl (hK24 _ _ ?_); clear hK24
    refine wct Hz ?_
    replace Hz : Has 197 [(2, _), (3, _), (4, _), (5, _), (10, _), (19, _), (21, _), (36, _), (130, _), (134, _), (139, _), (145, _), (152, _), (158, _)] Az := Hz.only [2, 3, 4, 5, 10, 19, 21, 36, 130, 134, 139, 145, 152, 158]
    refine zsr fun K25 hK25 => ?_
    refine goCh Hz (.loadBR m6 (i := 20) rfl rfl U56 rfl fct16 (by simp) (by dsimp only [List.drop, List.take] <;> rfl) .nil) fun Az Hz => ?_
    refine plz (e_storeW Hz m6 22 rfl rfl rfl rfl rfl fct16 fun w199 m199 _ => ?_)
    refine goCh Hz (.assign rfl .nil) fun Az Hz => ?_
    refine znl (hK25 _ _ ?_); clear hK25
    refine rtd (retCT (fn := Tryd.f78) Hz m199 (i := 22) rfl rfl rfl rfl U56 rfl fct16 ?_)
    have m201 := m199.dat 23 rfl (m199.rd (i := 3) rfl); clear m199
    exact ⟨ne, hi, fl, ws, 33, _, _, rfl, by rw [doR, if_neg (by omega), if_neg (by omega), if_pos (by omega), takeR, if_neg (by simp_all), if_neg (by omega), if_pos (by omega)], m201.ren [(1, 1), (2, 2), (3, 3), (4, 4), (7, 23)] (by decide)⟩
   intro hb189 Hz; try simp only [QQ, Qax] at hb189
   refine goCh Hz (.faZ 6 rfl U56 <| .loadB1Z m6 (i := 20) rfl rfl rfl U3 rfl <| .faZ 5 rfl U56 <| .loadB1Z m6 (i := 20) rfl rfl rfl U3 rfl <| .eqlZ rfl rfl <| .pickF rfl rfl <| .nil) fun Az Hz => ?_
   refine znl (hK24 _ _ ?_); clear hK24
   refine bc Hz 158 ?_ ?_
   ·
    intro hb208 Hz; try simp only [QQ, Qax] at hb208
    refine wct Hz ?_
    replace Hz : Has 197 [(2, _), (3, _), (4, _), (5, _), (10, _), (19, _), (21, _), (36, _), (130, _), (134, _), (139, _), (145, _), (152, _), (158, _)] Az := Hz.only [2, 3, 4, 5, 10, 19, 21, 36, 130, 134, 139, 145, 152, 158]
    refine zsr fun K26 hK26 => ?_
    refine goCh Hz (.loadBR m6 (i := 20) rfl rfl U56 rfl fct16 (by simp) (by dsimp only [List.drop, List.take] <;> rfl) .nil) fun Az Hz => ?_
    refine plz (e_storeW Hz m6 22 rfl rfl rfl rfl rfl fct16 fun w212 m212 _ => ?_)
    refine goCh Hz (.assign rfl .nil) fun Az Hz => ?_
    refine znl (hK26 _ _ ?_); clear hK26
    refine rtd (retCT (fn := Tryd.f78) Hz m212 (i := 22) rfl rfl rfl rfl U56 rfl fct16 ?_)
    have m214 := m212.dat 23 rfl (m212.rd (i := 3) rfl); clear m212
    exact ⟨ne, hi, fl, ws, 33, _, _, rfl, by rw [doR, if_neg (by omega), if_neg (by omega), if_pos (by omega), takeR, if_neg (by simp_all), if_neg (by omega), if_pos (by omega)], m214.ren [(1, 1), (2, 2), (3, 3), (4, 4), (7, 23)] (by decide)⟩
   intro hb208 Hz; try simp only [QQ, Qax] at hb208
   refine wcf Hz ?_
   refine zss (hK23 _ _ ?_); clear hK23
   refine wp_seq_k (fun K27 hK27 => ?_)
   replace Hz : Has 197 [(2, _), (3, _), (4, _), (5, _), (10, _), (19, _), (21, _), (36, _), (130, _), (134, _), (139, _), (145, _), (152, _), (158, _)] Az := Hz.only [2, 3, 4, 5, 10, 19, 21, 36, 130, 134, 139, 145, 152, 158]
   refine zsr fun K28 hK28 => ?_
   refine goCh Hz (.fa 1 rfl U56 <| .lb m6 20 U3 rfl rfl rfl <| .fa 2 rfl U56 <| .lb m6 20 U3 rfl rfl rfl <| .fa 9 rfl U89 <| .lb m6 21 U27 rfl rfl rfl <| .nil) fun Az Hz => ?_
   refine plz (ecl Hz Tryd.func82 rfl (ritems_any _ _ items _ _ _ _ ((m6.rd (i := 4) rfl).any) hil) ?_)
   rintro e w228 ⟨ib, rfl, hib, hb228⟩
   have m229 := m6.later hb228
   clear m6
   clear hb228
   refine ⟨_, rfl, ?_⟩; intro Az Hz
   refine goCh Hz (.not rfl .nil) fun Az Hz => ?_
   refine znl (hK28 _ _ ?_); clear hK28
   refine bc Hz 167 ?_ ?_
   ·
    intro hb232 Hz; try simp only [QQ, Qax] at hb232
    refine wct Hz ?_
    replace Hz : Has 197 [(2, _), (3, _), (4, _), (5, _), (10, _), (19, _), (21, _), (36, _), (130, _), (134, _), (139, _), (145, _), (152, _), (158, _), (167, _)] Az := Hz.only [2, 3, 4, 5, 10, 19, 21, 36, 130, 134, 139, 145, 152, 158, 167]
    refine zsr fun K29 hK29 => ?_
    refine goCh Hz (.loadBR m229 (i := 20) rfl rfl U56 rfl fct16 (by simp) (by dsimp only [List.drop, List.take] <;> rfl) .nil) fun Az Hz => ?_
    refine plz (e_storeW Hz m229 22 rfl rfl rfl rfl rfl fct16 fun w236 m236 _ => ?_)
    refine goCh Hz (.assign rfl .nil) fun Az Hz => ?_
    refine znl (hK29 _ _ ?_); clear hK29
    refine rtd (retCT (fn := Tryd.f78) Hz m236 (i := 22) rfl rfl rfl rfl U56 rfl fct16 ?_)
    have m238 := m236.dat 23 rfl (m236.rd (i := 3) rfl); clear m236
    exact ⟨ne, hi, fl, ws, 23, _, _, rfl, by rw [doR, if_neg (by omega), if_neg (by omega), if_pos (by omega), takeR, if_neg (by simp_all), if_neg (by omega), if_neg (by omega), show wrR bl sz ws items = (ws, 23) from by rw [wrR, if_neg (fun h => by have h9 := hib.2 h; simp_all)]]; rfl, m238.ren [(1, 1), (2, 2), (3, 3), (4, 4), (7, 23)] (by decide)⟩
   intro hb232 Hz; try simp only [QQ, Qax] at hb232
   refine wcf Hz ?_
   refine zss (hK27 _ _ ?_); clear hK27
   replace Hz : Has 197 [(2, _), (3, _), (4, _), (5, _), (10, _), (19, _), (21, _), (36, _), (130, _), (134, _), (139, _), (145, _), (152, _), (158, _), (167, _)] Az := Hz.only [2, 3, 4, 5, 10, 19, 21, 36, 130, 134, 139, 145, 152, 158, 167]
   refine zsr fun K30 hK30 => ?_
   refine goCh Hz (.loadBR m229 (i := 20) rfl rfl U56 rfl fct16 (by simp) (by dsimp only [List.drop, List.take] <;> rfl) <| .fa 9 rfl U89 <| .lb m229 21 U27 rfl rfl rfl <| .nil) fun Az Hz => ?_
   refine plz (ecl Hz Tryd.func83 rfl (rwrite_fr _ _ _ _ _ _ _ _ _ place pins ws items _ _ _ _ _ _ _ _ _ hl hil hio (m229.into [(1, 1), (2, 2), (3, 3), (4, 4)] (by decide) rfl)) ?_)
   rintro e w246 ⟨p246, c246, rfl, hm246⟩
   have mx246 := m229.back hm246 [(1, 1), (2, 2), (3, 3), (4, 4), (23, 7)] (by decide); clear hm246 m229
   have m246 : MemOk _ _ [(1, _), (2, _), (3, _), (4, _), (23, _), (20, _), (21, _), (22, _)] _ := mx246.only [1, 2, 3, 4, 23, 20, 21, 22]; clear mx246
   refine ⟨_, rfl, ?_⟩; intro Az Hz
   refine plz (e_storeW Hz m246 20 rfl rfl rfl rfl rfl fct16 fun w248 m248 _ => ?_)
   refine znl (hK30 _ _ ?_); clear hK30
   refine wp_region_lit ?_
   refine goCh Hz (.fa 6 rfl U56 <| .lb m248 20 U3 rfl rfl rfl <| .add rfl rfl (r := ne + 1) (IntWalk.i64_in _ (by omega)) <| .fa 6 rfl U56 <| .nil) fun Az Hz => ?_
   refine plz (e_store1 Hz m248 20 rfl rfl rfl rfl rfl fct2 (by dsimp only [List.set] <;> rfl) fun w253 m253 _ => ?_)
   refine znl (hK17 _ _ ?_); clear hK17
   replace Hz : Has 197 [(2, _), (4, _), (5, _), (10, _), (21, _), (36, _), (130, _), (134, _), (139, _), (145, _), (152, _), (158, _), (167, _)] Az := Hz.only [2, 4, 5, 10, 21, 36, 130, 134, 139, 145, 152, 158, 167]
   refine zsr fun K31 hK31 => ?_
   refine goCh Hz (.loadBR m253 (i := 20) rfl rfl U56 rfl fct16 (by simp) (by dsimp only [List.drop, List.take] <;> rfl) .nil) fun Az Hz => ?_
   refine plz (e_storeW Hz m253 22 rfl rfl rfl rfl rfl fct16 fun w257 m257 _ => ?_)
   refine goCh Hz (.assign rfl .nil) fun Az Hz => ?_
   refine znl (hK31 _ _ ?_); clear hK31
   refine rtd (retCT (fn := Tryd.f78) Hz m257 (i := 22) rfl rfl rfl rfl U56 rfl fct16 ?_)
   exact ⟨(ne + 1), hi, fl, (ws ++ [((ws.length : Int) + 1, items)]), 0, _, _, rfl, by rw [doR, if_neg (by omega), if_neg (by omega), if_pos (by omega), takeR, if_neg (by simp_all), if_neg (by omega), if_neg (by omega), show wrR bl sz ws items = ((ws ++ [((ws.length : Int) + 1, items)]), 0) from by rw [wrR, if_pos (hib.1 (by simp_all))]]; rfl, m257.ren [(1, 1), (2, 2), (3, 3), (4, 4), (7, 23)] (by decide)⟩
  intro hb162 Hz; try simp only [QQ, Qax] at hb162
  refine goCh Hz (.sk <| .sk <| .sk <| .sk <| .sk <| .pickF rfl rfl <| .nil) fun Az Hz => ?_
  refine znl (hK21 _ _ ?_); clear hK21
  refine wcf Hz ?_
  refine zss (hK20 _ _ ?_); clear hK20
  refine wp_seq_k (fun K32 hK32 => ?_)
  replace Hz : Has 197 [(2, _), (3, _), (4, _), (5, _), (10, _), (19, _), (21, _), (36, _), (130, _), (134, _), (139, _), (145, _)] Az := Hz.only [2, 3, 4, 5, 10, 19, 21, 36, 130, 134, 139, 145]
  refine zsr fun K33 hK33 => ?_
  refine goCh Hz (.fa 8 rfl U89 <| .lb m6 21 U3 rfl rfl rfl <| .fa 6 rfl U56 <| .lb m6 20 U3 rfl rfl rfl <| .neq rfl rfl <| .move rfl <| .nil) fun Az Hz => ?_
  refine bc Hz 152 ?_ ?_
  ·
   intro hb278 Hz; try simp only [QQ, Qax] at hb278
   refine goCh Hz (.sk <| .sk <| .sk <| .sk <| .sk <| .pickT rfl rfl <| .nil) fun Az Hz => ?_
   refine znl (hK33 _ _ ?_); clear hK33
   refine wct Hz ?_
   replace Hz : Has 197 [(2, _), (3, _), (4, _), (5, _), (10, _), (19, _), (21, _), (36, _), (130, _), (134, _), (139, _), (145, _), (152, _), (158, _)] Az := Hz.only [2, 3, 4, 5, 10, 19, 21, 36, 130, 134, 139, 145, 152, 158]
   refine zsr fun K34 hK34 => ?_
   refine goCh Hz (.loadBR m6 (i := 20) rfl rfl U56 rfl fct16 (by simp) (by dsimp only [List.drop, List.take] <;> rfl) .nil) fun Az Hz => ?_
   refine plz (e_storeW Hz m6 22 rfl rfl rfl rfl rfl fct16 fun w288 m288 _ => ?_)
   refine goCh Hz (.assign rfl .nil) fun Az Hz => ?_
   refine znl (hK34 _ _ ?_); clear hK34
   refine rtd (retCT (fn := Tryd.f78) Hz m288 (i := 22) rfl rfl rfl rfl U56 rfl fct16 ?_)
   have m290 := m288.dat 23 rfl (m288.rd (i := 3) rfl); clear m288
   exact ⟨ne, hi, fl, ws, 33, _, _, rfl, by rw [doR, if_neg (by omega), if_neg (by omega), if_pos (by omega), takeR, if_neg (by simp_all), if_neg (by omega), if_pos (by omega)], m290.ren [(1, 1), (2, 2), (3, 3), (4, 4), (7, 23)] (by decide)⟩
  intro hb278 Hz; try simp only [QQ, Qax] at hb278
  refine goCh Hz (.faZ 6 rfl U56 <| .loadB1Z m6 (i := 20) rfl rfl rfl U3 rfl <| .faZ 5 rfl U56 <| .loadB1Z m6 (i := 20) rfl rfl rfl U3 rfl <| .eqlZ rfl rfl <| .pickF rfl rfl <| .nil) fun Az Hz => ?_
  refine znl (hK33 _ _ ?_); clear hK33
  refine bc Hz 158 ?_ ?_
  ·
   intro hb297 Hz; try simp only [QQ, Qax] at hb297
   refine wct Hz ?_
   replace Hz : Has 197 [(2, _), (3, _), (4, _), (5, _), (10, _), (19, _), (21, _), (36, _), (130, _), (134, _), (139, _), (145, _), (152, _), (158, _)] Az := Hz.only [2, 3, 4, 5, 10, 19, 21, 36, 130, 134, 139, 145, 152, 158]
   refine zsr fun K35 hK35 => ?_
   refine goCh Hz (.loadBR m6 (i := 20) rfl rfl U56 rfl fct16 (by simp) (by dsimp only [List.drop, List.take] <;> rfl) .nil) fun Az Hz => ?_
   refine plz (e_storeW Hz m6 22 rfl rfl rfl rfl rfl fct16 fun w301 m301 _ => ?_)
   refine goCh Hz (.assign rfl .nil) fun Az Hz => ?_
   refine znl (hK35 _ _ ?_); clear hK35
   refine rtd (retCT (fn := Tryd.f78) Hz m301 (i := 22) rfl rfl rfl rfl U56 rfl fct16 ?_)
   have m303 := m301.dat 23 rfl (m301.rd (i := 3) rfl); clear m301
   exact ⟨ne, hi, fl, ws, 33, _, _, rfl, by rw [doR, if_neg (by omega), if_neg (by omega), if_pos (by omega), takeR, if_neg (by simp_all), if_neg (by omega), if_pos (by omega)], m303.ren [(1, 1), (2, 2), (3, 3), (4, 4), (7, 23)] (by decide)⟩
  intro hb297 Hz; try simp only [QQ, Qax] at hb297
  refine wcf Hz ?_
  refine zss (hK32 _ _ ?_); clear hK32
  refine wp_seq_k (fun K36 hK36 => ?_)
  replace Hz : Has 197 [(2, _), (3, _), (4, _), (5, _), (10, _), (19, _), (21, _), (36, _), (130, _), (134, _), (139, _), (145, _), (152, _), (158, _)] Az := Hz.only [2, 3, 4, 5, 10, 19, 21, 36, 130, 134, 139, 145, 152, 158]
  refine zsr fun K37 hK37 => ?_
  refine goCh Hz (.fa 1 rfl U56 <| .lb m6 20 U3 rfl rfl rfl <| .fa 2 rfl U56 <| .lb m6 20 U3 rfl rfl rfl <| .fa 9 rfl U89 <| .lb m6 21 U27 rfl rfl rfl <| .nil) fun Az Hz => ?_
  refine plz (ecl Hz Tryd.func82 rfl (ritems_any _ _ items _ _ _ _ ((m6.rd (i := 4) rfl).any) hil) ?_)
  rintro e w317 ⟨ib, rfl, hib, hb317⟩
  have m318 := m6.later hb317
  clear m6
  clear hb317
  refine ⟨_, rfl, ?_⟩; intro Az Hz
  refine goCh Hz (.not rfl .nil) fun Az Hz => ?_
  refine znl (hK37 _ _ ?_); clear hK37
  refine bc Hz 167 ?_ ?_
  ·
   intro hb321 Hz; try simp only [QQ, Qax] at hb321
   refine wct Hz ?_
   replace Hz : Has 197 [(2, _), (3, _), (4, _), (5, _), (10, _), (19, _), (21, _), (36, _), (130, _), (134, _), (139, _), (145, _), (152, _), (158, _), (167, _)] Az := Hz.only [2, 3, 4, 5, 10, 19, 21, 36, 130, 134, 139, 145, 152, 158, 167]
   refine zsr fun K38 hK38 => ?_
   refine goCh Hz (.loadBR m318 (i := 20) rfl rfl U56 rfl fct16 (by simp) (by dsimp only [List.drop, List.take] <;> rfl) .nil) fun Az Hz => ?_
   refine plz (e_storeW Hz m318 22 rfl rfl rfl rfl rfl fct16 fun w325 m325 _ => ?_)
   refine goCh Hz (.assign rfl .nil) fun Az Hz => ?_
   refine znl (hK38 _ _ ?_); clear hK38
   refine rtd (retCT (fn := Tryd.f78) Hz m325 (i := 22) rfl rfl rfl rfl U56 rfl fct16 ?_)
   have m327 := m325.dat 23 rfl (m325.rd (i := 3) rfl); clear m325
   exact ⟨ne, hi, fl, ws, 23, _, _, rfl, by rw [doR, if_neg (by omega), if_neg (by omega), if_pos (by omega), takeR, if_neg (by simp_all), if_neg (by omega), if_neg (by omega), show wrR bl sz ws items = (ws, 23) from by rw [wrR, if_neg (fun h => by have h9 := hib.2 h; simp_all)]]; rfl, m327.ren [(1, 1), (2, 2), (3, 3), (4, 4), (7, 23)] (by decide)⟩
  intro hb321 Hz; try simp only [QQ, Qax] at hb321
  refine wcf Hz ?_
  refine zss (hK36 _ _ ?_); clear hK36
  replace Hz : Has 197 [(2, _), (3, _), (4, _), (5, _), (10, _), (19, _), (21, _), (36, _), (130, _), (134, _), (139, _), (145, _), (152, _), (158, _), (167, _)] Az := Hz.only [2, 3, 4, 5, 10, 19, 21, 36, 130, 134, 139, 145, 152, 158, 167]
  refine zsr fun K39 hK39 => ?_
  refine goCh Hz (.loadBR m318 (i := 20) rfl rfl U56 rfl fct16 (by simp) (by dsimp only [List.drop, List.take] <;> rfl) <| .fa 9 rfl U89 <| .lb m318 21 U27 rfl rfl rfl <| .nil) fun Az Hz => ?_
  refine plz (ecl Hz Tryd.func83 rfl (rwrite_fr _ _ _ _ _ _ _ _ _ place pins ws items _ _ _ _ _ _ _ _ _ hl hil hio (m318.into [(1, 1), (2, 2), (3, 3), (4, 4)] (by decide) rfl)) ?_)
  rintro e w335 ⟨p335, c335, rfl, hm335⟩
  have mx335 := m318.back hm335 [(1, 1), (2, 2), (3, 3), (4, 4), (23, 7)] (by decide); clear hm335 m318
  have m335 : MemOk _ _ [(1, _), (2, _), (3, _), (4, _), (23, _), (20, _), (21, _), (22, _)] _ := mx335.only [1, 2, 3, 4, 23, 20, 21, 22]; clear mx335
  refine ⟨_, rfl, ?_⟩; intro Az Hz
  refine plz (e_storeW Hz m335 20 rfl rfl rfl rfl rfl fct16 fun w337 m337 _ => ?_)
  refine znl (hK39 _ _ ?_); clear hK39
  refine wp_region_lit ?_
  refine goCh Hz (.fa 6 rfl U56 <| .lb m337 20 U3 rfl rfl rfl <| .add rfl rfl (r := ne + 1) (IntWalk.i64_in _ (by omega)) <| .fa 6 rfl U56 <| .nil) fun Az Hz => ?_
  refine plz (e_store1 Hz m337 20 rfl rfl rfl rfl rfl fct2 (by dsimp only [List.set] <;> rfl) fun w342 m342 _ => ?_)
  refine znl (hK17 _ _ ?_); clear hK17
  replace Hz : Has 197 [(2, _), (4, _), (5, _), (10, _), (21, _), (36, _), (130, _), (134, _), (139, _), (145, _), (152, _), (158, _), (167, _)] Az := Hz.only [2, 4, 5, 10, 21, 36, 130, 134, 139, 145, 152, 158, 167]
  refine zsr fun K40 hK40 => ?_
  refine goCh Hz (.loadBR m342 (i := 20) rfl rfl U56 rfl fct16 (by simp) (by dsimp only [List.drop, List.take] <;> rfl) .nil) fun Az Hz => ?_
  refine plz (e_storeW Hz m342 22 rfl rfl rfl rfl rfl fct16 fun w346 m346 _ => ?_)
  refine goCh Hz (.assign rfl .nil) fun Az Hz => ?_
  refine znl (hK40 _ _ ?_); clear hK40
  refine rtd (retCT (fn := Tryd.f78) Hz m346 (i := 22) rfl rfl rfl rfl U56 rfl fct16 ?_)
  exact ⟨(ne + 1), hi, fl, (ws ++ [((ws.length : Int) + 1, items)]), 0, _, _, rfl, by rw [doR, if_neg (by omega), if_neg (by omega), if_pos (by omega), takeR, if_neg (by simp_all), if_neg (by omega), if_neg (by omega), show wrR bl sz ws items = ((ws ++ [((ws.length : Int) + 1, items)]), 0) from by rw [wrR, if_pos (hib.1 (by simp_all))]]; rfl, m346.ren [(1, 1), (2, 2), (3, 3), (4, 4), (7, 23)] (by decide)⟩
 intro hb144 Hz; try simp only [QQ, Qax] at hb144
 refine wcf Hz ?_
 refine regS Hz (.eql rfl rfl <| .assign rfl <| .nil) fun Az Hz => ?_
 refine bc Hz 177 ?_ ?_
 ·
  intro hb350 Hz; try simp only [QQ, Qax] at hb350
  refine wct Hz ?_
  refine wp_seq_k (fun K41 hK41 => ?_)
  refine zsr fun K42 hK42 => ?_
  refine goCh Hz (.fa 7 rfl U56 <| .lb m6 20 U4 rfl rfl rfl <| .not rfl <| .move rfl <| .nil) fun Az Hz => ?_
  refine bc Hz 182 ?_ ?_
  ·
   intro hb359 Hz; try simp only [QQ, Qax] at hb359
   refine goCh Hz (.sk <| .sk <| .sk <| .sk <| .sk <| .pickT rfl rfl <| .nil) fun Az Hz => ?_
   refine znl (hK42 _ _ ?_); clear hK42
   refine wct Hz ?_
   replace Hz : Has 197 [(2, _), (4, _), (5, _), (10, _), (19, _), (21, _), (36, _), (130, _), (177, _), (182, _), (188, _)] Az := Hz.only [2, 4, 5, 10, 19, 21, 36, 130, 177, 182, 188]
   refine zsr fun K43 hK43 => ?_
   refine goCh Hz (.loadBR m6 (i := 20) rfl rfl U56 rfl fct16 (by simp) (by dsimp only [List.drop, List.take] <;> rfl) .nil) fun Az Hz => ?_
   refine plz (e_storeW Hz m6 22 rfl rfl rfl rfl rfl fct16 fun w369 m369 _ => ?_)
   refine goCh Hz (.assign rfl .nil) fun Az Hz => ?_
   refine znl (hK43 _ _ ?_); clear hK43
   refine rtd (retCT (fn := Tryd.f78) Hz m369 (i := 22) rfl rfl rfl rfl U56 rfl fct16 ?_)
   have m371 := m369.dat 23 rfl (m369.rd (i := 3) rfl); clear m369
   exact ⟨ne, hi, fl, ws, 33, _, _, rfl, by rw [doR, if_neg (by omega), if_neg (by omega), if_neg (by omega), if_pos (by omega), publishR, if_pos (by first | (left; simp_all; done) | (right; assumption) | omega)], m371.ren [(1, 1), (2, 2), (3, 3), (4, 4), (7, 23)] (by decide)⟩
  intro hb359 Hz; try simp only [QQ, Qax] at hb359
  refine goCh Hz (.faZ 6 rfl U56 <| .loadB1Z m6 (i := 20) rfl rfl rfl U3 rfl <| .faZ 5 rfl U56 <| .loadB1Z m6 (i := 20) rfl rfl rfl U3 rfl <| .neqZ rfl rfl <| .pickF rfl rfl <| .nil) fun Az Hz => ?_
  refine znl (hK42 _ _ ?_); clear hK42
  refine bc Hz 188 ?_ ?_
  ·
   intro hb378 Hz; try simp only [QQ, Qax] at hb378
   refine wct Hz ?_
   replace Hz : Has 197 [(2, _), (4, _), (5, _), (10, _), (19, _), (21, _), (36, _), (130, _), (177, _), (182, _), (188, _)] Az := Hz.only [2, 4, 5, 10, 19, 21, 36, 130, 177, 182, 188]
   refine zsr fun K44 hK44 => ?_
   refine goCh Hz (.loadBR m6 (i := 20) rfl rfl U56 rfl fct16 (by simp) (by dsimp only [List.drop, List.take] <;> rfl) .nil) fun Az Hz => ?_
   refine plz (e_storeW Hz m6 22 rfl rfl rfl rfl rfl fct16 fun w382 m382 _ => ?_)
   refine goCh Hz (.assign rfl .nil) fun Az Hz => ?_
   refine znl (hK44 _ _ ?_); clear hK44
   refine rtd (retCT (fn := Tryd.f78) Hz m382 (i := 22) rfl rfl rfl rfl U56 rfl fct16 ?_)
   have m384 := m382.dat 23 rfl (m382.rd (i := 3) rfl); clear m382
   exact ⟨ne, hi, fl, ws, 33, _, _, rfl, by rw [doR, if_neg (by omega), if_neg (by omega), if_neg (by omega), if_pos (by omega), publishR, if_pos (by first | (left; simp_all; done) | (right; assumption) | omega)], m384.ren [(1, 1), (2, 2), (3, 3), (4, 4), (7, 23)] (by decide)⟩
  intro hb378 Hz; try simp only [QQ, Qax] at hb378
  refine wcf Hz ?_
  refine zss (hK41 _ _ ?_); clear hK41
  replace Hz : Has 197 [(2, _), (4, _), (5, _), (10, _), (19, _), (21, _), (36, _), (130, _), (177, _), (182, _), (188, _)] Az := Hz.only [2, 4, 5, 10, 19, 21, 36, 130, 177, 182, 188]
  refine wp_region_lit ?_
  refine goCh Hz (.loadBR m6 (i := 20) rfl rfl U56 rfl fct16 (by simp) (by dsimp only [List.drop, List.take] <;> rfl) .nil) fun Az Hz => ?_
  refine wpList_plain rfl (fun K hK => ?_)
  refine e_call Hz Tryd.func21 rfl rfl rfl rfl (rlen_any _ _ _ _ _ _ _ _ _ _ _ _ _ _ _ _ _ _) ?_
  rintro e w387 ⟨rfl, hb387⟩
  rw [List.length_map]
  have m388 := m6.later hb387
  clear m6
  clear hb387
  refine ⟨_, rfl, ?_⟩; intro Az Hz
  refine hK _ _ ?_; clear hK
  refine goCh Hz (.fieldAddr (off := 7) rfl U56 rfl (s := 0) (by kernel_rfl) rfl .nil) fun Az Hz => ?_
  refine plz (e_store1 Hz m388 20 rfl rfl rfl rfl rfl fct26 (by dsimp only [List.set] <;> rfl) fun w391 m391 _ => ?_)
  refine goCh Hz (.fieldAddr (off := 8) rfl U56 rfl (s := 0) (by kernel_rfl) rfl .nil) fun Az Hz => ?_
  refine plz (e_store1 Hz m391 20 rfl rfl rfl rfl rfl fct3 (by dsimp only [List.set] <;> rfl) fun w393 m393 _ => ?_)
  refine znl (hK17 _ _ ?_); clear hK17
  refine zsr fun K45 hK45 => ?_
  refine goCh Hz (.loadBR m393 (i := 20) rfl rfl U56 rfl fct16 (by simp) (by dsimp only [List.drop, List.take] <;> rfl) .nil) fun Az Hz => ?_
  refine plz (e_storeW Hz m393 22 rfl rfl rfl rfl rfl fct16 fun w396 m396 _ => ?_)
  refine goCh Hz (.assign rfl .nil) fun Az Hz => ?_
  refine znl (hK45 _ _ ?_); clear hK45
  refine rtd (retCT (fn := Tryd.f78) Hz m396 (i := 22) rfl rfl rfl rfl U56 rfl fct16 ?_)
  have m398 := m396.dat 23 rfl (m396.rd (i := 3) rfl); clear m396
  exact ⟨ne, false, ws.length, ws, 0, _, _, rfl, by rw [doR, if_neg (by omega), if_neg (by omega), if_neg (by omega), if_pos (by omega), publishR, if_neg (by rintro (h | h) <;> simp_all)], m398.ren [(1, 1), (2, 2), (3, 3), (4, 4), (7, 23)] (by decide)⟩
 intro hb350 Hz; try simp only [QQ, Qax] at hb350
 refine wcf Hz ?_
 refine regS Hz (.eql rfl rfl <| .assign rfl <| .nil) fun Az Hz => ?_
 refine bc Hz 194 ?_ ?_
 ·
  intro hb401 Hz; try simp only [QQ, Qax] at hb401
  refine wct Hz ?_
  refine zss (hK17 _ _ ?_); clear hK17
  replace Hz : Has 197 [(2, _), (4, _), (5, _), (10, _), (21, _), (36, _), (130, _), (177, _), (194, _)] Az := Hz.only [2, 4, 5, 10, 21, 36, 130, 177, 194]
  refine zsr fun K46 hK46 => ?_
  refine goCh Hz (.loadBR m6 (i := 20) rfl rfl U56 rfl fct16 (by simp) (by dsimp only [List.drop, List.take] <;> rfl) .nil) fun Az Hz => ?_
  refine plz (e_storeW Hz m6 22 rfl rfl rfl rfl rfl fct16 fun w405 m405 _ => ?_)
  refine goCh Hz (.assign rfl .nil) fun Az Hz => ?_
  refine znl (hK46 _ _ ?_); clear hK46
  refine rtd (retCT (fn := Tryd.f78) Hz m405 (i := 22) rfl rfl rfl rfl U56 rfl fct16 ?_)
  have m407 := m405.dat 23 rfl (m405.rd (i := 3) rfl); clear m405
  exact ⟨ne, hi, fl, ws, 0, _, _, rfl, by rw [doR, if_neg (by omega), if_neg (by omega), if_neg (by omega), if_neg (by omega), if_pos (by omega)], m407.ren [(1, 1), (2, 2), (3, 3), (4, 4), (7, 23)] (by decide)⟩
 intro hb401 Hz; try simp only [QQ, Qax] at hb401
 refine wcf Hz ?_
 replace Hz : Has 197 [(2, _), (4, _), (5, _), (10, _), (21, _), (36, _), (130, _), (177, _), (194, _)] Az := Hz.only [2, 4, 5, 10, 21, 36, 130, 177, 194]
 refine zsr fun K47 hK47 => ?_
 refine goCh Hz (.loadBR m6 (i := 20) rfl rfl U56 rfl fct16 (by simp) (by dsimp only [List.drop, List.take] <;> rfl) .nil) fun Az Hz => ?_
 refine plz (e_storeW Hz m6 22 rfl rfl rfl rfl rfl fct16 fun w411 m411 _ => ?_)
 refine goCh Hz (.assign rfl .nil) fun Az Hz => ?_
 refine znl (hK47 _ _ ?_); clear hK47
 refine rtd (retCT (fn := Tryd.f78) Hz m411 (i := 22) rfl rfl rfl rfl U56 rfl fct16 ?_)
 have m413 := m411.dat 23 rfl (m411.rd (i := 3) rfl); clear m411
 exact ⟨ne, hi, fl, ws, 23, _, _, rfl, by rw [doR, if_neg (by omega), if_neg (by omega), if_neg (by omega), if_neg (by omega), if_neg (by omega)], m413.ren [(1, 1), (2, 2), (3, 3), (4, 4), (7, 23)] (by decide)⟩
theorem rdone4 (X : Cx) (vo bl sz pe to ne fl : Int) (hi : Bool) (place pins : List Int) (ws : List (Int × List (Int × List Int))) (pp pn pw : Option Addr) (cp cn9 cw : Nat) (v1 v2 v3 v4 v5 at0 v6 : Int) (q1 : Option Addr) (n1 c1 : Nat) (q2 : Option Addr) (n2 c2 : Nat) (w0 : World) (hp : pins.length ≤ 900000) (hsp : pins.Pairwise (· ≤ ·)) (m0 : MemOk X w0 [(1, .dat (.slice pp place.length cp) (.ns .i64 place)), (2, .dat (.slice pn pins.length cn9) (.ns .i64 pins)), (3, .dat (.slice pw (ws.map wrD).length cw) (.l 2 (ws.map wrD)))] w0) :
   Calls Tryd.prog 78 #[.agg #[.int .i64 vo, .int .i64 bl, .int .i64 sz, .int .i64 pe, .slice pp place.length cp, .int .i64 to, .int .i64 ne, .bool hi, .int .i64 fl, .slice pn pins.length cn9, .slice pw (ws.map wrD).length cw], .agg #[.int .i64 4, .int .i64 v1, .int .i64 v2, .int .i64 v3, .int .i64 v4, .slice q1 n1 c1, .int .i64 v5, .int .i64 at0, .int .i64 v6, .slice q2 n2 c2]] w0 fun e w' => ∃ (pins' : List Int) (e9 : Int) (p2' : Option Addr) (d2' : Nat), e = .returned (.tuple #[.agg #[.int .i64 vo, .int .i64 bl, .int .i64 sz, .int .i64 pe, .slice pp place.length cp, .int .i64 to, .int .i64 ne, .bool hi, .int .i64 fl, .slice p2' pins'.length d2', .slice pw (ws.map wrD).length cw], .int .i64 e9]) ∧ pinR hi fl at0 ws.length pins = (pins', e9) ∧ MemOk X w0 [(1, .dat (.slice pp place.length cp) (.ns .i64 place)), (2, .dat (.slice pn pins.length cn9) (.ns .i64 pins)), (3, .dat (.slice pw (ws.map wrD).length cw) (.l 2 (ws.map wrD))), (6, .dat (.slice p2' pins'.length d2') (.ns .i64 pins'))] w' := by
 refine ent2 Tryd.func78 rfl Tryd.ntmps78 fun Az Hz => ?_
 refine zsr fun K0 hK0 => ?_
 refine plz (e_box Hz m0 20 (cs := [_, _, _, _, _, _, _, _, _, _, _]) rfl rfl rfl fun g1 Az w2 Hz m2 _ _ => ?_)
 refine plz (e_box Hz m2 21 (cs := [_, _, _, _, _, _, _, _, _, _]) rfl rfl rfl fun g3 Az w4 Hz m4 _ _ => ?_)
 refine plz (e_alloc Hz m4 22 fct21 rfl fun g5 Az w6 Hz m6 _ _ => ?_)
 refine goCh Hz (.assign rfl .nil) fun Az Hz => ?_
 refine znl (hK0 _ _ ?_); clear hK0
 refine wp_seq_k (fun K1 hK1 => ?_)
 refine regS Hz (.fa 0 rfl U89 <| .lb m6 21 U3 rfl rfl rfl <| .nil) fun Az Hz => ?_
 refine wp_block ?_
 refine wp_seq_k (fun K2 hK2 => ?_)
 refine regS Hz (.eql rfl rfl <| .assign rfl <| .nil) fun Az Hz => ?_
 refine bc Hz 10 ?_ ?_
 · intro hb _; exact absurd hb (by simp)
 clear Hz; intro _ Hz
 refine wcf Hz ?_
 refine regS Hz (.eql rfl rfl <| .assign rfl <| .nil) fun Az Hz => ?_
 refine bc Hz 10 ?_ ?_
 · intro hb _; exact absurd hb (by simp)
 clear Hz; intro _ Hz
 refine wcf Hz ?_
 refine regS Hz (.eql rfl rfl <| .assign rfl <| .nil) fun Az Hz => ?_
 refine bc Hz 10 ?_ ?_
 rotate_left
 · intro hb _; exact absurd hb (by simp)
 clear Hz; intro _ Hz
 refine wct Hz ?_
 refine zss (hK2 _ _ ?_); clear hK2
 refine wct Hz ?_
 replace Hz : Has 197 [(2, _), (3, _), (4, _), (5, _)] Az := Hz.only [2, 3, 4, 5]
 refine regS Hz (.fa 7 rfl U56 <| .lb m6 20 U4 rfl rfl rfl <| .nil) fun Az Hz => ?_
 refine bc Hz 16 ?_ ?_
 ·
  intro hb22 Hz; try simp only [QQ, Qax] at hb22
  refine wct Hz ?_
  refine zsr fun K3 hK3 => ?_
  refine goCh Hz (.loadBR m6 (i := 20) rfl rfl U56 rfl fct16 (by simp) (by dsimp only [List.drop, List.take] <;> rfl) .nil) fun Az Hz => ?_
  refine plz (e_storeW Hz m6 22 rfl rfl rfl rfl rfl fct16 fun w25 m25 _ => ?_)
  refine goCh Hz (.assign rfl .nil) fun Az Hz => ?_
  refine znl (hK3 _ _ ?_); clear hK3
  refine rtd (retCT (fn := Tryd.f78) Hz m25 (i := 22) rfl rfl rfl rfl U56 rfl fct16 ?_)
  have m27 := m25.dat 23 rfl (m25.rd (i := 2) rfl); clear m25
  exact ⟨pins, 28, _, _, rfl, by rw [pinR, show reachR hi fl at0 ws.length = 28 from by rw [reachR, if_pos (by assumption)]]; rfl, m27.ren [(1, 1), (2, 2), (3, 3), (6, 23)] (by decide)⟩
 intro hb22 Hz; try simp only [QQ, Qax] at hb22
 refine wcf Hz ?_
 refine zss (hK1 _ _ ?_); clear hK1
 refine wp_seq_k (fun K4 hK4 => ?_)
 refine regS Hz (.fa 0 rfl U89 <| .lb m6 21 U3 rfl rfl rfl <| .nil) fun Az Hz => ?_
 refine wp_block ?_
 refine regS Hz (.eql rfl rfl <| .assign rfl <| .nil) fun Az Hz => ?_
 refine bc Hz 21 ?_ ?_
 · intro hb _; exact absurd hb (by simp)
 clear Hz; intro _ Hz
 refine wcf Hz ?_
 refine regS Hz (.eql rfl rfl <| .assign rfl <| .nil) fun Az Hz => ?_
 refine bc Hz 36 ?_ ?_
 · intro hb _; exact absurd hb (by simp)
 clear Hz; intro _ Hz
 refine wcf Hz ?_
 replace Hz : Has 197 [(2, _), (3, _), (4, _), (5, _), (16, _), (19, _)] Az := Hz.only [2, 3, 4, 5, 16, 19]
 refine regS Hz (.eql rfl rfl <| .assign rfl <| .nil) fun Az Hz => ?_
 refine bc Hz 53 ?_ ?_
 rotate_left
 · intro hb _; exact absurd hb (by simp)
 clear Hz; intro _ Hz
 refine wct Hz ?_
 refine wp_seq_k (fun K5 hK5 => ?_)
 refine regS Hz (.fa 7 rfl U89 <| .lb m6 21 U2 rfl rfl rfl <| .fa 8 rfl U56 <| .lb m6 20 U2 rfl rfl rfl <| .lss rfl rfl <| .nil) fun Az Hz => ?_
 refine bc Hz 59 ?_ ?_
 ·
  intro hb45 Hz; try simp only [QQ, Qax] at hb45
  refine wct Hz ?_
  refine zsr fun K6 hK6 => ?_
  refine goCh Hz (.loadBR m6 (i := 20) rfl rfl U56 rfl fct16 (by simp) (by dsimp only [List.drop, List.take] <;> rfl) .nil) fun Az Hz => ?_
  refine plz (e_storeW Hz m6 22 rfl rfl rfl rfl rfl fct16 fun w48 m48 _ => ?_)
  refine goCh Hz (.assign rfl .nil) fun Az Hz => ?_
  refine znl (hK6 _ _ ?_); clear hK6
  refine rtd (retCT (fn := Tryd.f78) Hz m48 (i := 22) rfl rfl rfl rfl U56 rfl fct16 ?_)
  have m50 := m48.dat 23 rfl (m48.rd (i := 2) rfl); clear m48
  exact ⟨pins, 30, _, _, rfl, by rw [pinR, show reachR hi fl at0 ws.length = 30 from by rw [reachR, if_neg (by simp_all), if_pos (by omega)]]; rfl, m50.ren [(1, 1), (2, 2), (3, 3), (6, 23)] (by decide)⟩
 intro hb45 Hz; try simp only [QQ, Qax] at hb45
 refine wcf Hz ?_
 refine zss (hK5 _ _ ?_); clear hK5
 refine wp_seq_k (fun K7 hK7 => ?_)
 refine wp_seq_k (fun K8 hK8 => ?_)
 have m51 : MemOk _ _ [(1, _), (2, _), (3, _), (20, _), (21, _), (22, _)] _ := m6.only [1, 2, 3, 20, 21, 22]; clear m6
 refine region_p 5 (B := [(1, _), (2, _), (3, _), (20, _), (21, _), (22, _)]) (m51.to ⟨il, il, il, il, il, il, trivial⟩) m51 (by kernel_rfl) (fun w52 hP52 m52 => ?_); clear m51
 refine goR hP52 [0, 1, 2] [1, 2] 3 0 7 Hz (m52.to ⟨il, il, il, il, il, il, trivial⟩) (.fa 7 rfl U89 <| .lb hh 21 U2 rfl rfl rfl <| .loadBR hh (i := 20) rfl rfl U56 rfl fct16 (by simp) (by dsimp only [List.drop, List.take] <;> rfl) <| .nil) fun Az Hz => ?_
 refine stepE_only 3 rfl (by kernel_rfl) rfl (fun K hK => ?_)
 refine e_call Hz Tryd.func21 rfl rfl rfl rfl (rlen_any _ _ _ _ _ _ _ _ _ _ _ _ _ _ _ _ _ _) ?_
 rintro e w56 ⟨rfl, hb56⟩
 rw [List.length_map]
 have m57 := m52.later hb56
 clear m52
 clear hb56
 refine ⟨_, rfl, ?_⟩; intro Az Hz
 refine hK _ _ (m57.to ⟨il, il, il, il, il, il, trivial⟩) ?_; clear hK K
 refine goA hP52 [4] 1 15 31 Hz (m57.to ⟨il, il, il, il, il, il, trivial⟩) (.gtr rfl rfl <| .nil) fun Az Hz => ?_
 refine wpAnyE_done (by kernel_rfl) ?_ _
 refine hK8 _ _ ?_; clear hK8
 refine bc Hz 65 ?_ ?_
 ·
  intro hb60 Hz; try simp only [QQ, Qax] at hb60
  refine wct Hz ?_
  replace Hz : Has 197 [(2, _), (3, _), (4, _), (5, _), (16, _), (19, _), (56, _), (59, _), (65, _)] Az := Hz.only [2, 3, 4, 5, 16, 19, 56, 59, 65]
  refine zsr fun K9 hK9 => ?_
  refine goCh Hz (.loadBR m57 (i := 20) rfl rfl U56 rfl fct16 (by simp) (by dsimp only [List.drop, List.take] <;> rfl) .nil) fun Az Hz => ?_
  refine plz (e_storeW Hz m57 22 rfl rfl rfl rfl rfl fct16 fun w64 m64 _ => ?_)
  refine goCh Hz (.assign rfl .nil) fun Az Hz => ?_
  refine znl (hK9 _ _ ?_); clear hK9
  refine rtd (retCT (fn := Tryd.f78) Hz m64 (i := 22) rfl rfl rfl rfl U56 rfl fct16 ?_)
  have m66 := m64.dat 23 rfl (m64.rd (i := 2) rfl); clear m64
  exact ⟨pins, 31, _, _, rfl, by rw [pinR, show reachR hi fl at0 ws.length = 31 from by rw [reachR, if_neg (by simp_all), if_neg (by omega), if_pos (by omega)]]; rfl, m66.ren [(1, 1), (2, 2), (3, 3), (6, 23)] (by decide)⟩
 intro hb60 Hz; try simp only [QQ, Qax] at hb60
 refine wcf Hz ?_
 refine zss (hK7 _ _ ?_); clear hK7
 replace Hz : Has 197 [(2, _), (3, _), (4, _), (5, _), (16, _), (19, _), (56, _), (59, _), (65, _)] Az := Hz.only [2, 3, 4, 5, 16, 19, 56, 59, 65]
 refine regS Hz (.assign rfl <| .nil) fun Az Hz => ?_
 refine wp_seq_k (fun K10 hK10 => ?_)
 refine wp_block ?_
 refine wp_loop_ghost (fun g a w => ∃ (k B8 B9 B10 : Nat), k ≤ pins.length ∧ g = pins.length - k ∧ (∀ j, j < k → pins.getD j 0 ≤ at0) ∧ Has 197 [(2, .pointer (some ⟨B8, 0, none⟩)), (3, .pointer (some ⟨B9, 0, none⟩)), (4, .pointer (some ⟨B10, 0, none⟩)), (6, .int .i64 k)] a ∧ MemOk X w0 [(1, .dat (.slice pp place.length cp) (.ns .i64 place)), (2, .dat (.slice pn pins.length cn9) (.ns .i64 pins)), (3, .dat (.slice pw (ws.map wrD).length cw) (.l 2 (ws.map wrD))), (8, .box B8 56 [.int .i64 vo, .int .i64 bl, .int .i64 sz, .int .i64 pe, .slice pp place.length cp, .int .i64 to, .int .i64 ne, .bool hi, .int .i64 fl, .slice pn pins.length cn9, .slice pw (ws.map wrD).length cw]), (9, .box B9 89 [.int .i64 4, .int .i64 v1, .int .i64 v2, .int .i64 v3, .int .i64 v4, .slice q1 n1 c1, .int .i64 v5, .int .i64 at0, .int .i64 v6, .slice q2 n2 c2]), (10, .box B10 56 [.int .i64 0, .int .i64 0, .int .i64 0, .int .i64 0, .slice none 0 0, .int .i64 0, .int .i64 0, .bool false, .int .i64 0, .slice none 0 0, .slice none 0 0])] w) (pins.length) ?_ ?_
 · exact ⟨0, _, _, _, Nat.zero_le _, rfl, (fun j hj => by omega), Hz.only [2, 3, 4, 6], m57.ren [(1, 1), (2, 2), (3, 3), (8, 20), (9, 21), (10, 22)] (by decide)⟩
 clear Hz m57
 rintro g Az w69 ⟨k, B8, B9, B10, hkl, hg, hall, Hz, m69⟩
 refine wp_seq_k (fun K11 hK11 => ?_)
 refine wp_seq_k (fun K12 hK12 => ?_)
 by_cases hk : k < pins.length
 ·
  obtain ⟨b70, o70, hp70, m70⟩ := m69.openN (i := 2) rfl (k) hk 100 rfl
  revert Hz
  cases hp70; clear m69
  intro Hz
  have m71 : MemOk _ _ [(1, _), (2, _), (3, _), (8, _), (9, _), (10, _), (100, _)] _ := m70.only [1, 2, 3, 8, 9, 10, 100]; clear m70
  refine region_p 15 (B := [(1, _), (2, _), (3, _), (8, _), (9, _), (10, _), (100, _)]) (m71.to ⟨il, il, il, il, il, il, il, trivial⟩) m71 (by kernel_rfl) (fun w72 hP72 m72 => ?_); clear m71
  refine goR hP72 [0, 1, 2, 3, 4, 5] [2] 6 0 63 Hz (m72.to ⟨il, il, il, il, il, il, il, trivial⟩) (.move rfl <| .fa 9 rfl U56 <| .lb hh 8 U53 rfl rfl rfl <| .len rfl U53 <| .lss rfl rfl <| .move rfl <| .nil) fun Az Hz => ?_
  refine bc Hz 72 ?_ ?_
  rotate_left
  · intro hb _; exact absurd hb (by simp; omega)
  clear Hz; intro _ Hz
  refine goR hP72 [6, 7, 8, 9, 10, 11, 12, 13, 14] [7, 10, 12] 9 63 32767 Hz (m72.to ⟨il, il, il, il, il, il, il, trivial⟩) (.fa 9 rfl U56 <| .lb hh 8 U53 rfl rfl rfl <| .move rfl <| .p (fun _ _ h => y_idx h rfl rfl U53 fct3 (k) rfl hk) <| .loadC0 hh (i := 100) rfl rfl U2 rfl <| .fa 7 rfl U89 <| .lb hh 9 U2 rfl rfl rfl <| .leq rfl rfl <| .pickT rfl rfl <| .nil) fun Az Hz => ?_
  refine wpAnyE_done (by kernel_rfl) ?_ _
  refine hK12 _ _ ?_; clear hK12
  refine bc Hz 81 ?_ ?_
  ·
   intro hb89 Hz; try simp only [QQ, Qax] at hb89
   refine wct Hz ?_
   refine zss (hK11 _ _ ?_); clear hK11
   refine wp_block ?_
   replace Hz : Has 197 [(2, _), (3, _), (4, _), (6, _), (72, _), (81, _)] Az := Hz.only [2, 3, 4, 6, 72, 81]
   refine wp_region_lit ?_
   refine goCh Hz (.move rfl <| .add rfl rfl (r := ((k + 1 : Nat) : Int)) (by rw [IntWalk.i64_in _ (by omega)]; omega) <| .assign rfl <| .nil) fun Az Hz => ?_
   refine wpList_nil ?_
   show ∃ n', n' < _ ∧ _
   exact ⟨pins.length - (k + 1), by omega, k + 1, _, _, _, by omega, rfl, le_snoc hall (by omega), Hz.only [2, 3, 4, 6], m72.only [1, 2, 3, 8, 9, 10]⟩
  intro hb89 Hz; try simp only [QQ, Qax] at hb89
  refine wcf Hz ?_
  refine wp_exit ?_
  refine hK10 _ _ ?_; clear hK10
  replace Hz : Has 197 [(2, _), (3, _), (4, _), (6, _), (72, _), (81, _)] Az := Hz.only [2, 3, 4, 6, 72, 81]
  have m95 : MemOk _ _ [(1, _), (2, _), (3, _), (8, _), (9, _), (10, _), (100, _)] _ := m72.only [1, 2, 3, 8, 9, 10, 100]; clear m72
  refine region_p 15 (B := [(1, _), (2, _), (3, _), (8, _), (9, _), (10, _), (100, _)]) (m95.to ⟨il, il, il, il, il, il, il, trivial⟩) m95 (by kernel_rfl) (fun w96 hP96 m96 => ?_); clear m95
  refine goR hP96 [0, 1, 2] [1] 3 0 7 Hz (m96.to ⟨il, il, il, il, il, il, il, trivial⟩) (.fa 9 rfl U56 <| .lb hh 8 U53 rfl rfl rfl <| .move rfl <| .nil) fun Az Hz => ?_
  have hcap100 := (m96.rd (i := 2) rfl).ns_out.cap
  have m100 := m96.takeN (i := 2) rfl (k) hkl 101 rfl; clear m96
  refine goR hP96 [3, 5, 6, 9, 10, 11] [6, 10] 6 7 3695 Hz (m100.to ⟨il, il, il, il, il, il, il, trivial⟩) (.p (fun _ _ h => y_sliceHn h (k) rfl rfl U53 fct3 rfl (Nat.le_trans hkl hcap100.1)) <| .fa 7 rfl U89 <| .lb hh 9 U2 rfl rfl rfl <| .fa 9 rfl U56 <| .lb hh 8 U53 rfl rfl rfl <| .move rfl <| .nil) fun Az Hz => ?_
  have m107 := m100.dropN (i := 2) rfl (k) hkl 102 rfl; clear m100
  refine goA hP96 [12] 1 3695 7791 Hz (m107.to ⟨il, il, il, il, il, il, il, trivial⟩) (.p (fun _ _ h => y_sliceLn h (k) rfl rfl U53 fct3 rfl hkl) <| .nil) fun Az Hz => ?_
  refine dtw 4 7 ?_ ?_
  ·
   refine e_app0N Hz m107 103 rfl rfl (m107.nums (i := 101) rfl) U53 fct13 (by decide) (by simp; omega) rfl fun p109 c109 Az w110 Hz m110 => ?_
   refine ⟨fun _ => (m110.to ⟨il, il, il, il, il, il, il, trivial⟩), ?_⟩
   refine so 7 ?_
   refine e_litN Hz m110 104 (k := .i64) rfl rfl U53 fct13 rfl rfl rfl rfl fun g111 Az w112 Hz m112 => ?_
   refine ⟨m112.to ⟨il, il, il, il, il, il, il, trivial⟩, ?_⟩
   refine so 8 ?_
   refine e_appN Hz m112 103 rfl rfl rfl (m112.numsO (i := 104) rfl) U53 fct13 (by decide) (by simp; omega) rfl fun p113 c113 Az w114 Hz m114 => ?_
   refine ⟨m114.to ⟨il, il, il, il, il, il, il, trivial⟩, ?_⟩
   refine so 13 ?_
   refine e_appN Hz m114 103 rfl rfl rfl (m114.nums (i := 102) rfl) U53 fct13 (by decide) (by simp; omega) rfl fun p115 c115 Az w116 Hz m116 => ?_
   refine ⟨m116.to ⟨il, il, il, il, il, il, il, trivial⟩, ?_⟩
   refine goA hP96 [14] 1 16383 32767 Hz (m116.to ⟨il, il, il, il, il, il, il, trivial⟩) (.fa 9 rfl U56 <| .nil) fun Az Hz => ?_
   refine se 15 ?_
   refine e_store1 Hz m116 8 rfl rfl rfl rfl rfl fct27 (by dsimp only [List.set] <;> rfl) fun w118 m118 _ => ?_
   refine wpAnyE_done (by kernel_rfl) ?_ _
   refine hK4 _ _ ?_; clear hK4
   replace Hz : Has 197 [(2, _), (3, _), (4, _), (6, _), (72, _), (81, _)] Az := Hz.only [2, 3, 4, 6, 72, 81]
   refine zsr fun K13 hK13 => ?_
   refine goCh Hz (.loadBR m118 (i := 8) rfl rfl U56 rfl fct16 (by simp) (by dsimp only [List.drop, List.take] <;> rfl) .nil) fun Az Hz => ?_
   refine plz (e_storeW Hz m118 10 rfl rfl rfl rfl rfl fct16 fun w122 m122 _ => ?_)
   refine goCh Hz (.assign rfl .nil) fun Az Hz => ?_
   refine znl (hK13 _ _ ?_); clear hK13
   refine rtd (retCT (fn := Tryd.f78) Hz m122 (i := 10) rfl rfl rfl rfl U56 rfl fct16 ?_)
   have m124 := m122.freezeN 103 rfl; clear m122
   have hS := pin_sorted (k := k) hsp hall (by omega) (by omega)
   rw [hS] at m124 ⊢
   exact ⟨sortP (pins ++ [at0]), 0, _, _, rfl, by rw [pinR, show reachR hi fl at0 ws.length = 0 from by rw [reachR, if_neg (by simp_all), if_neg (by omega), if_neg (by omega)]]; rfl, m124.ren [(1, 1), (2, 2), (3, 3), (6, 103)] (by decide)⟩
  refine e_litN Hz m107 103 (k := .i64) rfl rfl U53 fct13 rfl rfl rfl rfl fun g125 Az w126 Hz m126 => ?_
  refine ⟨fun _ => (m126.to ⟨il, il, il, il, il, il, il, trivial⟩), ?_⟩
  refine so 4 ?_
  refine e_app0N Hz m126 104 rfl rfl (m126.nums (i := 101) rfl) U53 fct13 (by decide) (by simp; omega) rfl fun p127 c127 Az w128 Hz m128 => ?_
  refine ⟨m128.to ⟨il, il, il, il, il, il, il, trivial⟩, ?_⟩
  refine so 8 ?_
  refine e_appN Hz m128 104 rfl rfl rfl (m128.numsO (i := 103) rfl) U53 fct13 (by decide) (by simp; omega) rfl fun p129 c129 Az w130 Hz m130 => ?_
  refine ⟨m130.to ⟨il, il, il, il, il, il, il, trivial⟩, ?_⟩
  refine so 13 ?_
  refine e_appN Hz m130 104 rfl rfl rfl (m130.nums (i := 102) rfl) U53 fct13 (by decide) (by simp; omega) rfl fun p131 c131 Az w132 Hz m132 => ?_
  refine ⟨m132.to ⟨il, il, il, il, il, il, il, trivial⟩, ?_⟩
  refine goA hP96 [14] 1 16383 32767 Hz (m132.to ⟨il, il, il, il, il, il, il, trivial⟩) (.fa 9 rfl U56 <| .nil) fun Az Hz => ?_
  refine se 15 ?_
  refine e_store1 Hz m132 8 rfl rfl rfl rfl rfl fct27 (by dsimp only [List.set] <;> rfl) fun w134 m134 _ => ?_
  refine wpAnyE_done (by kernel_rfl) ?_ _
  refine hK4 _ _ ?_; clear hK4
  replace Hz : Has 197 [(2, _), (3, _), (4, _), (6, _), (72, _), (81, _)] Az := Hz.only [2, 3, 4, 6, 72, 81]
  refine zsr fun K14 hK14 => ?_
  refine goCh Hz (.loadBR m134 (i := 8) rfl rfl U56 rfl fct16 (by simp) (by dsimp only [List.drop, List.take] <;> rfl) .nil) fun Az Hz => ?_
  refine plz (e_storeW Hz m134 10 rfl rfl rfl rfl rfl fct16 fun w138 m138 _ => ?_)
  refine goCh Hz (.assign rfl .nil) fun Az Hz => ?_
  refine znl (hK14 _ _ ?_); clear hK14
  refine rtd (retCT (fn := Tryd.f78) Hz m138 (i := 10) rfl rfl rfl rfl U56 rfl fct16 ?_)
  have m140 := m138.freezeN 104 rfl; clear m138
  have hS := pin_sorted (k := k) hsp hall (by omega) (by omega)
  rw [hS] at m140 ⊢
  exact ⟨sortP (pins ++ [at0]), 0, _, _, rfl, by rw [pinR, show reachR hi fl at0 ws.length = 0 from by rw [reachR, if_neg (by simp_all), if_neg (by omega), if_neg (by omega)]]; rfl, m140.ren [(1, 1), (2, 2), (3, 3), (6, 104)] (by decide)⟩
 have hk9 : k = pins.length := by omega
 have m141 : MemOk _ _ [(1, _), (2, _), (3, _), (8, _), (9, _), (10, _)] _ := m69.only [1, 2, 3, 8, 9, 10]; clear m69
 refine region_p 15 (B := [(1, _), (2, _), (3, _), (8, _), (9, _), (10, _)]) (m141.to ⟨il, il, il, il, il, il, trivial⟩) m141 (by kernel_rfl) (fun w142 hP142 m142 => ?_); clear m141
 refine goR hP142 [0, 1, 2, 3, 4, 5] [2] 6 0 63 Hz (m142.to ⟨il, il, il, il, il, il, trivial⟩) (.move rfl <| .fa 9 rfl U56 <| .lb hh 8 U53 rfl rfl rfl <| .len rfl U53 <| .lss rfl rfl <| .move rfl <| .nil) fun Az Hz => ?_
 refine bc Hz 72 ?_ ?_
 · intro hb _; exact absurd hb (by simp; omega)
 clear Hz; intro _ Hz
 refine goA hP142 [6, 7, 8, 9, 10, 11, 12, 13, 14] 9 63 32767 Hz (m142.to ⟨il, il, il, il, il, il, trivial⟩) (.s <| .s <| .s <| .s <| .s <| .s <| .s <| .s <| .pickF rfl rfl <| .nil) fun Az Hz => ?_
 refine wpAnyE_done (by kernel_rfl) ?_ _
 refine hK12 _ _ ?_; clear hK12
 refine wcf Hz ?_
 refine wp_exit ?_
 refine hK10 _ _ ?_; clear hK10
 replace Hz : Has 197 [(2, _), (3, _), (4, _), (6, _), (72, _), (81, _)] Az := Hz.only [2, 3, 4, 6, 72, 81]
 have m160 : MemOk _ _ [(1, _), (2, _), (3, _), (8, _), (9, _), (10, _)] _ := m142.only [1, 2, 3, 8, 9, 10]; clear m142
 refine region_p 15 (B := [(1, _), (2, _), (3, _), (8, _), (9, _), (10, _)]) (m160.to ⟨il, il, il, il, il, il, trivial⟩) m160 (by kernel_rfl) (fun w161 hP161 m161 => ?_); clear m160
 refine goR hP161 [0, 1, 2] [1] 3 0 7 Hz (m161.to ⟨il, il, il, il, il, il, trivial⟩) (.fa 9 rfl U56 <| .lb hh 8 U53 rfl rfl rfl <| .move rfl <| .nil) fun Az Hz => ?_
 have hcap165 := (m161.rd (i := 2) rfl).ns_out.cap
 have m165 := m161.takeN (i := 2) rfl (k) hkl 100 rfl; clear m161
 refine goR hP161 [3, 5, 6, 9, 10, 11] [6, 10] 6 7 3695 Hz (m165.to ⟨il, il, il, il, il, il, trivial⟩) (.p (fun _ _ h => y_sliceHn h (k) rfl rfl U53 fct3 rfl (Nat.le_trans hkl hcap165.1)) <| .fa 7 rfl U89 <| .lb hh 9 U2 rfl rfl rfl <| .fa 9 rfl U56 <| .lb hh 8 U53 rfl rfl rfl <| .move rfl <| .nil) fun Az Hz => ?_
 have m172 := m165.dropN (i := 2) rfl (k) hkl 101 rfl; clear m165
 refine goA hP161 [12] 1 3695 7791 Hz (m172.to ⟨il, il, il, il, il, il, trivial⟩) (.p (fun _ _ h => y_sliceLn h (k) rfl rfl U53 fct3 rfl hkl) <| .nil) fun Az Hz => ?_
 refine dtw 4 7 ?_ ?_
 ·
  refine e_app0N Hz m172 102 rfl rfl (m172.nums (i := 100) rfl) U53 fct13 (by decide) (by simp; omega) rfl fun p174 c174 Az w175 Hz m175 => ?_
  refine ⟨fun _ => (m175.to ⟨il, il, il, il, il, il, trivial⟩), ?_⟩
  refine so 7 ?_
  refine e_litN Hz m175 103 (k := .i64) rfl rfl U53 fct13 rfl rfl rfl rfl fun g176 Az w177 Hz m177 => ?_
  refine ⟨m177.to ⟨il, il, il, il, il, il, trivial⟩, ?_⟩
  refine so 8 ?_
  refine e_appN Hz m177 102 rfl rfl rfl (m177.numsO (i := 103) rfl) U53 fct13 (by decide) (by simp; omega) rfl fun p178 c178 Az w179 Hz m179 => ?_
  refine ⟨m179.to ⟨il, il, il, il, il, il, trivial⟩, ?_⟩
  refine so 13 ?_
  refine e_appN Hz m179 102 rfl rfl rfl (m179.nums (i := 101) rfl) U53 fct13 (by decide) (by simp; omega) rfl fun p180 c180 Az w181 Hz m181 => ?_
  refine ⟨m181.to ⟨il, il, il, il, il, il, trivial⟩, ?_⟩
  refine goA hP161 [14] 1 16383 32767 Hz (m181.to ⟨il, il, il, il, il, il, trivial⟩) (.fa 9 rfl U56 <| .nil) fun Az Hz => ?_
  refine se 15 ?_
  refine e_store1 Hz m181 8 rfl rfl rfl rfl rfl fct27 (by dsimp only [List.set] <;> rfl) fun w183 m183 _ => ?_
  refine wpAnyE_done (by kernel_rfl) ?_ _
  refine hK4 _ _ ?_; clear hK4
  replace Hz : Has 197 [(2, _), (3, _), (4, _), (6, _), (72, _), (81, _)] Az := Hz.only [2, 3, 4, 6, 72, 81]
  refine zsr fun K15 hK15 => ?_
  refine goCh Hz (.loadBR m183 (i := 8) rfl rfl U56 rfl fct16 (by simp) (by dsimp only [List.drop, List.take] <;> rfl) .nil) fun Az Hz => ?_
  refine plz (e_storeW Hz m183 10 rfl rfl rfl rfl rfl fct16 fun w187 m187 _ => ?_)
  refine goCh Hz (.assign rfl .nil) fun Az Hz => ?_
  refine znl (hK15 _ _ ?_); clear hK15
  refine rtd (retCT (fn := Tryd.f78) Hz m187 (i := 10) rfl rfl rfl rfl U56 rfl fct16 ?_)
  have m189 := m187.freezeN 102 rfl; clear m187
  have hS := pin_sorted (k := k) hsp hall (by omega) (by omega)
  rw [hS] at m189 ⊢
  exact ⟨sortP (pins ++ [at0]), 0, _, _, rfl, by rw [pinR, show reachR hi fl at0 ws.length = 0 from by rw [reachR, if_neg (by simp_all), if_neg (by omega), if_neg (by omega)]]; rfl, m189.ren [(1, 1), (2, 2), (3, 3), (6, 102)] (by decide)⟩
 refine e_litN Hz m172 102 (k := .i64) rfl rfl U53 fct13 rfl rfl rfl rfl fun g190 Az w191 Hz m191 => ?_
 refine ⟨fun _ => (m191.to ⟨il, il, il, il, il, il, trivial⟩), ?_⟩
 refine so 4 ?_
 refine e_app0N Hz m191 103 rfl rfl (m191.nums (i := 100) rfl) U53 fct13 (by decide) (by simp; omega) rfl fun p192 c192 Az w193 Hz m193 => ?_
 refine ⟨m193.to ⟨il, il, il, il, il, il, trivial⟩, ?_⟩
 refine so 8 ?_
 refine e_appN Hz m193 103 rfl rfl rfl (m193.numsO (i := 102) rfl) U53 fct13 (by decide) (by simp; omega) rfl fun p194 c194 Az w195 Hz m195 => ?_
 refine ⟨m195.to ⟨il, il, il, il, il, il, trivial⟩, ?_⟩
 refine so 13 ?_
 refine e_appN Hz m195 103 rfl rfl rfl (m195.nums (i := 101) rfl) U53 fct13 (by decide) (by simp; omega) rfl fun p196 c196 Az w197 Hz m197 => ?_
 refine ⟨m197.to ⟨il, il, il, il, il, il, trivial⟩, ?_⟩
 refine goA hP161 [14] 1 16383 32767 Hz (m197.to ⟨il, il, il, il, il, il, trivial⟩) (.fa 9 rfl U56 <| .nil) fun Az Hz => ?_
 refine se 15 ?_
 refine e_store1 Hz m197 8 rfl rfl rfl rfl rfl fct27 (by dsimp only [List.set] <;> rfl) fun w199 m199 _ => ?_
 refine wpAnyE_done (by kernel_rfl) ?_ _
 refine hK4 _ _ ?_; clear hK4
 replace Hz : Has 197 [(2, _), (3, _), (4, _), (6, _), (72, _), (81, _)] Az := Hz.only [2, 3, 4, 6, 72, 81]
 refine zsr fun K16 hK16 => ?_
 refine goCh Hz (.loadBR m199 (i := 8) rfl rfl U56 rfl fct16 (by simp) (by dsimp only [List.drop, List.take] <;> rfl) .nil) fun Az Hz => ?_
 refine plz (e_storeW Hz m199 10 rfl rfl rfl rfl rfl fct16 fun w203 m203 _ => ?_)
 refine goCh Hz (.assign rfl .nil) fun Az Hz => ?_
 refine znl (hK16 _ _ ?_); clear hK16
 refine rtd (retCT (fn := Tryd.f78) Hz m203 (i := 10) rfl rfl rfl rfl U56 rfl fct16 ?_)
 have m205 := m203.freezeN 103 rfl; clear m203
 have hS := pin_sorted (k := k) hsp hall (by omega) (by omega)
 rw [hS] at m205 ⊢
 exact ⟨sortP (pins ++ [at0]), 0, _, _, rfl, by rw [pinR, show reachR hi fl at0 ws.length = 0 from by rw [reachR, if_neg (by simp_all), if_neg (by omega), if_neg (by omega)]]; rfl, m205.ren [(1, 1), (2, 2), (3, 3), (6, 103)] (by decide)⟩
theorem rdone5 (X : Cx) (vo bl sz pe to ne fl : Int) (hi : Bool) (place pins : List Int) (ws : List (Int × List (Int × List Int))) (pp pn pw : Option Addr) (cp cn9 cw : Nat) (v1 v2 v3 v4 v5 at0 v6 : Int) (q1 : Option Addr) (n1 c1 : Nat) (q2 : Option Addr) (n2 c2 : Nat) (w0 : World) (hp : pins.length ≤ 900000) (m0 : MemOk X w0 [(1, .dat (.slice pp place.length cp) (.ns .i64 place)), (2, .dat (.slice pn pins.length cn9) (.ns .i64 pins)), (3, .dat (.slice pw (ws.map wrD).length cw) (.l 2 (ws.map wrD)))] w0) :
   Calls Tryd.prog 78 #[.agg #[.int .i64 vo, .int .i64 bl, .int .i64 sz, .int .i64 pe, .slice pp place.length cp, .int .i64 to, .int .i64 ne, .bool hi, .int .i64 fl, .slice pn pins.length cn9, .slice pw (ws.map wrD).length cw], .agg #[.int .i64 5, .int .i64 v1, .int .i64 v2, .int .i64 v3, .int .i64 v4, .slice q1 n1 c1, .int .i64 v5, .int .i64 at0, .int .i64 v6, .slice q2 n2 c2]] w0 fun e w' => ∃ (pins' : List Int) (e9 : Int) (p2' : Option Addr) (d2' : Nat), e = .returned (.tuple #[.agg #[.int .i64 vo, .int .i64 bl, .int .i64 sz, .int .i64 pe, .slice pp place.length cp, .int .i64 to, .int .i64 ne, .bool hi, .int .i64 fl, .slice p2' pins'.length d2', .slice pw (ws.map wrD).length cw], .int .i64 e9]) ∧ unpinR hi at0 pins = (pins', e9) ∧ MemOk X w0 [(1, .dat (.slice pp place.length cp) (.ns .i64 place)), (2, .dat (.slice pn pins.length cn9) (.ns .i64 pins)), (3, .dat (.slice pw (ws.map wrD).length cw) (.l 2 (ws.map wrD))), (6, .dat (.slice p2' pins'.length d2') (.ns .i64 pins'))] w' := by
 refine ent2 Tryd.func78 rfl Tryd.ntmps78 fun Az Hz => ?_
 refine zsr fun K0 hK0 => ?_
 refine plz (e_box Hz m0 20 (cs := [_, _, _, _, _, _, _, _, _, _, _]) rfl rfl rfl fun g1 Az w2 Hz m2 _ _ => ?_)
 refine plz (e_box Hz m2 21 (cs := [_, _, _, _, _, _, _, _, _, _]) rfl rfl rfl fun g3 Az w4 Hz m4 _ _ => ?_)
 refine plz (e_alloc Hz m4 22 fct21 rfl fun g5 Az w6 Hz m6 _ _ => ?_)
 refine goCh Hz (.assign rfl .nil) fun Az Hz => ?_
 refine znl (hK0 _ _ ?_); clear hK0
 refine wp_seq_k (fun K1 hK1 => ?_)
 refine regS Hz (.fa 0 rfl U89 <| .lb m6 21 U3 rfl rfl rfl <| .nil) fun Az Hz => ?_
 refine wp_block ?_
 refine wp_seq_k (fun K2 hK2 => ?_)
 refine regS Hz (.eql rfl rfl <| .assign rfl <| .nil) fun Az Hz => ?_
 refine bc Hz 10 ?_ ?_
 · intro hb _; exact absurd hb (by simp)
 clear Hz; intro _ Hz
 refine wcf Hz ?_
 refine regS Hz (.eql rfl rfl <| .assign rfl <| .nil) fun Az Hz => ?_
 refine bc Hz 10 ?_ ?_
 · intro hb _; exact absurd hb (by simp)
 clear Hz; intro _ Hz
 refine wcf Hz ?_
 refine regS Hz (.eql rfl rfl <| .assign rfl <| .nil) fun Az Hz => ?_
 refine bc Hz 10 ?_ ?_
 · intro hb _; exact absurd hb (by simp)
 clear Hz; intro _ Hz
 refine wcf Hz ?_
 replace Hz : Has 197 [(2, _), (3, _), (4, _), (5, _), (9, _), (10, _)] Az := Hz.only [2, 3, 4, 5, 9, 10]
 refine wp_region_lit ?_
 refine goCh Hz (.eql rfl rfl <| .assign rfl <| .nil) fun Az Hz => ?_
 refine znl (hK2 _ _ ?_); clear hK2
 refine bc Hz 10 ?_ ?_
 rotate_left
 · intro hb _; exact absurd hb (by simp)
 clear Hz; intro _ Hz
 refine wct Hz ?_
 refine regS Hz (.fa 7 rfl U56 <| .lb m6 20 U4 rfl rfl rfl <| .nil) fun Az Hz => ?_
 refine bc Hz 16 ?_ ?_
 ·
  intro hb25 Hz; try simp only [QQ, Qax] at hb25
  refine wct Hz ?_
  refine zsr fun K3 hK3 => ?_
  refine goCh Hz (.loadBR m6 (i := 20) rfl rfl U56 rfl fct16 (by simp) (by dsimp only [List.drop, List.take] <;> rfl) .nil) fun Az Hz => ?_
  refine plz (e_storeW Hz m6 22 rfl rfl rfl rfl rfl fct16 fun w28 m28 _ => ?_)
  refine goCh Hz (.assign rfl .nil) fun Az Hz => ?_
  refine znl (hK3 _ _ ?_); clear hK3
  refine rtd (retCT (fn := Tryd.f78) Hz m28 (i := 22) rfl rfl rfl rfl U56 rfl fct16 ?_)
  have m30 := m28.dat 23 rfl (m28.rd (i := 2) rfl); clear m28
  exact ⟨pins, 28, _, _, rfl, by rw [unpinR, if_pos (by left; assumption)], m30.ren [(1, 1), (2, 2), (3, 3), (6, 23)] (by decide)⟩
 intro hb25 Hz; try simp only [QQ, Qax] at hb25
 refine wcf Hz ?_
 refine zss (hK1 _ _ ?_); clear hK1
 refine wp_seq_k (fun K4 hK4 => ?_)
 refine regS Hz (.fa 0 rfl U89 <| .lb m6 21 U3 rfl rfl rfl <| .nil) fun Az Hz => ?_
 refine wp_block ?_
 refine regS Hz (.eql rfl rfl <| .assign rfl <| .nil) fun Az Hz => ?_
 refine bc Hz 21 ?_ ?_
 · intro hb _; exact absurd hb (by simp)
 clear Hz; intro _ Hz
 refine wcf Hz ?_
 replace Hz : Has 197 [(2, _), (3, _), (4, _), (5, _), (16, _), (19, _)] Az := Hz.only [2, 3, 4, 5, 16, 19]
 refine regS Hz (.eql rfl rfl <| .assign rfl <| .nil) fun Az Hz => ?_
 refine bc Hz 36 ?_ ?_
 · intro hb _; exact absurd hb (by simp)
 clear Hz; intro _ Hz
 refine wcf Hz ?_
 refine regS Hz (.eql rfl rfl <| .assign rfl <| .nil) fun Az Hz => ?_
 refine bc Hz 53 ?_ ?_
 · intro hb _; exact absurd hb (by simp)
 clear Hz; intro _ Hz
 refine wcf Hz ?_
 refine regS Hz (.eql rfl rfl <| .assign rfl <| .nil) fun Az Hz => ?_
 refine bc Hz 99 ?_ ?_
 rotate_left
 · intro hb _; exact absurd hb (by simp)
 clear Hz; intro _ Hz
 refine wct Hz ?_
 refine wp_seq_k (fun K5 hK5 => ?_)
 replace Hz : Has 197 [(2, _), (3, _), (4, _), (5, _), (16, _), (19, _)] Az := Hz.only [2, 3, 4, 5, 16, 19]
 refine regS Hz (.assign rfl <| .nil) fun Az Hz => ?_
 refine wp_block ?_
 refine wp_loop_ghost (fun g a w => ∃ (k B8 B9 B10 : Nat), k ≤ pins.length ∧ g = pins.length - k ∧ (∀ j, j < k → pins.getD j 0 ≠ at0) ∧ Has 197 [(2, .pointer (some ⟨B8, 0, none⟩)), (3, .pointer (some ⟨B9, 0, none⟩)), (4, .pointer (some ⟨B10, 0, none⟩)), (7, .int .i64 k)] a ∧ MemOk X w0 [(1, .dat (.slice pp place.length cp) (.ns .i64 place)), (2, .dat (.slice pn pins.length cn9) (.ns .i64 pins)), (3, .dat (.slice pw (ws.map wrD).length cw) (.l 2 (ws.map wrD))), (8, .box B8 56 [.int .i64 vo, .int .i64 bl, .int .i64 sz, .int .i64 pe, .slice pp place.length cp, .int .i64 to, .int .i64 ne, .bool hi, .int .i64 fl, .slice pn pins.length cn9, .slice pw (ws.map wrD).length cw]), (9, .box B9 89 [.int .i64 5, .int .i64 v1, .int .i64 v2, .int .i64 v3, .int .i64 v4, .slice q1 n1 c1, .int .i64 v5, .int .i64 at0, .int .i64 v6, .slice q2 n2 c2]), (10, .box B10 56 [.int .i64 0, .int .i64 0, .int .i64 0, .int .i64 0, .slice none 0 0, .int .i64 0, .int .i64 0, .bool false, .int .i64 0, .slice none 0 0, .slice none 0 0])] w) (pins.length) ?_ ?_
 · exact ⟨0, _, _, _, Nat.zero_le _, rfl, (fun j hj => by omega), Hz.only [2, 3, 4, 7], m6.ren [(1, 1), (2, 2), (3, 3), (8, 20), (9, 21), (10, 22)] (by decide)⟩
 clear Hz m6
 rintro g Az w48 ⟨k, B8, B9, B10, hkl, hg, hall, Hz, m48⟩
 refine wp_seq_k (fun K6 hK6 => ?_)
 refine regS Hz (.move rfl <| .fa 9 rfl U56 <| .lb m48 8 U53 rfl rfl rfl <| .len rfl U53 <| .lss rfl rfl <| .nil) fun Az Hz => ?_
 refine bc Hz 105 ?_ ?_
 ·
  intro hb54 Hz; try simp only [QQ, Qax] at hb54
  obtain ⟨hk, hkk⟩ : k < pins.length ∧ True := ⟨by omega, trivial⟩
  refine wct Hz ?_
  refine zss (hK6 _ _ ?_); clear hK6
  refine wp_seq_k (fun K7 hK7 => ?_)
  refine wp_block ?_
  refine wp_seq_k (fun K8 hK8 => ?_)
  obtain ⟨b55, o55, hp55, m55⟩ := m48.openN (i := 2) rfl (k) (by omega) 100 rfl
  revert Hz
  cases hp55; clear m48
  intro Hz
  have m56 : MemOk _ _ [(1, _), (2, _), (3, _), (8, _), (9, _), (10, _), (100, _)] _ := m55.only [1, 2, 3, 8, 9, 10, 100]; clear m55
  refine region_p 8 (B := [(1, _), (2, _), (3, _), (8, _), (9, _), (10, _), (100, _)]) (m56.to ⟨il, il, il, il, il, il, il, trivial⟩) m56 (by kernel_rfl) (fun w57 hP57 m57 => ?_); clear m56
  refine goR hP57 [0, 1, 2, 3, 4, 5, 6, 7] [1, 4, 6] 8 0 255 Hz (m57.to ⟨il, il, il, il, il, il, il, trivial⟩) (.fa 9 rfl U56 <| .lb hh 8 U53 rfl rfl rfl <| .move rfl <| .p (fun _ _ h => y_idx h rfl rfl U53 fct3 (k) rfl (by omega)) <| .loadC0 hh (i := 100) rfl rfl U2 rfl <| .fa 7 rfl U89 <| .lb hh 9 U2 rfl rfl rfl <| .eql rfl rfl <| .nil) fun Az Hz => ?_
  refine wpAnyE_done (by kernel_rfl) ?_ _
  refine hK8 _ _ ?_; clear hK8
  refine bc Hz 115 ?_ ?_
  ·
   intro hb66 Hz; try simp only [QQ, Qax] at hb66
   refine wct Hz ?_
   refine wp_seq_k (fun K9 hK9 => ?_)
   replace Hz : Has 197 [(2, _), (3, _), (4, _), (7, _), (105, _), (115, _)] Az := Hz.only [2, 3, 4, 7, 105, 115]
   have m68 : MemOk _ _ [(1, _), (2, _), (3, _), (8, _), (9, _), (10, _), (100, _)] _ := m57.only [1, 2, 3, 8, 9, 10, 100]; clear m57
   refine region_p 12 (B := [(1, _), (2, _), (3, _), (8, _), (9, _), (10, _), (100, _)]) (m68.to ⟨il, il, il, il, il, il, il, trivial⟩) m68 (by kernel_rfl) (fun w69 hP69 m69 => ?_); clear m68
   refine goR hP69 [0, 1, 2] [1] 3 0 7 Hz (m69.to ⟨il, il, il, il, il, il, il, trivial⟩) (.fa 9 rfl U56 <| .lb hh 8 U53 rfl rfl rfl <| .move rfl <| .nil) fun Az Hz => ?_
   have hcap73 := (m69.rd (i := 2) rfl).ns_out.cap
   have m73 := m69.takeN (i := 2) rfl (k) hkl 101 rfl; clear m69
   refine goR hP69 [3, 5, 6, 7, 8] [6] 5 7 495 Hz (m73.to ⟨il, il, il, il, il, il, il, trivial⟩) (.p (fun _ _ h => y_sliceHn h (k) rfl rfl U53 fct3 rfl (Nat.le_trans hkl hcap73.1)) <| .fa 9 rfl U56 <| .lb hh 8 U53 rfl rfl rfl <| .move rfl <| .add rfl rfl (r := ((k + 1 : Nat) : Int)) (by rw [IntWalk.i64_in _ (by omega)]; omega) <| .nil) fun Az Hz => ?_
   have m79 := m73.dropN (i := 2) rfl (k + 1) (show k + 1 ≤ pins.length by omega) 102 rfl; clear m73
   refine goA hP69 [9] 1 495 1007 Hz (m79.to ⟨il, il, il, il, il, il, il, trivial⟩) (.p (fun _ _ h => y_sliceLn h (k + 1) rfl rfl U53 fct3 rfl (show k + 1 ≤ pins.length by omega)) <| .nil) fun Az Hz => ?_
   refine so 4 ?_
   refine e_app0N Hz m79 103 rfl rfl (m79.nums (i := 101) rfl) U53 fct13 (by decide) (by simp; omega) rfl fun p81 c81 Az w82 Hz m82 => ?_
   refine ⟨m82.to ⟨il, il, il, il, il, il, il, trivial⟩, ?_⟩
   refine so 10 ?_
   refine e_appN Hz m82 103 rfl rfl rfl (m82.nums (i := 102) rfl) U53 fct13 (by decide) (by simp; omega) rfl fun p83 c83 Az w84 Hz m84 => ?_
   refine ⟨m84.to ⟨il, il, il, il, il, il, il, trivial⟩, ?_⟩
   refine goA hP69 [11] 1 2047 4095 Hz (m84.to ⟨il, il, il, il, il, il, il, trivial⟩) (.fa 9 rfl U56 <| .nil) fun Az Hz => ?_
   refine se 12 ?_
   refine e_store1 Hz m84 8 rfl rfl rfl rfl rfl fct27 (by dsimp only [List.set] <;> rfl) fun w86 m86 _ => ?_
   refine wpAnyE_done (by kernel_rfl) ?_ _
   refine hK9 _ _ ?_; clear hK9
   replace Hz : Has 197 [(2, _), (3, _), (4, _), (7, _), (105, _), (115, _)] Az := Hz.only [2, 3, 4, 7, 105, 115]
   refine zsr fun K10 hK10 => ?_
   refine goCh Hz (.loadBR m86 (i := 8) rfl rfl U56 rfl fct16 (by simp) (by dsimp only [List.drop, List.take] <;> rfl) .nil) fun Az Hz => ?_
   refine plz (e_storeW Hz m86 10 rfl rfl rfl rfl rfl fct16 fun w90 m90 _ => ?_)
   refine goCh Hz (.assign rfl .nil) fun Az Hz => ?_
   refine znl (hK10 _ _ ?_); clear hK10
   refine rtd (retCT (fn := Tryd.f78) Hz m90 (i := 10) rfl rfl rfl rfl U56 rfl fct16 ?_)
   have m92 := m90.freezeN 103 rfl; clear m90
   have hI := Lib.idxOf_hit pins pins.length k at0 hk (Nat.le_refl _) (by omega) hall
   rw [List.take_length] at hI
   exact ⟨pins.take k ++ pins.drop (k + 1), 0, _, _, rfl, by rw [unpinR, if_neg (by rintro (h | h) <;> first | omega | simp_all), hI]; simp, m92.ren [(1, 1), (2, 2), (3, 3), (6, 103)] (by decide)⟩
  intro hb66 Hz; try simp only [QQ, Qax] at hb66
  refine wcf Hz ?_
  refine zss (hK7 _ _ ?_); clear hK7
  replace Hz : Has 197 [(2, _), (3, _), (4, _), (7, _), (105, _), (115, _)] Az := Hz.only [2, 3, 4, 7, 105, 115]
  refine wp_region_lit ?_
  refine goCh Hz (.move rfl <| .add rfl rfl (r := ((k + 1 : Nat) : Int)) (by rw [IntWalk.i64_in _ (by omega)]; omega) <| .assign rfl <| .nil) fun Az Hz => ?_
  refine wpList_nil ?_
  show ∃ n', n' < _ ∧ _
  exact ⟨pins.length - (k + 1), by omega, k + 1, _, _, _, by omega, rfl, nn_snoc hall (by omega), Hz.only [2, 3, 4, 7], m57.only [1, 2, 3, 8, 9, 10]⟩
 intro hb54 Hz; try simp only [QQ, Qax] at hb54
 revert Hz
 obtain rfl : k = pins.length := by omega
 intro Hz
 refine wcf Hz ?_
 refine wp_exit ?_
 refine hK5 _ _ ?_; clear hK5
 refine zsr fun K11 hK11 => ?_
 refine goCh Hz (.loadBR m48 (i := 8) rfl rfl U56 rfl fct16 (by simp) (by dsimp only [List.drop, List.take] <;> rfl) .nil) fun Az Hz => ?_
 refine plz (e_storeW Hz m48 10 rfl rfl rfl rfl rfl fct16 fun w99 m99 _ => ?_)
 refine goCh Hz (.assign rfl .nil) fun Az Hz => ?_
 refine znl (hK11 _ _ ?_); clear hK11
 refine rtd (retCT (fn := Tryd.f78) Hz m99 (i := 10) rfl rfl rfl rfl U56 rfl fct16 ?_)
 have m101 := m99.dat 100 rfl (m99.rd (i := 2) rfl); clear m99
 have hI := Lib.idxOf_miss pins pins.length at0 hall
 rw [List.take_length] at hI
 exact ⟨pins, 28, _, _, rfl, by rw [unpinR, if_pos (by right; omega)], m101.ren [(1, 1), (2, 2), (3, 3), (6, 100)] (by decide)⟩
end Go.Proofs.YtodiklpfdfjikaaDoor.K
end
section
namespace Go.Proofs.YtodiklpfdfjikaaDoor.K
open Go.ChangeShapes Go.WideShapes Go.ChangeAt Go.RowKit
set_option linter.unusedVariables false
set_option linter.unusedSimpArgs false
theorem fl92rD0 : flatS Tryd.prog 92 [.int .i64 0, .int .i64 0, .int .i64 0, .int .i64 0, .slice none 0 0] = true := by kernel_rfl
theorem fl92rD4 : flatS Tryd.prog 92 [.int .i64 0, .int .i64 0, .int .i64 0, .int .i64 0, .slice none 0 0] = true := by kernel_rfl
theorem fl92rD5 : flatS Tryd.prog 92 [.int .i64 0, .int .i64 0, .int .i64 0, .int .i64 0, .slice none 0 0] = true := by kernel_rfl
theorem fl89cm : flatS Tryd.prog 89 [.int .i64 0, .int .i64 0, .int .i64 0, .int .i64 0, .int .i64 0, .slice none 0 0, .int .i64 0, .int .i64 0, .int .i64 0, .slice none 0 0] = true := by kernel_rfl
theorem doR_err {bl sz to ne fl : Int} {hi : Bool} {pins : List Int} {ws : List (Int × List (Int × List Int))} {kd at0 ix : Int} {it : List (Int × List Int)} {ne' fl' e9 : Int} {hi' : Bool} {ws' : List (Int × List (Int × List Int))} (h : doR bl sz to ne fl hi pins ws kd at0 ix it = (ne', hi', fl', ws', e9)) (he : ¬ e9 = 0) : ne' = ne ∧ hi' = hi ∧ fl' = fl ∧ ws' = ws := by
 unfold doR putR pruneR takeR publishR wrR at h
 repeat' split at h
 all_goals (simp only [Prod.mk.injEq] at h; obtain ⟨rfl, rfl, rfl, rfl, rfl⟩ := h; first | exact ⟨rfl, rfl, rfl, rfl⟩ | exact absurd rfl he | (exfalso; revert he; simp; done) | simp_all)
theorem pinR_err {fl at0 n : Int} {hi : Bool} {pins pins' : List Int} {e9 : Int} (h : pinR hi fl at0 n pins = (pins', e9)) (he : ¬ e9 = 0) : pins' = pins := by
 unfold pinR at h
 split at h
 all_goals (simp only [Prod.mk.injEq] at h; obtain ⟨rfl, rfl⟩ := h; first | rfl | exact absurd rfl he)
theorem unpinR_err {at0 : Int} {hi : Bool} {pins pins' : List Int} {e9 : Int} (h : unpinR hi at0 pins = (pins', e9)) (he : ¬ e9 = 0) : pins' = pins := by
 unfold unpinR at h
 split at h
 all_goals (simp only [Prod.mk.injEq] at h; obtain ⟨rfl, rfl⟩ := h; first | rfl | exact absurd rfl he)
theorem b2 {a b : Int} (ha : 0 ≤ a ∧ a ≤ 255) (hb : 0 ≤ b ∧ b ≤ 255) : ∀ j, j < [a, b].length → 0 ≤ [a, b].getD j 0 ∧ [a, b].getD j 0 ≤ 255 := fun j hj => by
 match j, hj with
 | 0, _ => exact ha
 | 1, _ => exact hb
theorem b3 {a b c : Int} (ha : 0 ≤ a ∧ a ≤ 255) (hb : 0 ≤ b ∧ b ≤ 255) (hc : 0 ≤ c ∧ c ≤ 255) : ∀ j, j < [a, b, c].length → 0 ≤ [a, b, c].getD j 0 ∧ [a, b, c].getD j 0 ≤ 255 := fun j hj => by
 match j, hj with
 | 0, _ => exact ha
 | 1, _ => exact hb
 | 2, _ => exact hc
def SmallI (l : List (Int × List Int)) : Prop := l.length ≤ 12 ∧ ∀ e ∈ l, e.2.length ≤ 40
theorem SmallI.ok {l : List (Int × List Int)} (h : SmallI l) : ItsOk l := fun e he => Nat.le_trans (h.2 e he) (by decide)
set_option maxRecDepth 100000
set_option maxHeartbeats 4000000
theorem rDo (X : Cx) (vo bl sz pe to ne fl : Int) (hi : Bool) (place pins : List Int) (ws : List (Int × List (Int × List Int))) (items : List (Int × List Int)) (pp pn pw : Option Addr) (cp cn9 cw : Nat) (pi : Option Addr) (ci : Nat) (kd v1 v2 v3 v4 v5 at0 ix : Int) (q1 : Option Addr) (n1 c1 : Nat) (w0 : World) (hk4 : kd ≠ 4) (hk5 : kd ≠ 5) (hne : -1000000000000000 ≤ ne ∧ ne ≤ 1000000000000000) (hl : ws.length ≤ 900000) (hp : pins.length ≤ 1000000) (hil : items.length ≤ 1000000) (hio : ItsOk items) (m0 : MemOk X w0 [(1, .dat (.slice pp place.length cp) (.ns .i64 place)), (2, .dat (.slice pn pins.length cn9) (.ns .i64 pins)), (3, .dat (.slice pw (ws.map wrD).length cw) (.l 2 (ws.map wrD))), (4, .dat (.slice pi items.length ci) (.l 2 (items.map itD)))] w0) :
   Calls Tryd.prog 63 #[.agg #[.int .i64 vo, .int .i64 bl, .int .i64 sz, .int .i64 pe, .slice pp place.length cp, .int .i64 to, .int .i64 ne, .bool hi, .int .i64 fl, .slice pn pins.length cn9, .slice pw (ws.map wrD).length cw], .agg #[.int .i64 kd, .int .i64 v1, .int .i64 v2, .int .i64 v3, .int .i64 v4, .slice q1 n1 c1, .int .i64 v5, .int .i64 at0, .int .i64 ix, .slice pi items.length ci]] w0 fun e w' => ∃ (ne' : Int) (hi' : Bool) (fl' : Int) (ws' : List (Int × List (Int × List Int))) (e9 rl rf rn : Int) (p3' : Option Addr) (d3' : Nat), e = .returned (.tuple #[.agg #[.int .i64 vo, .int .i64 bl, .int .i64 sz, .int .i64 pe, .slice pp place.length cp, .int .i64 to, .int .i64 ne', .bool hi', .int .i64 fl', .slice pn pins.length cn9, .slice p3' (ws'.map wrD).length d3'], .agg #[.int .i64 e9, .int .i64 rl, .int .i64 rf, .int .i64 rn, .slice none 0 0]]) ∧ doR bl sz to ne fl hi pins ws kd at0 ix items = (ne', hi', fl', ws', e9) ∧ ((e9 ≠ 0 ∧ rl = 0 ∧ rf = 0 ∧ rn = 0) ∨ (e9 = 0 ∧ rl = ws'.length ∧ rf = fl' ∧ rn = ne')) ∧ MemOk X w0 [(1, .dat (.slice pp place.length cp) (.ns .i64 place)), (2, .dat (.slice pn pins.length cn9) (.ns .i64 pins)), (3, .dat (.slice pw (ws.map wrD).length cw) (.l 2 (ws.map wrD))), (4, .dat (.slice pi items.length ci) (.l 2 (items.map itD))), (7, .dat (.slice p3' (ws'.map wrD).length d3') (.l 2 (ws'.map wrD)))] w' := by
 refine ent2 Tryd.func63 rfl Tryd.ntmps63 fun Az Hz => ?_
 refine zsr fun K0 hK0 => ?_
 refine plz (e_box Hz m0 20 (cs := [_, _, _, _, _, _, _, _, _, _, _]) rfl rfl rfl fun g1 Az w2 Hz m2 _ _ => ?_)
 refine plz (e_box Hz m2 21 (cs := [_, _, _, _, _, _, _, _, _, _]) rfl rfl rfl fun g3 Az w4 Hz m4 _ _ => ?_)
 refine plz (e_alloc Hz m4 22 fct21 rfl fun g5 Az w6 Hz m6 _ _ => ?_)
 refine plz (e_alloc Hz m6 23 fct31 rfl fun g7 Az w8 Hz m8 _ _ => ?_)
 refine znl (hK0 _ _ ?_); clear hK0
 refine zsr fun K1 hK1 => ?_
 refine goCh Hz (.loadBR m8 (i := 20) rfl rfl U56 rfl fct16 (by simp) (by dsimp only [List.drop, List.take] <;> rfl) <| .loadBR m8 (i := 21) rfl rfl U89 rfl fct14 (by simp) (by dsimp only [List.drop, List.take] <;> rfl) <| .nil) fun Az Hz => ?_
 refine plz (ecl Hz Tryd.func78 rfl (rdone _ _ _ _ _ _ _ _ _ place pins ws items _ _ _ _ _ _ _ _ kd _ _ _ _ _ _ _ _ _ _ _ hk4 hk5 hne hl hp hil hio (m8.into [(1, 1), (2, 2), (3, 3), (4, 4)] (by decide) rfl)) ?_)
 rintro e w13 ⟨ne1, hi1, fl1, ws1, e1, p13, c13, rfl, hR, hm13⟩
 have mx13 := m8.back hm13 [(1, 1), (2, 2), (3, 3), (4, 4), (24, 7)] (by decide); clear hm13 m8
 have m13 : MemOk _ _ [(1, _), (2, _), (3, _), (4, _), (24, _), (20, _), (21, _), (22, _), (23, _)] _ := mx13.only [1, 2, 3, 4, 24, 20, 21, 22, 23]; clear mx13
 refine ⟨_, rfl, ?_⟩; intro Az Hz
 refine goCh Hz (.move rfl <| .extract rfl rfl <| .extract rfl rfl <| .nil) fun Az Hz => ?_
 refine plz (e_alloc Hz m13 25 fct21 rfl fun g18 Az w19 Hz m19 _ _ => ?_)
 refine plz (e_storeW Hz m19 25 rfl rfl rfl rfl rfl fct16 fun w20 m20 _ => ?_)
 refine goCh Hz (.assign rfl .nil) fun Az Hz => ?_
 refine znl (hK1 _ _ ?_); clear hK1
 refine wp_seq_k (fun K2 hK2 => ?_)
 replace Hz : Has 27 [(2, _), (4, _), (5, _), (6, _), (7, _)] Az := Hz.only [2, 4, 5, 6, 7]
 refine regS Hz (.move rfl <| .neq rfl rfl <| .nil) fun Az Hz => ?_
 refine bc Hz 15 ?_ ?_
 ·
  intro hb25 Hz; try simp only [QQ, Qax] at hb25
  refine wct Hz ?_
  refine zsr fun K3 hK3 => ?_
  refine goCh Hz (.loadBR m20 (i := 20) rfl rfl U56 rfl fct16 (by simp) (by dsimp only [List.drop, List.take] <;> rfl) <| .move rfl <| .build rfl fct31 fl92rD0 rfl (by dsimp only [setL, List.set] <;> rfl) <| .nil) fun Az Hz => ?_
  refine plz (e_storeW Hz m20 22 rfl rfl rfl rfl rfl fct16 fun w32 m32 _ => ?_)
  refine plz (e_storeW Hz m32 23 rfl rfl rfl rfl rfl fct30 fun w33 m33 _ => ?_)
  refine znl (hK3 _ _ ?_); clear hK3
  refine rtd (retCC (fn := Tryd.f63) Hz m33 (i := 22) (i2 := 23) rfl rfl rfl rfl rfl U56 rfl fct16 U92 rfl fct30 ?_)
  revert Hz
  obtain ⟨rfl, rfl, rfl, rfl⟩ := doR_err hR (by assumption)
  intro Hz
  have m34 := m33.dat 26 rfl (m33.rd (i := 3) rfl); clear m33
  exact ⟨ne1, hi1, fl1, ws1, e1, 0, 0, 0, _, _, rfl, hR, .inl ⟨by assumption, rfl, rfl, rfl⟩, m34.ren [(1, 1), (2, 2), (3, 3), (4, 4), (7, 26)] (by decide)⟩
 intro hb25 Hz; try simp only [QQ, Qax] at hb25
 refine wcf Hz ?_
 refine zss (hK2 _ _ ?_); clear hK2
 refine wp_seq_k (fun K4 hK4 => ?_)
 have m35 : MemOk _ _ [(1, _), (2, _), (3, _), (4, _), (20, _), (21, _), (22, _), (23, _), (24, _), (25, _)] _ := m20.only [1, 2, 3, 4, 20, 21, 22, 23, 24, 25]; clear m20
 refine region_p 10 (B := [(25, _)]) (m35.to ⟨il, trivial⟩) m35 (by kernel_rfl) (fun w36 hP36 m36 => ?_); clear m35
 refine goR hP36 [0, 1, 3, 4, 5, 6] [0, 1, 4, 6] 6 0 123 Hz (m36.to ⟨il, trivial⟩) (.loadBR hh (i := 25) rfl rfl U56 rfl fct16 (by simp) (by dsimp only [List.drop, List.take] <;> rfl) <| .loadBR hh (i := 25) rfl rfl U56 rfl fct16 (by simp) (by dsimp only [List.drop, List.take] <;> rfl) <| .fa 8 rfl U56 <| .lb hh 25 U2 rfl rfl rfl <| .fa 6 rfl U56 <| .lb hh 25 U3 rfl rfl rfl <| .nil) fun Az Hz => ?_
 refine so 2 ?_
 refine ecb Hz Tryd.func21 rfl m36 (rlen_any _ _ _ _ _ _ _ _ _ _ _ _ _ _ _ _ _ _) fun Az w43 Hz m44 => ?_
 refine ⟨m44.to ⟨il, trivial⟩, ?_⟩
 refine goA hP36 [7] 1 127 255 Hz (m44.to ⟨il, trivial⟩) (.build rfl fct31 fl92rD0 rfl (by dsimp only [setL, List.set] <;> rfl) <| .nil) fun Az Hz => ?_
 refine so 8 ?_
 refine e_storeW Hz m44 22 rfl rfl rfl rfl rfl fct16 fun w47 m47 _ => ?_
 refine ⟨m47.to ⟨il, trivial⟩, ?_⟩
 refine so 9 ?_
 refine e_storeW Hz m47 23 rfl rfl rfl rfl rfl fct30 fun w48 m48 _ => ?_
 refine ⟨m48.to ⟨il, trivial⟩, ?_⟩
 refine wpAnyE_done (by kernel_rfl) ?_ _
 refine hK4 _ _ ?_; clear hK4
 refine rtd (retCC (fn := Tryd.f63) Hz m48 (i := 22) (i2 := 23) rfl rfl rfl rfl rfl U56 rfl fct16 U92 rfl fct30 ?_)
 revert Hz
 obtain rfl : e1 = 0 := by first | assumption | omega
 intro Hz
 exact ⟨ne1, hi1, fl1, ws1, 0, ws1.length, fl1, ne1, _, _, by rw [List.length_map], hR, .inr ⟨rfl, rfl, rfl, rfl⟩, m48.ren [(1, 1), (2, 2), (3, 3), (4, 4), (7, 24)] (by decide)⟩
theorem rDo4 (X : Cx) (vo bl sz pe to ne fl : Int) (hi : Bool) (place pins : List Int) (ws : List (Int × List (Int × List Int))) (pp pn pw : Option Addr) (cp cn9 cw : Nat) (v1 v2 v3 v4 v5 at0 v6 : Int) (q1 : Option Addr) (n1 c1 : Nat) (q2 : Option Addr) (n2 c2 : Nat) (w0 : World) (hp : pins.length ≤ 900000) (hsp : pins.Pairwise (· ≤ ·)) (m0 : MemOk X w0 [(1, .dat (.slice pp place.length cp) (.ns .i64 place)), (2, .dat (.slice pn pins.length cn9) (.ns .i64 pins)), (3, .dat (.slice pw (ws.map wrD).length cw) (.l 2 (ws.map wrD)))] w0) :
   Calls Tryd.prog 63 #[.agg #[.int .i64 vo, .int .i64 bl, .int .i64 sz, .int .i64 pe, .slice pp place.length cp, .int .i64 to, .int .i64 ne, .bool hi, .int .i64 fl, .slice pn pins.length cn9, .slice pw (ws.map wrD).length cw], .agg #[.int .i64 4, .int .i64 v1, .int .i64 v2, .int .i64 v3, .int .i64 v4, .slice q1 n1 c1, .int .i64 v5, .int .i64 at0, .int .i64 v6, .slice q2 n2 c2]] w0 fun e w' => ∃ (pins' : List Int) (e9 rl rf rn : Int) (p2' : Option Addr) (d2' : Nat), e = .returned (.tuple #[.agg #[.int .i64 vo, .int .i64 bl, .int .i64 sz, .int .i64 pe, .slice pp place.length cp, .int .i64 to, .int .i64 ne, .bool hi, .int .i64 fl, .slice p2' pins'.length d2', .slice pw (ws.map wrD).length cw], .agg #[.int .i64 e9, .int .i64 rl, .int .i64 rf, .int .i64 rn, .slice none 0 0]]) ∧ pinR hi fl at0 ws.length pins = (pins', e9) ∧ ((e9 ≠ 0 ∧ rl = 0 ∧ rf = 0 ∧ rn = 0) ∨ (e9 = 0 ∧ rl = ws.length ∧ rf = fl ∧ rn = ne)) ∧ MemOk X w0 [(1, .dat (.slice pp place.length cp) (.ns .i64 place)), (2, .dat (.slice pn pins.length cn9) (.ns .i64 pins)), (3, .dat (.slice pw (ws.map wrD).length cw) (.l 2 (ws.map wrD))), (6, .dat (.slice p2' pins'.length d2') (.ns .i64 pins'))] w' := by
 refine ent2 Tryd.func63 rfl Tryd.ntmps63 fun Az Hz => ?_
 refine zsr fun K0 hK0 => ?_
 refine plz (e_box Hz m0 20 (cs := [_, _, _, _, _, _, _, _, _, _, _]) rfl rfl rfl fun g1 Az w2 Hz m2 _ _ => ?_)
 refine plz (e_box Hz m2 21 (cs := [_, _, _, _, _, _, _, _, _, _]) rfl rfl rfl fun g3 Az w4 Hz m4 _ _ => ?_)
 refine plz (e_alloc Hz m4 22 fct21 rfl fun g5 Az w6 Hz m6 _ _ => ?_)
 refine plz (e_alloc Hz m6 23 fct31 rfl fun g7 Az w8 Hz m8 _ _ => ?_)
 refine znl (hK0 _ _ ?_); clear hK0
 refine zsr fun K1 hK1 => ?_
 refine goCh Hz (.loadBR m8 (i := 20) rfl rfl U56 rfl fct16 (by simp) (by dsimp only [List.drop, List.take] <;> rfl) <| .loadBR m8 (i := 21) rfl rfl U89 rfl fct14 (by simp) (by dsimp only [List.drop, List.take] <;> rfl) <| .nil) fun Az Hz => ?_
 refine plz (ecl Hz Tryd.func78 rfl (rdone4 _ _ _ _ _ _ _ _ _ place pins ws _ _ _ _ _ _ _ _ _ _ _ _ _ _ _ _ _ _ _ _ hp hsp (m8.into [(1, 1), (2, 2), (3, 3)] (by decide) rfl)) ?_)
 rintro e w13 ⟨pins1, e1, p13, c13, rfl, hR, hm13⟩
 have mx13 := m8.back hm13 [(1, 1), (2, 2), (3, 3), (24, 6)] (by decide); clear hm13 m8
 have m13 : MemOk _ _ [(1, _), (2, _), (3, _), (24, _), (20, _), (21, _), (22, _), (23, _)] _ := mx13.only [1, 2, 3, 24, 20, 21, 22, 23]; clear mx13
 refine ⟨_, rfl, ?_⟩; intro Az Hz
 refine goCh Hz (.move rfl <| .extract rfl rfl <| .extract rfl rfl <| .nil) fun Az Hz => ?_
 refine plz (e_alloc Hz m13 25 fct21 rfl fun g18 Az w19 Hz m19 _ _ => ?_)
 refine plz (e_storeW Hz m19 25 rfl rfl rfl rfl rfl fct16 fun w20 m20 _ => ?_)
 refine goCh Hz (.assign rfl .nil) fun Az Hz => ?_
 refine znl (hK1 _ _ ?_); clear hK1
 refine wp_seq_k (fun K2 hK2 => ?_)
 replace Hz : Has 27 [(2, _), (4, _), (5, _), (6, _), (7, _)] Az := Hz.only [2, 4, 5, 6, 7]
 refine regS Hz (.move rfl <| .neq rfl rfl <| .nil) fun Az Hz => ?_
 refine bc Hz 15 ?_ ?_
 ·
  intro hb25 Hz; try simp only [QQ, Qax] at hb25
  refine wct Hz ?_
  refine zsr fun K3 hK3 => ?_
  refine goCh Hz (.loadBR m20 (i := 20) rfl rfl U56 rfl fct16 (by simp) (by dsimp only [List.drop, List.take] <;> rfl) <| .move rfl <| .build rfl fct31 fl92rD4 rfl (by dsimp only [setL, List.set] <;> rfl) <| .nil) fun Az Hz => ?_
  refine plz (e_storeW Hz m20 22 rfl rfl rfl rfl rfl fct16 fun w32 m32 _ => ?_)
  refine plz (e_storeW Hz m32 23 rfl rfl rfl rfl rfl fct30 fun w33 m33 _ => ?_)
  refine znl (hK3 _ _ ?_); clear hK3
  refine rtd (retCC (fn := Tryd.f63) Hz m33 (i := 22) (i2 := 23) rfl rfl rfl rfl rfl U56 rfl fct16 U92 rfl fct30 ?_)
  revert Hz
  obtain rfl := pinR_err hR (by assumption)
  intro Hz
  have m34 := m33.dat 26 rfl (m33.rd (i := 2) rfl); clear m33
  exact ⟨pins1, e1, 0, 0, 0, _, _, rfl, hR, .inl ⟨by assumption, rfl, rfl, rfl⟩, m34.ren [(1, 1), (2, 2), (3, 3), (6, 26)] (by decide)⟩
 intro hb25 Hz; try simp only [QQ, Qax] at hb25
 refine wcf Hz ?_
 refine zss (hK2 _ _ ?_); clear hK2
 refine wp_seq_k (fun K4 hK4 => ?_)
 have m35 : MemOk _ _ [(1, _), (2, _), (3, _), (20, _), (21, _), (22, _), (23, _), (24, _), (25, _)] _ := m20.only [1, 2, 3, 20, 21, 22, 23, 24, 25]; clear m20
 refine region_p 10 (B := [(25, _)]) (m35.to ⟨il, trivial⟩) m35 (by kernel_rfl) (fun w36 hP36 m36 => ?_); clear m35
 refine goR hP36 [0, 1, 3, 4, 5, 6] [0, 1, 4, 6] 6 0 123 Hz (m36.to ⟨il, trivial⟩) (.loadBR hh (i := 25) rfl rfl U56 rfl fct16 (by simp) (by dsimp only [List.drop, List.take] <;> rfl) <| .loadBR hh (i := 25) rfl rfl U56 rfl fct16 (by simp) (by dsimp only [List.drop, List.take] <;> rfl) <| .fa 8 rfl U56 <| .lb hh 25 U2 rfl rfl rfl <| .fa 6 rfl U56 <| .lb hh 25 U3 rfl rfl rfl <| .nil) fun Az Hz => ?_
 refine so 2 ?_
 refine ecb Hz Tryd.func21 rfl m36 (rlen_any _ _ _ _ _ _ _ _ _ _ _ _ _ _ _ _ _ _) fun Az w43 Hz m44 => ?_
 refine ⟨m44.to ⟨il, trivial⟩, ?_⟩
 refine goA hP36 [7] 1 127 255 Hz (m44.to ⟨il, trivial⟩) (.build rfl fct31 fl92rD4 rfl (by dsimp only [setL, List.set] <;> rfl) <| .nil) fun Az Hz => ?_
 refine so 8 ?_
 refine e_storeW Hz m44 22 rfl rfl rfl rfl rfl fct16 fun w47 m47 _ => ?_
 refine ⟨m47.to ⟨il, trivial⟩, ?_⟩
 refine so 9 ?_
 refine e_storeW Hz m47 23 rfl rfl rfl rfl rfl fct30 fun w48 m48 _ => ?_
 refine ⟨m48.to ⟨il, trivial⟩, ?_⟩
 refine wpAnyE_done (by kernel_rfl) ?_ _
 refine hK4 _ _ ?_; clear hK4
 refine rtd (retCC (fn := Tryd.f63) Hz m48 (i := 22) (i2 := 23) rfl rfl rfl rfl rfl U56 rfl fct16 U92 rfl fct30 ?_)
 revert Hz
 obtain rfl : e1 = 0 := by first | assumption | omega
 intro Hz
 exact ⟨pins1, 0, ws.length, fl, ne, _, _, by rw [List.length_map], hR, .inr ⟨rfl, rfl, rfl, rfl⟩, m48.ren [(1, 1), (2, 2), (3, 3), (6, 24)] (by decide)⟩
theorem rDo5 (X : Cx) (vo bl sz pe to ne fl : Int) (hi : Bool) (place pins : List Int) (ws : List (Int × List (Int × List Int))) (pp pn pw : Option Addr) (cp cn9 cw : Nat) (v1 v2 v3 v4 v5 at0 v6 : Int) (q1 : Option Addr) (n1 c1 : Nat) (q2 : Option Addr) (n2 c2 : Nat) (w0 : World) (hp : pins.length ≤ 900000) (m0 : MemOk X w0 [(1, .dat (.slice pp place.length cp) (.ns .i64 place)), (2, .dat (.slice pn pins.length cn9) (.ns .i64 pins)), (3, .dat (.slice pw (ws.map wrD).length cw) (.l 2 (ws.map wrD)))] w0) :
   Calls Tryd.prog 63 #[.agg #[.int .i64 vo, .int .i64 bl, .int .i64 sz, .int .i64 pe, .slice pp place.length cp, .int .i64 to, .int .i64 ne, .bool hi, .int .i64 fl, .slice pn pins.length cn9, .slice pw (ws.map wrD).length cw], .agg #[.int .i64 5, .int .i64 v1, .int .i64 v2, .int .i64 v3, .int .i64 v4, .slice q1 n1 c1, .int .i64 v5, .int .i64 at0, .int .i64 v6, .slice q2 n2 c2]] w0 fun e w' => ∃ (pins' : List Int) (e9 rl rf rn : Int) (p2' : Option Addr) (d2' : Nat), e = .returned (.tuple #[.agg #[.int .i64 vo, .int .i64 bl, .int .i64 sz, .int .i64 pe, .slice pp place.length cp, .int .i64 to, .int .i64 ne, .bool hi, .int .i64 fl, .slice p2' pins'.length d2', .slice pw (ws.map wrD).length cw], .agg #[.int .i64 e9, .int .i64 rl, .int .i64 rf, .int .i64 rn, .slice none 0 0]]) ∧ unpinR hi at0 pins = (pins', e9) ∧ ((e9 ≠ 0 ∧ rl = 0 ∧ rf = 0 ∧ rn = 0) ∨ (e9 = 0 ∧ rl = ws.length ∧ rf = fl ∧ rn = ne)) ∧ MemOk X w0 [(1, .dat (.slice pp place.length cp) (.ns .i64 place)), (2, .dat (.slice pn pins.length cn9) (.ns .i64 pins)), (3, .dat (.slice pw (ws.map wrD).length cw) (.l 2 (ws.map wrD))), (6, .dat (.slice p2' pins'.length d2') (.ns .i64 pins'))] w' := by
 refine ent2 Tryd.func63 rfl Tryd.ntmps63 fun Az Hz => ?_
 refine zsr fun K0 hK0 => ?_
 refine plz (e_box Hz m0 20 (cs := [_, _, _, _, _, _, _, _, _, _, _]) rfl rfl rfl fun g1 Az w2 Hz m2 _ _ => ?_)
 refine plz (e_box Hz m2 21 (cs := [_, _, _, _, _, _, _, _, _, _]) rfl rfl rfl fun g3 Az w4 Hz m4 _ _ => ?_)
 refine plz (e_alloc Hz m4 22 fct21 rfl fun g5 Az w6 Hz m6 _ _ => ?_)
 refine plz (e_alloc Hz m6 23 fct31 rfl fun g7 Az w8 Hz m8 _ _ => ?_)
 refine znl (hK0 _ _ ?_); clear hK0
 refine zsr fun K1 hK1 => ?_
 refine goCh Hz (.loadBR m8 (i := 20) rfl rfl U56 rfl fct16 (by simp) (by dsimp only [List.drop, List.take] <;> rfl) <| .loadBR m8 (i := 21) rfl rfl U89 rfl fct14 (by simp) (by dsimp only [List.drop, List.take] <;> rfl) <| .nil) fun Az Hz => ?_
 refine plz (ecl Hz Tryd.func78 rfl (rdone5 _ _ _ _ _ _ _ _ _ place pins ws _ _ _ _ _ _ _ _ _ _ _ _ _ _ _ _ _ _ _ _ hp (m8.into [(1, 1), (2, 2), (3, 3)] (by decide) rfl)) ?_)
 rintro e w13 ⟨pins1, e1, p13, c13, rfl, hR, hm13⟩
 have mx13 := m8.back hm13 [(1, 1), (2, 2), (3, 3), (24, 6)] (by decide); clear hm13 m8
 have m13 : MemOk _ _ [(1, _), (2, _), (3, _), (24, _), (20, _), (21, _), (22, _), (23, _)] _ := mx13.only [1, 2, 3, 24, 20, 21, 22, 23]; clear mx13
 refine ⟨_, rfl, ?_⟩; intro Az Hz
 refine goCh Hz (.move rfl <| .extract rfl rfl <| .extract rfl rfl <| .nil) fun Az Hz => ?_
 refine plz (e_alloc Hz m13 25 fct21 rfl fun g18 Az w19 Hz m19 _ _ => ?_)
 refine plz (e_storeW Hz m19 25 rfl rfl rfl rfl rfl fct16 fun w20 m20 _ => ?_)
 refine goCh Hz (.assign rfl .nil) fun Az Hz => ?_
 refine znl (hK1 _ _ ?_); clear hK1
 refine wp_seq_k (fun K2 hK2 => ?_)
 replace Hz : Has 27 [(2, _), (4, _), (5, _), (6, _), (7, _)] Az := Hz.only [2, 4, 5, 6, 7]
 refine regS Hz (.move rfl <| .neq rfl rfl <| .nil) fun Az Hz => ?_
 refine bc Hz 15 ?_ ?_
 ·
  intro hb25 Hz; try simp only [QQ, Qax] at hb25
  refine wct Hz ?_
  refine zsr fun K3 hK3 => ?_
  refine goCh Hz (.loadBR m20 (i := 20) rfl rfl U56 rfl fct16 (by simp) (by dsimp only [List.drop, List.take] <;> rfl) <| .move rfl <| .build rfl fct31 fl92rD5 rfl (by dsimp only [setL, List.set] <;> rfl) <| .nil) fun Az Hz => ?_
  refine plz (e_storeW Hz m20 22 rfl rfl rfl rfl rfl fct16 fun w32 m32 _ => ?_)
  refine plz (e_storeW Hz m32 23 rfl rfl rfl rfl rfl fct30 fun w33 m33 _ => ?_)
  refine znl (hK3 _ _ ?_); clear hK3
  refine rtd (retCC (fn := Tryd.f63) Hz m33 (i := 22) (i2 := 23) rfl rfl rfl rfl rfl U56 rfl fct16 U92 rfl fct30 ?_)
  revert Hz
  obtain rfl := unpinR_err hR (by assumption)
  intro Hz
  have m34 := m33.dat 26 rfl (m33.rd (i := 2) rfl); clear m33
  exact ⟨pins1, e1, 0, 0, 0, _, _, rfl, hR, .inl ⟨by assumption, rfl, rfl, rfl⟩, m34.ren [(1, 1), (2, 2), (3, 3), (6, 26)] (by decide)⟩
 intro hb25 Hz; try simp only [QQ, Qax] at hb25
 refine wcf Hz ?_
 refine zss (hK2 _ _ ?_); clear hK2
 refine wp_seq_k (fun K4 hK4 => ?_)
 have m35 : MemOk _ _ [(1, _), (2, _), (3, _), (20, _), (21, _), (22, _), (23, _), (24, _), (25, _)] _ := m20.only [1, 2, 3, 20, 21, 22, 23, 24, 25]; clear m20
 refine region_p 10 (B := [(25, _)]) (m35.to ⟨il, trivial⟩) m35 (by kernel_rfl) (fun w36 hP36 m36 => ?_); clear m35
 refine goR hP36 [0, 1, 3, 4, 5, 6] [0, 1, 4, 6] 6 0 123 Hz (m36.to ⟨il, trivial⟩) (.loadBR hh (i := 25) rfl rfl U56 rfl fct16 (by simp) (by dsimp only [List.drop, List.take] <;> rfl) <| .loadBR hh (i := 25) rfl rfl U56 rfl fct16 (by simp) (by dsimp only [List.drop, List.take] <;> rfl) <| .fa 8 rfl U56 <| .lb hh 25 U2 rfl rfl rfl <| .fa 6 rfl U56 <| .lb hh 25 U3 rfl rfl rfl <| .nil) fun Az Hz => ?_
 refine so 2 ?_
 refine ecb Hz Tryd.func21 rfl m36 (rlen_any _ _ _ _ _ _ _ _ _ _ _ _ _ _ _ _ _ _) fun Az w43 Hz m44 => ?_
 refine ⟨m44.to ⟨il, trivial⟩, ?_⟩
 refine goA hP36 [7] 1 127 255 Hz (m44.to ⟨il, trivial⟩) (.build rfl fct31 fl92rD5 rfl (by dsimp only [setL, List.set] <;> rfl) <| .nil) fun Az Hz => ?_
 refine so 8 ?_
 refine e_storeW Hz m44 22 rfl rfl rfl rfl rfl fct16 fun w47 m47 _ => ?_
 refine ⟨m47.to ⟨il, trivial⟩, ?_⟩
 refine so 9 ?_
 refine e_storeW Hz m47 23 rfl rfl rfl rfl rfl fct30 fun w48 m48 _ => ?_
 refine ⟨m48.to ⟨il, trivial⟩, ?_⟩
 refine wpAnyE_done (by kernel_rfl) ?_ _
 refine hK4 _ _ ?_; clear hK4
 refine rtd (retCC (fn := Tryd.f63) Hz m48 (i := 22) (i2 := 23) rfl rfl rfl rfl rfl U56 rfl fct16 U92 rfl fct30 ?_)
 revert Hz
 obtain rfl : e1 = 0 := by first | assumption | omega
 intro Hz
 exact ⟨pins1, 0, ws.length, fl, ne, _, _, by rw [List.length_map], hR, .inr ⟨rfl, rfl, rfl, rfl⟩, m48.ren [(1, 1), (2, 2), (3, 3), (6, 24)] (by decide)⟩
theorem scmd_any (vo bl : Int) (z : Nat) (pe to ne fl : Int) (hi : Bool) (pp pn pw : Option Addr) (np cp nn9 cn9 nw cw : Nat) (wh xa xb xc : Int) (w0 : World) (hz : z ≤ 1000) (hnw : nw ≤ 1000000) (hne : -1000000000000000 ≤ ne ∧ ne ≤ 1000000000000000) (hw9 : 0 ≤ wh ∧ wh ≤ 255) (ha9 : 0 ≤ xa ∧ xa ≤ 255) (hb9 : 0 ≤ xb ∧ xb ≤ 255) (hc9 : 0 ≤ xc ∧ xc ≤ 255) :
   Calls Tryd.prog 42 #[.agg #[.int .i64 vo, .int .i64 bl, .int .i64 (z : Int), .int .i64 pe, .slice pp np cp, .int .i64 to, .int .i64 ne, .bool hi, .int .i64 fl, .slice pn nn9 cn9, .slice pw nw cw], .bool true, .int .u8 wh, .int .u8 xa, .int .u8 xb, .int .u8 xc] w0 fun e w' => ∃ (kd bl2 sz2 pe2 to2 at0 ix vo2 : Int) (it : List (Int × List Int)) (pi : Option Addr) (ci : Nat) (dd : Unit), e = .returned (.agg #[.int .i64 kd, .int .i64 vo2, .int .i64 bl2, .int .i64 sz2, .int .i64 pe2, .slice none 0 0, .int .i64 to2, .int .i64 at0, .int .i64 ix, .slice pi it.length ci]) ∧ (2 ≤ kd ∧ kd ≤ 8) ∧ it.length ≤ 8 ∧ ItsB it ∧ Rd (New w0) w' (.slice pi it.length ci) (.l 2 (it.map itD)) ∧ Below w0.heap.size w0 w' := by
 refine ent6 Tryd.func42 rfl Tryd.ntmps42 fun Az Hz => ?_
 have m0 := MemOk.start (fun _ => False) w0
 refine zsr fun K0 hK0 => ?_
 refine plz (e_box Hz m0 20 (cs := [_, _, _, _, _, _, _, _, _, _, _]) rfl rfl rfl fun g1 Az w2 Hz m2 _ _ => ?_)
 refine plz (e_alloc Hz m2 21 fct23 rfl fun g3 Az w4 Hz m4 _ _ => ?_)
 refine znl (hK0 _ _ ?_); clear hK0
 refine wp_seq_k (fun K1 hK1 => ?_)
 refine regS Hz (.move rfl <| .not rfl <| .nil) fun Az Hz => ?_
 refine wcf Hz ?_
 refine zss (hK1 _ _ ?_); clear hK1
 refine zsr fun K2 hK2 => ?_
 refine goCh Hz (.fa 0 rfl U56 <| .lb m4 20 U3 rfl rfl rfl <| .build rfl fct23 fl89cm rfl (by dsimp only [setL, List.set] <;> rfl) <| .nil) fun Az Hz => ?_
 refine plz (e_alloc Hz m4 22 fct23 rfl fun g13 Az w14 Hz m14 _ _ => ?_)
 refine plz (e_storeW Hz m14 22 rfl rfl rfl rfl rfl fct14 fun w15 m15 _ => ?_)
 refine znl (hK2 _ _ ?_); clear hK2
 refine wp_seq_k (fun K3 hK3 => ?_)
 have hC3 : ∀ (a : Act) (w : World), (∃ (kd at0 ix : Int) (it : List (Int × List Int)) (pi : Option Addr) (ci : Nat) (B6 B12 B14 : Nat), (2 ≤ kd ∧ kd ≤ 8) ∧ it.length ≤ 8 ∧ ItsB it ∧ Has 131 [(2, .int .u8 wh), (3, .int .u8 xa), (4, .int .u8 xb), (5, .int .u8 xc), (6, .pointer (some ⟨B6, 0, none⟩)), (12, .pointer (some ⟨B12, 0, none⟩)), (14, .pointer (some ⟨B14, 0, none⟩))] a ∧ MemOk (cn w0) w0 [(6, .box B6 56 [.int .i64 vo, .int .i64 bl, .int .i64 (z : Int), .int .i64 pe, .slice pp np cp, .int .i64 to, .int .i64 ne, .bool hi, .int .i64 fl, .slice pn nn9 cn9, .slice pw nw cw]), (12, .box B12 89 [.int .i64 0, .int .i64 0, .int .i64 0, .int .i64 0, .int .i64 0, .slice none 0 0, .int .i64 0, .int .i64 0, .int .i64 0, .slice none 0 0]), (14, .box B14 89 [.int .i64 kd, .int .i64 vo, .int .i64 0, .int .i64 0, .int .i64 0, .slice none 0 0, .int .i64 0, .int .i64 at0, .int .i64 ix, .slice pi it.length ci]), (9, .dat (.slice pi it.length ci) (.l 2 (it.map itD)))] w) → K3 a w := by
   clear Hz m15
   rintro Az w16 ⟨kd, at0, ix, it, pi, ci, B6, B12, B14, hkd, hit8, hitb, Hz, m16⟩
   refine hK3 _ _ ?_; clear hK3
   refine wp_seq_k (fun K4 hK4 => ?_)
   refine zsr fun K5 hK5 => ?_
   refine goCh Hz (.fa 7 rfl U56 <| .lb m16 6 U4 rfl rfl rfl <| .move rfl <| .nil) fun Az Hz => ?_
   refine bc Hz 111 ?_ ?_
   ·
    intro hb23 Hz; try simp only [QQ, Qax] at hb23
    refine goCh Hz (.moveZ rfl <| .remZ rfl rfl (by decide) rfl <| .lssZ rfl rfl <| .pickT rfl rfl <| .nil) fun Az Hz => ?_
    refine znl (hK5 _ _ ?_); clear hK5
    refine bc Hz 115 ?_ ?_
    ·
     intro hb28 Hz; try simp only [QQ, Qax] at hb28
     refine wct Hz ?_
     replace Hz : Has 131 [(3, _), (4, _), (5, _), (6, _), (12, _), (14, _)] Az := Hz.only [3, 4, 5, 6, 12, 14]
     have m30 : MemOk _ _ [(6, _), (9, _), (12, _), (14, _)] _ := m16.only [6, 9, 12, 14]; clear m16
     refine region_p 15 (B := [(6, _)]) (m30.to ⟨il, trivial⟩) m30 (by kernel_rfl) (fun w31 hP31 m31 => ?_); clear m30
     refine goR hP31 [0, 1, 2, 3, 4, 5, 6, 7, 8, 9, 10] [1, 3, 5, 7] 11 0 2047 Hz (m31.to ⟨il, trivial⟩) (.fa 0 rfl U56 <| .lb hh 6 U3 rfl rfl rfl <| .fa 6 rfl U56 <| .lb hh 6 U3 rfl rfl rfl <| .fa 1 rfl U56 <| .lb hh 6 U3 rfl rfl rfl <| .fa 2 rfl U56 <| .lb hh 6 U3 rfl rfl rfl <| .move rfl <| .move rfl <| .move rfl <| .nil) fun Az Hz => ?_
     refine so 11 ?_
     refine e_litN Hz m31 100 (k := .u8) rfl rfl U22 fct0 rfl rfl rfl rfl fun g43 Az w44 Hz m44 => ?_
     refine ⟨m44.to ⟨il, trivial⟩, ?_⟩
     have m45 := m44.freezeN 100 rfl; clear m44
     refine so 12 ?_
     refine ecl Hz Tryd.func61 rfl (sitem_any bl z [xa, xb, xc] _ _ _ ((m45.rd (i := 100) rfl).any) (by simp) (b3 ha9 hb9 hc9) (by omega)) ?_
     rintro e w46 ⟨it, p46, c46, rfl, hit8, hpre9, hitb, hit1, hd46, hb46⟩
     have m47 := m45.callF 101 rfl hb46 hd46
     clear m45
     clear hb46 hd46
     refine ⟨_, rfl, ?_⟩; intro Az Hz
     refine ⟨m47.to ⟨il, trivial⟩, ?_⟩
     refine goA hP31 [13] 1 8191 16383 Hz (m47.to ⟨il, trivial⟩) (.build rfl fct23 fl89cm rfl (by dsimp only [setL, List.set] <;> rfl) <| .nil) fun Az Hz => ?_
     refine so 14 ?_
     refine e_storeW Hz m47 14 rfl rfl rfl rfl rfl fct14 fun w50 m50 _ => ?_
     refine ⟨m50.to ⟨il, trivial⟩, ?_⟩
     refine wpAnyE_done (by kernel_rfl) ?_ _
     refine hK4 _ _ ?_; clear hK4
     replace Hz : Has 131 [(12, _), (14, _)] Az := Hz.only [12, 14]
     refine zsr fun K6 hK6 => ?_
     refine goCh Hz (.loadBR m50 (i := 14) rfl rfl U89 rfl fct14 (by simp) (by dsimp only [List.drop, List.take] <;> rfl) .nil) fun Az Hz => ?_
     refine plz (e_storeW Hz m50 12 rfl rfl rfl rfl rfl fct14 fun w54 m54 _ => ?_)
     refine znl (hK6 _ _ ?_); clear hK6
     refine rtd (retC (fn := Tryd.f42) Hz m54 (i := 12) rfl rfl rfl U89 rfl fct14 ?_)
     exact ⟨_, _, _, _, _, _, _, _, _, _, _, (), rfl, by first | assumption | decide, by first | assumption, by first | assumption, m54.outF (i := 101) rfl, m54.below⟩
    intro hb28 Hz; try simp only [QQ, Qax] at hb28
    refine wcf Hz ?_
    refine zss (hK4 _ _ ?_); clear hK4
    replace Hz : Has 131 [(12, _), (14, _)] Az := Hz.only [12, 14]
    refine zsr fun K7 hK7 => ?_
    refine goCh Hz (.loadBR m16 (i := 14) rfl rfl U89 rfl fct14 (by simp) (by dsimp only [List.drop, List.take] <;> rfl) .nil) fun Az Hz => ?_
    refine plz (e_storeW Hz m16 12 rfl rfl rfl rfl rfl fct14 fun w58 m58 _ => ?_)
    refine znl (hK7 _ _ ?_); clear hK7
    refine rtd (retC (fn := Tryd.f42) Hz m58 (i := 12) rfl rfl rfl U89 rfl fct14 ?_)
    exact ⟨_, _, _, _, _, _, _, _, _, _, _, (), rfl, by first | assumption | decide, by first | assumption, by first | assumption, m58.outF (i := 9) rfl, m58.below⟩
   intro hb23 Hz; try simp only [QQ, Qax] at hb23
   refine goCh Hz (.sk <| .sk <| .sk <| .pickF rfl rfl <| .nil) fun Az Hz => ?_
   refine znl (hK5 _ _ ?_); clear hK5
   refine wcf Hz ?_
   refine zss (hK4 _ _ ?_); clear hK4
   replace Hz : Has 131 [(12, _), (14, _)] Az := Hz.only [12, 14]
   refine zsr fun K8 hK8 => ?_
   refine goCh Hz (.loadBR m16 (i := 14) rfl rfl U89 rfl fct14 (by simp) (by dsimp only [List.drop, List.take] <;> rfl) .nil) fun Az Hz => ?_
   refine plz (e_storeW Hz m16 12 rfl rfl rfl rfl rfl fct14 fun w66 m66 _ => ?_)
   refine znl (hK8 _ _ ?_); clear hK8
   refine rtd (retC (fn := Tryd.f42) Hz m66 (i := 12) rfl rfl rfl U89 rfl fct14 ?_)
   exact ⟨_, _, _, _, _, _, _, _, _, _, _, (), rfl, by first | assumption | decide, by first | assumption, by first | assumption, m66.outF (i := 9) rfl, m66.below⟩
 replace Hz : Has 131 [(2, _), (3, _), (4, _), (5, _), (6, _), (12, _), (14, _)] Az := Hz.only [2, 3, 4, 5, 6, 12, 14]
 refine regS Hz (.move rfl <| .rem rfl rfl (by decide) rfl <| .nil) fun Az Hz => ?_
 refine wp_block ?_
 refine wp_seq_k (fun K9 hK9 => ?_)
 refine regS Hz (.eql rfl rfl <| .assign rfl <| .nil) fun Az Hz => ?_
 refine bc Hz 39 ?_ ?_
 ·
  intro hb72 Hz; try simp only [QQ, Qax] at hb72
  refine wct Hz ?_
  refine zss (hK9 _ _ ?_); clear hK9
  refine wct Hz ?_
  refine wp_region_lit ?_
  refine goCh Hz (.fa 1 rfl U56 <| .lb m15 20 U3 rfl rfl rfl <| .fa 2 rfl U56 <| .lb m15 20 U3 rfl rfl rfl <| .move rfl <| .move rfl <| .move rfl <| .nil) fun Az Hz => ?_
  refine plz (e_litN Hz m15 23 (k := .u8) rfl rfl U22 fct0 rfl rfl rfl rfl fun g80 Az w81 Hz m81 => ?_)
  have m82 := m81.freezeN 23 rfl; clear m81
  refine plz (ecl Hz Tryd.func61 rfl (sitem_any bl z [xa, xb, xc] _ _ _ ((m82.rd (i := 23) rfl).any) (by simp) (b3 ha9 hb9 hc9) (by omega)) ?_)
  rintro e w83 ⟨it, p83, c83, rfl, hit8, hpre9, hitb, hit1, hd83, hb83⟩
  have m84 := m82.callF 24 rfl hb83 hd83
  clear m82
  clear hb83 hd83
  refine ⟨_, rfl, ?_⟩; intro Az Hz
  refine goCh Hz (.fieldAddr (off := 0) rfl U89 rfl (s := 0) (by kernel_rfl) rfl .nil) fun Az Hz => ?_
  refine plz (e_store1 Hz m84 22 rfl rfl rfl rfl rfl fct2 (by dsimp only [List.set] <;> rfl) fun w87 m87 _ => ?_)
  refine goCh Hz (.fieldAddr (off := 9) rfl U89 rfl (s := 0) (by kernel_rfl) rfl .nil) fun Az Hz => ?_
  refine plz (e_store1 Hz m87 22 rfl rfl rfl rfl rfl fct29 (by dsimp only [List.set] <;> rfl) fun w89 m89 _ => ?_)
  refine wpList_nil ?_
  show K3 _ _
  exact hC3 _ _ ⟨_, _, _, it, _, _, _, _, _, by decide, hit8, hitb, Hz.only [2, 3, 4, 5, 6, 12, 14], m89.ren [(6, 20), (12, 21), (14, 22), (9, 24)] (by decide)⟩
 intro hb72 Hz; try simp only [QQ, Qax] at hb72
 refine wcf Hz ?_
 refine regS Hz (.eql rfl rfl <| .assign rfl <| .nil) fun Az Hz => ?_
 refine bc Hz 39 ?_ ?_
 ·
  intro hb92 Hz; try simp only [QQ, Qax] at hb92
  refine wct Hz ?_
  refine zss (hK9 _ _ ?_); clear hK9
  refine wct Hz ?_
  refine wp_region_lit ?_
  refine goCh Hz (.fa 1 rfl U56 <| .lb m15 20 U3 rfl rfl rfl <| .fa 2 rfl U56 <| .lb m15 20 U3 rfl rfl rfl <| .move rfl <| .move rfl <| .move rfl <| .nil) fun Az Hz => ?_
  refine plz (e_litN Hz m15 23 (k := .u8) rfl rfl U22 fct0 rfl rfl rfl rfl fun g100 Az w101 Hz m101 => ?_)
  have m102 := m101.freezeN 23 rfl; clear m101
  refine plz (ecl Hz Tryd.func61 rfl (sitem_any bl z [xa, xb, xc] _ _ _ ((m102.rd (i := 23) rfl).any) (by simp) (b3 ha9 hb9 hc9) (by omega)) ?_)
  rintro e w103 ⟨it, p103, c103, rfl, hit8, hpre9, hitb, hit1, hd103, hb103⟩
  have m104 := m102.callF 24 rfl hb103 hd103
  clear m102
  clear hb103 hd103
  refine ⟨_, rfl, ?_⟩; intro Az Hz
  refine goCh Hz (.fieldAddr (off := 0) rfl U89 rfl (s := 0) (by kernel_rfl) rfl .nil) fun Az Hz => ?_
  refine plz (e_store1 Hz m104 22 rfl rfl rfl rfl rfl fct2 (by dsimp only [List.set] <;> rfl) fun w107 m107 _ => ?_)
  refine goCh Hz (.fieldAddr (off := 9) rfl U89 rfl (s := 0) (by kernel_rfl) rfl .nil) fun Az Hz => ?_
  refine plz (e_store1 Hz m107 22 rfl rfl rfl rfl rfl fct29 (by dsimp only [List.set] <;> rfl) fun w109 m109 _ => ?_)
  refine wpList_nil ?_
  show K3 _ _
  exact hC3 _ _ ⟨_, _, _, it, _, _, _, _, _, by decide, hit8, hitb, Hz.only [2, 3, 4, 5, 6, 12, 14], m109.ren [(6, 20), (12, 21), (14, 22), (9, 24)] (by decide)⟩
 intro hb92 Hz; try simp only [QQ, Qax] at hb92
 refine wcf Hz ?_
 refine regS Hz (.eql rfl rfl <| .assign rfl <| .nil) fun Az Hz => ?_
 refine bc Hz 39 ?_ ?_
 ·
  intro hb112 Hz; try simp only [QQ, Qax] at hb112
  refine wct Hz ?_
  refine zss (hK9 _ _ ?_); clear hK9
  refine wct Hz ?_
  refine wp_region_lit ?_
  refine goCh Hz (.fa 1 rfl U56 <| .lb m15 20 U3 rfl rfl rfl <| .fa 2 rfl U56 <| .lb m15 20 U3 rfl rfl rfl <| .move rfl <| .move rfl <| .move rfl <| .nil) fun Az Hz => ?_
  refine plz (e_litN Hz m15 23 (k := .u8) rfl rfl U22 fct0 rfl rfl rfl rfl fun g120 Az w121 Hz m121 => ?_)
  have m122 := m121.freezeN 23 rfl; clear m121
  refine plz (ecl Hz Tryd.func61 rfl (sitem_any bl z [xa, xb, xc] _ _ _ ((m122.rd (i := 23) rfl).any) (by simp) (b3 ha9 hb9 hc9) (by omega)) ?_)
  rintro e w123 ⟨it, p123, c123, rfl, hit8, hpre9, hitb, hit1, hd123, hb123⟩
  have m124 := m122.callF 24 rfl hb123 hd123
  clear m122
  clear hb123 hd123
  refine ⟨_, rfl, ?_⟩; intro Az Hz
  refine goCh Hz (.fieldAddr (off := 0) rfl U89 rfl (s := 0) (by kernel_rfl) rfl .nil) fun Az Hz => ?_
  refine plz (e_store1 Hz m124 22 rfl rfl rfl rfl rfl fct2 (by dsimp only [List.set] <;> rfl) fun w127 m127 _ => ?_)
  refine goCh Hz (.fieldAddr (off := 9) rfl U89 rfl (s := 0) (by kernel_rfl) rfl .nil) fun Az Hz => ?_
  refine plz (e_store1 Hz m127 22 rfl rfl rfl rfl rfl fct29 (by dsimp only [List.set] <;> rfl) fun w129 m129 _ => ?_)
  refine wpList_nil ?_
  show K3 _ _
  exact hC3 _ _ ⟨_, _, _, it, _, _, _, _, _, by decide, hit8, hitb, Hz.only [2, 3, 4, 5, 6, 12, 14], m129.ren [(6, 20), (12, 21), (14, 22), (9, 24)] (by decide)⟩
 intro hb112 Hz; try simp only [QQ, Qax] at hb112
 refine wcf Hz ?_
 refine wp_region_lit ?_
 refine goCh Hz (.eql rfl rfl <| .assign rfl <| .nil) fun Az Hz => ?_
 refine znl (hK9 _ _ ?_); clear hK9
 refine bc Hz 39 ?_ ?_
 ·
  intro hb132 Hz; try simp only [QQ, Qax] at hb132
  refine wct Hz ?_
  replace Hz : Has 131 [(2, _), (3, _), (4, _), (5, _), (6, _), (12, _), (14, _), (37, _)] Az := Hz.only [2, 3, 4, 5, 6, 12, 14, 37]
  refine wp_region_lit ?_
  refine goCh Hz (.fa 1 rfl U56 <| .lb m15 20 U3 rfl rfl rfl <| .fa 2 rfl U56 <| .lb m15 20 U3 rfl rfl rfl <| .move rfl <| .move rfl <| .move rfl <| .nil) fun Az Hz => ?_
  refine plz (e_litN Hz m15 23 (k := .u8) rfl rfl U22 fct0 rfl rfl rfl rfl fun g141 Az w142 Hz m142 => ?_)
  have m143 := m142.freezeN 23 rfl; clear m142
  refine plz (ecl Hz Tryd.func61 rfl (sitem_any bl z [xa, xb, xc] _ _ _ ((m143.rd (i := 23) rfl).any) (by simp) (b3 ha9 hb9 hc9) (by omega)) ?_)
  rintro e w144 ⟨it, p144, c144, rfl, hit8, hpre9, hitb, hit1, hd144, hb144⟩
  have m145 := m143.callF 24 rfl hb144 hd144
  clear m143
  clear hb144 hd144
  refine ⟨_, rfl, ?_⟩; intro Az Hz
  refine goCh Hz (.fieldAddr (off := 0) rfl U89 rfl (s := 0) (by kernel_rfl) rfl .nil) fun Az Hz => ?_
  refine plz (e_store1 Hz m145 22 rfl rfl rfl rfl rfl fct2 (by dsimp only [List.set] <;> rfl) fun w148 m148 _ => ?_)
  refine goCh Hz (.fieldAddr (off := 9) rfl U89 rfl (s := 0) (by kernel_rfl) rfl .nil) fun Az Hz => ?_
  refine plz (e_store1 Hz m148 22 rfl rfl rfl rfl rfl fct29 (by dsimp only [List.set] <;> rfl) fun w150 m150 _ => ?_)
  refine wpList_nil ?_
  show K3 _ _
  exact hC3 _ _ ⟨_, _, _, it, _, _, _, _, _, by decide, hit8, hitb, Hz.only [2, 3, 4, 5, 6, 12, 14], m150.ren [(6, 20), (12, 21), (14, 22), (9, 24)] (by decide)⟩
 intro hb132 Hz; try simp only [QQ, Qax] at hb132
 refine wcf Hz ?_
 replace Hz : Has 131 [(2, _), (3, _), (4, _), (5, _), (6, _), (12, _), (14, _), (37, _)] Az := Hz.only [2, 3, 4, 5, 6, 12, 14, 37]
 refine regS Hz (.eql rfl rfl <| .assign rfl <| .nil) fun Az Hz => ?_
 refine bc Hz 55 ?_ ?_
 ·
  intro hb154 Hz; try simp only [QQ, Qax] at hb154
  refine wct Hz ?_
  have m155 : MemOk _ _ [(20, _), (21, _), (22, _)] _ := m15.only [20, 21, 22]; clear m15
  refine region_p 10 (B := [(20, _)]) (m155.to ⟨il, trivial⟩) m155 (by kernel_rfl) (fun w156 hP156 m156 => ?_); clear m155
  refine goR hP156 [0, 1, 2, 6] [2] 4 0 71 Hz (m156.to ⟨il, trivial⟩) (.move rfl <| .conv rfl U5 U2 (r := xa) (IntWalk.i64_in _ (by omega)) <| .loadBR hh (i := 20) rfl rfl U56 rfl fct16 (by simp) (by dsimp only [List.drop, List.take] <;> rfl) <| .fa 0 rfl U89 <| .nil) fun Az Hz => ?_
  refine so 3 ?_
  refine ecb Hz Tryd.func21 rfl m156 (rlen_any _ _ _ _ _ _ _ _ _ _ _ _ _ _ _ _ _ _) fun Az w161 Hz m162 => ?_
  refine ⟨m162.to ⟨il, trivial⟩, ?_⟩
  refine goA hP156 [4, 5] 2 79 127 Hz (m162.to ⟨il, trivial⟩) (.add rfl rfl (r := (nw : Int) + 2) (IntWalk.i64_in _ (by omega)) <| .rem rfl rfl (by omega) rfl <| .nil) fun Az Hz => ?_
  refine so 7 ?_
  refine e_store1 Hz m162 22 rfl rfl rfl rfl rfl fct2 (by dsimp only [List.set] <;> rfl) fun w166 m166 _ => ?_
  refine ⟨m166.to ⟨il, trivial⟩, ?_⟩
  refine goA hP156 [8] 1 255 511 Hz (m166.to ⟨il, trivial⟩) (.fa 7 rfl U89 <| .nil) fun Az Hz => ?_
  refine so 9 ?_
  refine e_store1 Hz m166 22 rfl rfl rfl rfl rfl fct3 (by dsimp only [List.set] <;> rfl) fun w168 m168 _ => ?_
  refine ⟨m168.to ⟨il, trivial⟩, ?_⟩
  refine wpAnyE_done (by kernel_rfl) ?_ _
  have m169 := m168.dat 23 rfl (Rd.l0 none 0 2); clear m168
  show K3 _ _
  exact hC3 _ _ ⟨_, _, _, [], _, _, _, _, _, by decide, by decide, (fun _ h => by cases h), Hz.only [2, 3, 4, 5, 6, 12, 14], m169.ren [(6, 20), (12, 21), (14, 22), (9, 23)] (by decide)⟩
 intro hb154 Hz; try simp only [QQ, Qax] at hb154
 refine wcf Hz ?_
 refine regS Hz (.eql rfl rfl <| .assign rfl <| .nil) fun Az Hz => ?_
 refine bc Hz 65 ?_ ?_
 ·
  intro hb172 Hz; try simp only [QQ, Qax] at hb172
  refine wct Hz ?_
  have m173 : MemOk _ _ [(20, _), (21, _), (22, _)] _ := m15.only [20, 21, 22]; clear m15
  refine region_p 10 (B := [(20, _)]) (m173.to ⟨il, trivial⟩) m173 (by kernel_rfl) (fun w174 hP174 m174 => ?_); clear m173
  refine goR hP174 [0, 1, 2, 6] [2] 4 0 71 Hz (m174.to ⟨il, trivial⟩) (.move rfl <| .conv rfl U5 U2 (r := xa) (IntWalk.i64_in _ (by omega)) <| .loadBR hh (i := 20) rfl rfl U56 rfl fct16 (by simp) (by dsimp only [List.drop, List.take] <;> rfl) <| .fa 0 rfl U89 <| .nil) fun Az Hz => ?_
  refine so 3 ?_
  refine ecb Hz Tryd.func21 rfl m174 (rlen_any _ _ _ _ _ _ _ _ _ _ _ _ _ _ _ _ _ _) fun Az w179 Hz m180 => ?_
  refine ⟨m180.to ⟨il, trivial⟩, ?_⟩
  refine goA hP174 [4, 5] 2 79 127 Hz (m180.to ⟨il, trivial⟩) (.add rfl rfl (r := (nw : Int) + 2) (IntWalk.i64_in _ (by omega)) <| .rem rfl rfl (by omega) rfl <| .nil) fun Az Hz => ?_
  refine so 7 ?_
  refine e_store1 Hz m180 22 rfl rfl rfl rfl rfl fct2 (by dsimp only [List.set] <;> rfl) fun w184 m184 _ => ?_
  refine ⟨m184.to ⟨il, trivial⟩, ?_⟩
  refine goA hP174 [8] 1 255 511 Hz (m184.to ⟨il, trivial⟩) (.fa 7 rfl U89 <| .nil) fun Az Hz => ?_
  refine so 9 ?_
  refine e_store1 Hz m184 22 rfl rfl rfl rfl rfl fct3 (by dsimp only [List.set] <;> rfl) fun w186 m186 _ => ?_
  refine ⟨m186.to ⟨il, trivial⟩, ?_⟩
  refine wpAnyE_done (by kernel_rfl) ?_ _
  have m187 := m186.dat 23 rfl (Rd.l0 none 0 2); clear m186
  show K3 _ _
  exact hC3 _ _ ⟨_, _, _, [], _, _, _, _, _, by decide, by decide, (fun _ h => by cases h), Hz.only [2, 3, 4, 5, 6, 12, 14], m187.ren [(6, 20), (12, 21), (14, 22), (9, 23)] (by decide)⟩
 intro hb172 Hz; try simp only [QQ, Qax] at hb172
 refine wcf Hz ?_
 refine regS Hz (.eql rfl rfl <| .assign rfl <| .nil) fun Az Hz => ?_
 refine bc Hz 75 ?_ ?_
 ·
  intro hb190 Hz; try simp only [QQ, Qax] at hb190
  refine wct Hz ?_
  replace Hz : Has 131 [(2, _), (3, _), (4, _), (5, _), (6, _), (12, _), (14, _), (37, _)] Az := Hz.only [2, 3, 4, 5, 6, 12, 14, 37]
  have m192 : MemOk _ _ [(20, _), (21, _), (22, _)] _ := m15.only [20, 21, 22]; clear m15
  refine region_p 10 (B := [(20, _)]) (m192.to ⟨il, trivial⟩) m192 (by kernel_rfl) (fun w193 hP193 m193 => ?_); clear m192
  refine goR hP193 [0, 1, 2, 6] [2] 4 0 71 Hz (m193.to ⟨il, trivial⟩) (.move rfl <| .conv rfl U5 U2 (r := xa) (IntWalk.i64_in _ (by omega)) <| .loadBR hh (i := 20) rfl rfl U56 rfl fct16 (by simp) (by dsimp only [List.drop, List.take] <;> rfl) <| .fa 0 rfl U89 <| .nil) fun Az Hz => ?_
  refine so 3 ?_
  refine ecb Hz Tryd.func21 rfl m193 (rlen_any _ _ _ _ _ _ _ _ _ _ _ _ _ _ _ _ _ _) fun Az w198 Hz m199 => ?_
  refine ⟨m199.to ⟨il, trivial⟩, ?_⟩
  refine goA hP193 [4, 5] 2 79 127 Hz (m199.to ⟨il, trivial⟩) (.add rfl rfl (r := (nw : Int) + 2) (IntWalk.i64_in _ (by omega)) <| .rem rfl rfl (by omega) rfl <| .nil) fun Az Hz => ?_
  refine so 7 ?_
  refine e_store1 Hz m199 22 rfl rfl rfl rfl rfl fct2 (by dsimp only [List.set] <;> rfl) fun w203 m203 _ => ?_
  refine ⟨m203.to ⟨il, trivial⟩, ?_⟩
  refine goA hP193 [8] 1 255 511 Hz (m203.to ⟨il, trivial⟩) (.fa 7 rfl U89 <| .nil) fun Az Hz => ?_
  refine so 9 ?_
  refine e_store1 Hz m203 22 rfl rfl rfl rfl rfl fct3 (by dsimp only [List.set] <;> rfl) fun w205 m205 _ => ?_
  refine ⟨m205.to ⟨il, trivial⟩, ?_⟩
  refine wpAnyE_done (by kernel_rfl) ?_ _
  have m206 := m205.dat 23 rfl (Rd.l0 none 0 2); clear m205
  show K3 _ _
  exact hC3 _ _ ⟨_, _, _, [], _, _, _, _, _, by decide, by decide, (fun _ h => by cases h), Hz.only [2, 3, 4, 5, 6, 12, 14], m206.ren [(6, 20), (12, 21), (14, 22), (9, 23)] (by decide)⟩
 intro hb190 Hz; try simp only [QQ, Qax] at hb190
 refine wcf Hz ?_
 replace Hz : Has 131 [(2, _), (3, _), (4, _), (5, _), (6, _), (12, _), (14, _), (37, _)] Az := Hz.only [2, 3, 4, 5, 6, 12, 14, 37]
 refine regS Hz (.eql rfl rfl <| .assign rfl <| .nil) fun Az Hz => ?_
 refine bc Hz 85 ?_ ?_
 ·
  intro hb210 Hz; try simp only [QQ, Qax] at hb210
  refine wct Hz ?_
  refine wp_region_lit ?_
  refine goCh Hz (.fieldAddr (off := 0) rfl U89 rfl (s := 0) (by kernel_rfl) rfl .nil) fun Az Hz => ?_
  refine plz (e_store1 Hz m15 22 rfl rfl rfl rfl rfl fct2 (by dsimp only [List.set] <;> rfl) fun w212 m212 _ => ?_)
  refine wpList_nil ?_
  have m213 := m212.dat 23 rfl (Rd.l0 none 0 2); clear m212
  show K3 _ _
  exact hC3 _ _ ⟨_, _, _, [], _, _, _, _, _, by decide, by decide, (fun _ h => by cases h), Hz.only [2, 3, 4, 5, 6, 12, 14], m213.ren [(6, 20), (12, 21), (14, 22), (9, 23)] (by decide)⟩
 intro hb210 Hz; try simp only [QQ, Qax] at hb210
 refine wcf Hz ?_
 refine regS Hz (.eql rfl rfl <| .assign rfl <| .nil) fun Az Hz => ?_
 refine bc Hz 88 ?_ ?_
 ·
  intro hb216 Hz; try simp only [QQ, Qax] at hb216
  refine wct Hz ?_
  have m217 : MemOk _ _ [(20, _), (21, _), (22, _)] _ := m15.only [20, 21, 22]; clear m15
  refine region_p 22 (B := [(20, _)]) (m217.to ⟨il, trivial⟩) m217 (by kernel_rfl) (fun w218 hP218 m218 => ?_); clear m217
  refine goR hP218 [0, 1, 2, 3, 4, 5, 6, 7, 8, 9, 10, 11, 12, 13, 16] [1, 9, 11] 15 0 81919 Hz (m218.to ⟨il, trivial⟩) (.fa 6 rfl U56 <| .lb hh 20 U3 rfl rfl rfl <| .move rfl <| .rem rfl rfl (by decide) (Int.tmod_eq_emod_of_nonneg (by omega)) <| .conv rfl U5 U3 (r := xc % 5) (IntWalk.i64_in _ (by omega)) <| .quo rfl rfl (by decide) (r := xc % 5 / 4) (by rw [Int.tdiv_eq_ediv_of_nonneg (by omega)]; exact IntWalk.i64_in _ (by omega)) <| .sub rfl rfl (r := ne - xc % 5 / 4) (IntWalk.i64_in _ (by omega)) <| .p (fun _ _ h => y_max h rfl rfl rfl) <| .fa 1 rfl U56 <| .lb hh 20 U3 rfl rfl rfl <| .fa 2 rfl U56 <| .lb hh 20 U3 rfl rfl rfl <| .move rfl <| .move rfl <| .fa 0 rfl U89 <| .nil) fun Az Hz => ?_
  refine so 14 ?_
  refine e_litN Hz m218 23 (k := .u8) rfl rfl U22 fct0 rfl rfl rfl rfl fun g234 Az w235 Hz m235 => ?_
  refine ⟨m235.to ⟨il, trivial⟩, ?_⟩
  have m236 := m235.freezeN 23 rfl; clear m235
  refine so 15 ?_
  refine ecl Hz Tryd.func61 rfl (sitem_any bl z [xa, xb] _ _ _ ((m236.rd (i := 23) rfl).any) (by simp) (b2 ha9 hb9) (by omega)) ?_
  rintro e w237 ⟨it, p237, c237, rfl, hit8, hpre9, hitb, hit1, hd237, hb237⟩
  have m238 := m236.callF 24 rfl hb237 hd237
  clear m236
  clear hb237 hd237
  refine ⟨_, rfl, ?_⟩; intro Az Hz
  refine ⟨m238.to ⟨il, trivial⟩, ?_⟩
  refine so 17 ?_
  refine e_store1 Hz m238 22 rfl rfl rfl rfl rfl fct2 (by dsimp only [List.set] <;> rfl) fun w240 m240 _ => ?_
  refine ⟨m240.to ⟨il, trivial⟩, ?_⟩
  refine goA hP218 [18] 1 262143 524287 Hz (m240.to ⟨il, trivial⟩) (.fa 8 rfl U89 <| .nil) fun Az Hz => ?_
  refine so 19 ?_
  refine e_store1 Hz m240 22 rfl rfl rfl rfl rfl fct2 (by dsimp only [List.set] <;> rfl) fun w242 m242 _ => ?_
  refine ⟨m242.to ⟨il, trivial⟩, ?_⟩
  refine goA hP218 [20] 1 1048575 2097151 Hz (m242.to ⟨il, trivial⟩) (.fa 9 rfl U89 <| .nil) fun Az Hz => ?_
  refine so 21 ?_
  refine e_store1 Hz m242 22 rfl rfl rfl rfl rfl fct29 (by dsimp only [List.set] <;> rfl) fun w244 m244 _ => ?_
  refine ⟨m244.to ⟨il, trivial⟩, ?_⟩
  refine wpAnyE_done (by kernel_rfl) ?_ _
  show K3 _ _
  exact hC3 _ _ ⟨_, _, _, it, _, _, _, _, _, by decide, hit8, hitb, Hz.only [2, 3, 4, 5, 6, 12, 14], m244.ren [(6, 20), (12, 21), (14, 22), (9, 24)] (by decide)⟩
 intro hb216 Hz; try simp only [QQ, Qax] at hb216
 refine wcf Hz ?_
 refine wp_region_lit ?_
 refine goCh Hz (.fieldAddr (off := 0) rfl U89 rfl (s := 0) (by kernel_rfl) rfl .nil) fun Az Hz => ?_
 refine plz (e_store1 Hz m15 22 rfl rfl rfl rfl rfl fct2 (by dsimp only [List.set] <;> rfl) fun w246 m246 _ => ?_)
 refine wpList_nil ?_
 have m247 := m246.dat 23 rfl (Rd.l0 none 0 2); clear m246
 show K3 _ _
 exact hC3 _ _ ⟨_, _, _, [], _, _, _, _, _, by decide, by decide, (fun _ h => by cases h), Hz.only [2, 3, 4, 5, 6, 12, 14], m247.ren [(6, 20), (12, 21), (14, 22), (9, 23)] (by decide)⟩
end Go.Proofs.YtodiklpfdfjikaaDoor.K
end
section
namespace Go.Proofs.YtodiklpfdfjikaaDoor.K
open Go.ChangeShapes Go.WideShapes Go.ChangeAt Go.RowKit
set_option linter.unusedVariables false
set_option linter.unusedSimpArgs false
abbrev PI := Int × List Int
abbrev PWr := Int × List PI
theorem pinspre_iff {fl : Int} {n : Nat} {pins : List Int} : PinsPre fl n pins pins.length ↔ pins.Pairwise (· ≤ ·) ∧ ∀ p ∈ pins, fl ≤ p ∧ p ≤ n := by
 constructor
 · intro h
   have hadj : ∀ j, j + 1 < pins.length → pins.getD j 0 ≤ pins.getD (j + 1) 0 := fun j hj => (h (j + 1) hj).1
   have hmono : ∀ d i, i + d < pins.length → pins.getD i 0 ≤ pins.getD (i + d) 0 := by
     intro d
     induction d with
     | zero => intro i _; exact Int.le_refl _
     | succ d ih => intro i hi; have h1 := ih i (by omega); have h2 := hadj (i + d) (by omega); rw [Nat.add_assoc] at h2; omega
   refine ⟨List.pairwise_iff_getElem.2 (fun i j hi hj hij => ?_), fun p hp => ?_⟩
   · have h1 := hmono (j - i) i (by omega)
     rw [show i + (j - i) = j by omega, List.getD, List.getD, List.getElem?_eq_getElem hi, List.getElem?_eq_getElem hj] at h1
     exact h1
   obtain ⟨j, hj, rfl⟩ := List.getElem_of_mem hp
   have h0 : fl ≤ pins.getD 0 0 := (h 0 (by omega)).1
   have h1 := hmono j 0 (by omega)
   have h2 := (h j hj).2
   rw [Nat.zero_add] at h1
   rw [show pins[j] = pins.getD j 0 by rw [List.getD, List.getElem?_eq_getElem hj]; rfl]
   omega
 rintro ⟨h1, h2⟩ j hj
 have hm : pins.getD j 0 ∈ pins := getD_mem hj
 refine ⟨?_, (h2 _ hm).2⟩
 cases j with
 | zero => exact (h2 _ hm).1
 | succ j =>
   show pins.getD j 0 ≤ pins.getD (j + 1) 0
   rw [List.getD, List.getD, List.getElem?_eq_getElem (by omega), List.getElem?_eq_getElem hj]
   exact List.pairwise_iff_getElem.1 h1 j (j + 1) (by omega) hj (by omega)
theorem lowL_le {n : Nat} {pins : List Int} : lowL n pins ≤ n ∧ ∀ p ∈ pins, lowL n pins ≤ p := by
 unfold lowL
 have key : ∀ (l : List Int) (x : Int), l.foldl min x ≤ x ∧ ∀ p ∈ l, l.foldl min x ≤ p := by
   intro l
   induction l with
   | nil => intro x; exact ⟨Int.le_refl _, fun p hp => by cases hp⟩
   | cons y r ih =>
     intro x
     obtain ⟨h1, h2⟩ := ih (min x y)
     refine ⟨by simp only [List.foldl_cons]; omega, fun p hp => ?_⟩
     simp only [List.foldl_cons]
     rcases List.mem_cons.1 hp with rfl | hp
     · omega
     exact h2 p hp
 exact key pins n
theorem wrpre_app2 {bl sz : Int} {ws : List PWr} {it : List PI} (h : WrPre bl sz ws ws.length) (hI : ItemsR bl sz it) : WrPre bl sz (ws ++ [((ws.length : Int) + 1, it)]) (ws.length + 1) := fun j hj => by
 rcases Nat.lt_or_ge j ws.length with h1 | h1
 · have h2 := h j h1
   rw [show (ws ++ [((ws.length : Int) + 1, it)]).getD j w1 = ws.getD j w1 by simp [List.getD, List.getElem?_append, h1]]
   exact h2
 obtain rfl : j = ws.length := by omega
 rw [show (ws ++ [((ws.length : Int) + 1, it)]).getD ws.length w1 = ((ws.length : Int) + 1, it) by simp [List.getD]]
 exact ⟨rfl, hI⟩
section
variable {vo bl sz pe to ne fl : Int} {hi : Bool} {place pins : List Int} {ws : List PWr}
theorem VolR.sorted (h : VolR vo bl sz pe to ne fl hi place pins ws) : pins.Pairwise (· ≤ ·) := by
 obtain ⟨h1, h2, h3, h4, h5, h6, h7, h8, h9⟩ := h
 exact (pinspre_iff.1 h8).1
theorem VolR.write (h : VolR vo bl sz pe to ne fl hi place pins ws) {it : List PI} (hI : ItemsR bl sz it) : VolR vo bl sz pe to ne fl hi place pins (ws ++ [((ws.length : Int) + 1, it)]) := by
 obtain ⟨h1, h2, h3, h4, h5, h6, h7, h8, h9⟩ := h
 refine ⟨h1, h2, h3, h4, h5, h6, by rw [List.length_append]; simp; omega, ?_, by rw [List.length_append]; exact wrpre_app2 h9 hI⟩
 obtain ⟨g1, g2⟩ := pinspre_iff.1 h8
 exact pinspre_iff.2 ⟨g1, fun p hp => by have := g2 p hp; rw [List.length_append]; simp; omega⟩
theorem VolR.do (h : VolR vo bl sz pe to ne fl hi place pins ws) (hh : hi = true → pins = []) {kd at0 ix : Int} {it : List PI} {ne' fl' e9 : Int} {hi' : Bool} {ws' : List PWr} (hd : doR bl sz to ne fl hi pins ws kd at0 ix it = (ne', hi', fl', ws', e9)) :
   VolR vo bl sz pe to ne' fl' hi' place pins ws' ∧ (hi' = true → pins = []) ∧ ws'.length ≤ ws.length + 1 := by
 have hsame : VolR vo bl sz pe to ne fl hi place pins ws ∧ (hi = true → pins = []) ∧ ws.length ≤ ws.length + 1 := ⟨h, hh, by omega⟩
 unfold doR at hd
 split at hd
 · unfold putR at hd
   split at hd
   · simp only [Prod.mk.injEq] at hd; obtain ⟨rfl, rfl, rfl, rfl, rfl⟩ := hd; exact hsame
   unfold wrR at hd
   split at hd
   · rename_i hI
     simp only [Prod.mk.injEq] at hd; obtain ⟨rfl, rfl, rfl, rfl, rfl⟩ := hd
     exact ⟨h.write hI, hh, by simp⟩
   simp only [Prod.mk.injEq] at hd; obtain ⟨rfl, rfl, rfl, rfl, rfl⟩ := hd; exact hsame
 split at hd
 · unfold pruneR at hd
   split at hd
   · rename_i hr
     simp only [Prod.mk.injEq] at hd; obtain ⟨rfl, rfl, rfl, rfl, rfl⟩ := hd
     unfold reachR at hr
     split at hr
     · cases hr
     split at hr
     · cases hr
     split at hr
     · cases hr
     rename_i a1 a2 a3
     obtain ⟨h1, h2, h3, h4, h5, h6, h7, h8, h9⟩ := h
     have hl := @lowL_le ws.length pins
     obtain ⟨g1, g2⟩ := pinspre_iff.1 h8
     exact ⟨⟨h1, h2, h3, h4, h5, by omega, by omega, pinspre_iff.2 ⟨g1, fun p hp => by have b1 := hl.2 p hp; have b2 := g2 p hp; omega⟩, h9⟩, hh, by omega⟩
   simp only [Prod.mk.injEq] at hd; obtain ⟨rfl, rfl, rfl, rfl, rfl⟩ := hd; exact hsame
 split at hd
 · unfold takeR at hd
   split at hd
   · simp only [Prod.mk.injEq] at hd; obtain ⟨rfl, rfl, rfl, rfl, rfl⟩ := hd; exact hsame
   split at hd
   · simp only [Prod.mk.injEq] at hd; obtain ⟨rfl, rfl, rfl, rfl, rfl⟩ := hd; exact hsame
   split at hd
   · simp only [Prod.mk.injEq] at hd; obtain ⟨rfl, rfl, rfl, rfl, rfl⟩ := hd; exact hsame
   rename_i b1 b2 b3
   by_cases hI : ItemsR bl sz it
   · rw [show wrR bl sz ws it = (ws ++ [((ws.length : Int) + 1, it)], 0) from by rw [wrR, if_pos hI]] at hd
     rw [if_pos rfl] at hd
     simp only [Prod.mk.injEq] at hd; obtain ⟨rfl, rfl, rfl, rfl, rfl⟩ := hd
     obtain ⟨h1, h2, h3, h4, h5, h6, h7, h8, h9⟩ := h.write hI
     refine ⟨⟨h1, by omega, ?_, h4, fun e => absurd e b1, h6, h7, h8, h9⟩, hh, by simp⟩
     have : ne ≠ to := fun e => b3 (.inr e)
     omega
   rw [show wrR bl sz ws it = (ws, 23) from by rw [wrR, if_neg hI]] at hd
   rw [if_neg (by simp)] at hd
   simp only [Prod.mk.injEq] at hd; obtain ⟨rfl, rfl, rfl, rfl, rfl⟩ := hd; exact hsame
 split at hd
 · unfold publishR at hd
   split at hd
   · simp only [Prod.mk.injEq] at hd; obtain ⟨rfl, rfl, rfl, rfl, rfl⟩ := hd; exact hsame
   rename_i b1
   simp only [Prod.mk.injEq] at hd; obtain ⟨rfl, rfl, rfl, rfl, rfl⟩ := hd
   obtain ⟨h1, h2, h3, h4, h5, h6, h7, h8, h9⟩ := h
   have e1 : hi = true := by cases hi with | true => rfl | false => exact absurd (.inl rfl) b1
   have e2 : ne = to := by
     by_cases e : ne = to
     · exact e
     exact absurd (.inr e) b1
   have e3 := hh e1
   subst e3
   exact ⟨⟨h1, h2, h3, (fun e => by cases e), (fun _ => e2), by omega, by omega, (fun j hj => by simp at hj), h9⟩, (fun e => by cases e), by omega⟩
 split at hd
 · simp only [Prod.mk.injEq] at hd; obtain ⟨rfl, rfl, rfl, rfl, rfl⟩ := hd; exact hsame
 simp only [Prod.mk.injEq] at hd; obtain ⟨rfl, rfl, rfl, rfl, rfl⟩ := hd; exact hsame
theorem VolR.pin (h : VolR vo bl sz pe to ne fl hi place pins ws) (hh : hi = true → pins = []) {at0 e9 : Int} {pins' : List Int} (hd : pinR hi fl at0 ws.length pins = (pins', e9)) :
   VolR vo bl sz pe to ne fl hi place pins' ws ∧ (hi = true → pins' = []) ∧ pins'.length ≤ pins.length + 1 := by
 unfold pinR at hd
 split at hd
 · rename_i hr
   simp only [Prod.mk.injEq] at hd; obtain ⟨rfl, rfl⟩ := hd
   unfold reachR at hr
   split at hr
   · cases hr
   split at hr
   · cases hr
   split at hr
   · cases hr
   rename_i a1 a2 a3
   obtain ⟨h1, h2, h3, h4, h5, h6, h7, h8, h9⟩ := h
   obtain ⟨g1, g2⟩ := pinspre_iff.1 h8
   refine ⟨⟨h1, h2, h3, h4, h5, h6, h7, pinspre_iff.2 ⟨sortP_sorted _, fun p hp => ?_⟩, h9⟩, fun e => absurd e a1, by simp [sortP]⟩
   rw [sortP, List.mem_mergeSort] at hp
   rcases List.mem_append.1 hp with hp | hp
   · exact g2 p hp
   simp at hp; subst hp; omega
 simp only [Prod.mk.injEq] at hd; obtain ⟨rfl, rfl⟩ := hd
 exact ⟨h, hh, by omega⟩
theorem VolR.unpin (h : VolR vo bl sz pe to ne fl hi place pins ws) (hh : hi = true → pins = []) {at0 e9 : Int} {pins' : List Int} (hd : unpinR hi at0 pins = (pins', e9)) :
   VolR vo bl sz pe to ne fl hi place pins' ws ∧ (hi = true → pins' = []) ∧ pins'.length ≤ pins.length + 1 := by
 unfold unpinR at hd
 split at hd
 · simp only [Prod.mk.injEq] at hd; obtain ⟨rfl, rfl⟩ := hd
   exact ⟨h, hh, by omega⟩
 rename_i b1
 simp only [Prod.mk.injEq] at hd; obtain ⟨rfl, rfl⟩ := hd
 obtain ⟨h1, h2, h3, h4, h5, h6, h7, h8, h9⟩ := h
 obtain ⟨g1, g2⟩ := pinspre_iff.1 h8
 have hs : (pins.take (Lib.idxOf pins at0).toNat ++ pins.drop ((Lib.idxOf pins at0).toNat + 1)).Sublist pins := by
   rw [← List.eraseIdx_eq_take_drop_succ]; exact List.eraseIdx_sublist _ _
 exact ⟨⟨h1, h2, h3, h4, h5, h6, h7, pinspre_iff.2 ⟨g1.sublist hs, fun p hp => g2 p (hs.subset hp)⟩, h9⟩, fun e => absurd (.inl e) b1, by have := hs.length_le; omega⟩
theorem VolR.its (h : VolR vo bl sz pe to ne fl hi place pins ws) : WrsOk ws ∧ (∀ e ∈ ws, e.2.length ≤ 8) := by
 obtain ⟨⟨a1, a2, a3, a4, a5, a6, a7⟩, h2, h3, h4, h5, h6, h7, h8, h9⟩ := h
 have key : ∀ e ∈ ws, e.2.length ≤ 8 ∧ ∀ x ∈ e.2, x.2.length ≤ 32 := fun e he => by
   obtain ⟨j, hj, rfl⟩ := List.getElem_of_mem he
   have h10 := (h9 j hj).2
   rw [List.getD, List.getElem?_eq_getElem hj] at h10
   refine ⟨h10.2.1, fun x hx => ?_⟩
   obtain ⟨i, hi, rfl⟩ := List.getElem_of_mem hx
   have h11 := (h10.2.2 i hi).2.2.1
   simp only [Option.getD_some] at h11
   rw [List.getD, List.getElem?_eq_getElem hi] at h11
   simp only [Option.getD_some] at h11
   omega
 exact ⟨fun e he => ⟨Nat.le_trans (key e he).1 (by decide), fun x hx => Nat.le_trans ((key e he).2 x hx) (by decide)⟩, fun e he => (key e he).1⟩
theorem VolR.new {vo bl sz pe to : Int} {place : List Int} (hN : NewOk vo bl sz pe to place) : VolR vo bl sz pe to 0 0 (decide (0 < to)) place [] [] := by
 have hN' := hN
 obtain ⟨h1, h2, h3, h4, h5, h6, h7, h8, h9, h10, h11⟩ := hN'
 exact ⟨hN, by omega, by omega, (fun e => by simp at e; omega), (fun e => by simp at e; omega), by omega, by simp, (fun j hj => by simp at hj), (fun j hj => by simp at hj)⟩
end
end Go.Proofs.YtodiklpfdfjikaaDoor.K
end
section
namespace Go.Proofs.YtodiklpfdfjikaaDoor.K
open Go.ChangeShapes Go.WideShapes Go.ChangeAt Go.RowKit
set_option linter.unusedVariables false
set_option linter.unusedSimpArgs false
theorem flatten_put {α : Type} {mm : Nat} (vs : List α) (hv : vs.length = mm) : ∀ (cs : List (List α)) (J : Nat), (∀ c ∈ cs, c.length = mm) → J < cs.length → cs.flatten.take (J * mm) ++ vs ++ cs.flatten.drop (J * mm + mm) = (cs.set J vs).flatten
 | [], J, _, h => by simp at h
 | a :: cs, 0, hc, h => by
   have ha := hc a (by simp)
   rw [List.set_cons_zero, List.flatten_cons, List.flatten_cons, Nat.zero_mul, Nat.zero_add, List.take_zero, List.nil_append, List.drop_left' ha]
 | a :: cs, J + 1, hc, h => by
   have ha := hc a (by simp)
   have ih := flatten_put vs hv cs J (fun c h => hc c (by simp [h])) (by simpa using h)
   have e1 : (J + 1) * mm = a.length + J * mm := by rw [ha, Nat.add_mul]; omega
   rw [List.set_cons_succ, List.flatten_cons, List.flatten_cons, ← ih, e1, Nat.add_assoc, List.take_append, List.drop_append, List.take_of_length_le (by omega), List.drop_of_length_le (by omega)]
   rw [show a.length + J * mm - a.length = J * mm by omega, show a.length + (J * mm + mm) - a.length = J * mm + mm by omega]
   simp
section
variable {P : Program} {n : Nat} {T : List (Nat × Value)} {a : Act} {w w0 : World} {X : Cx} {M : Mm} {tt : TypeId} {pos : String} {af : Array Edge} {gd : Option (Nat × Bool)} {Q : Exit → Act → World → Prop} {K : Act → World → Prop}
end
end Go.Proofs.YtodiklpfdfjikaaDoor.K
end
section
namespace Go.Proofs.YtodiklpfdfjikaaDoor.K
open Go.ChangeShapes Go.WideShapes Go.ChangeAt Go.RowKit
set_option linter.unusedVariables false
set_option linter.unusedSimpArgs false
structure VolV where
 vo : Int
 bl : Int
 sz : Int
 pe : Int
 place : List Int
 to : Int
 ne : Int
 hi : Bool
 fl : Int
 pins : List Int
 ws : List PWr
def volD (x : VolV) : List D := [.v (.int .i64 x.vo), .v (.int .i64 x.bl), .v (.int .i64 x.sz), .v (.int .i64 x.pe), .ns .i64 x.place, .v (.int .i64 x.to), .v (.int .i64 x.ne), .v (.bool x.hi), .v (.int .i64 x.fl), .ns .i64 x.pins, .l 2 (x.ws.map wrD)]
theorem volD_get {L : List VolV} {k : Nat} {x : VolV} (h : L[k]? = some x) : (L.map volD)[k]? = some [.v (.int .i64 x.vo), .v (.int .i64 x.bl), .v (.int .i64 x.sz), .v (.int .i64 x.pe), .ns .i64 x.place, .v (.int .i64 x.to), .v (.int .i64 x.ne), .v (.bool x.hi), .v (.int .i64 x.fl), .ns .i64 x.pins, .l 2 (x.ws.map wrD)] := by simp [h, volD]
def WBy (ws : List PWr) : Prop := ∀ e ∈ ws, ∀ x ∈ e.2, BytesL x.2
theorem WBy.snoc {ws : List PWr} {s : Int} {it : List PI} (h : WBy ws) (hi : ∀ e ∈ it, BytesL e.2) : WBy (ws ++ [(s, it)]) := fun e he => by
 rcases List.mem_append.1 he with h1 | h1
 · exact h e h1
 rw [List.mem_singleton.1 h1]; exact hi
theorem doR_by {bl sz to ne fl : Int} {hi : Bool} {pins : List Int} {ws : List PWr} {kd at0 ix : Int} {it : List PI} {ne' fl' e9 : Int} {hi' : Bool} {ws' : List PWr} (h : doR bl sz to ne fl hi pins ws kd at0 ix it = (ne', hi', fl', ws', e9)) (hw : WBy ws) (hb : ∀ e ∈ it, BytesL e.2) : WBy ws' := by
 unfold doR putR pruneR takeR publishR wrR at h
 repeat' split at h
 all_goals (simp only [Prod.mk.injEq] at h; obtain ⟨-, -, -, rfl, -⟩ := h; first | exact hw | exact hw.snoc hb)
def VolS (n : Nat) (x : VolV) : Prop := VolR x.vo x.bl x.sz x.pe x.to x.ne x.fl x.hi x.place x.pins x.ws ∧ (x.hi = true → x.pins = []) ∧ x.pins.length ≤ n ∧ x.ws.length ≤ n ∧ WBy x.ws
theorem VolS.up {n m : Nat} {x : VolV} (h : VolS n x) (hm : n ≤ m) : VolS m x := ⟨h.1, h.2.1, by have := h.2.2.1; omega, by have := h.2.2.2.1; omega, h.2.2.2.2⟩
def MacS (n : Nat) (L : List VolV) : Prop := L.length ≤ n ∧ ∀ x ∈ L, VolS n x
theorem MacS.set {n : Nat} {L : List VolV} {x : VolV} (h : MacS n L) (hx : VolS (n + 1) x) (k : Nat) : MacS (n + 1) (L.set k x) := ⟨by rw [List.length_set]; have := h.1; omega, fun y hy => by
 rcases List.mem_or_eq_of_mem_set hy with hy | rfl
 · exact (h.2 y hy).up (by omega)
 exact hx⟩
theorem MacS.ins {n : Nat} {L : List VolV} {x : VolV} (h : MacS n L) (hx : VolS (n + 1) x) (k : Nat) : MacS (n + 1) (L.take k ++ [x] ++ L.drop k) := ⟨by simp only [List.length_append, List.length_take, List.length_drop, List.length_singleton]; have := h.1; omega, fun y hy => by
 rcases List.mem_append.1 hy with hy | hy
 · rcases List.mem_append.1 hy with hy | hy
   · exact (h.2 y (List.mem_of_mem_take hy)).up (by omega)
   rw [List.mem_singleton.1 hy]; exact hx
 exact (h.2 y (List.mem_of_mem_drop hy)).up (by omega)⟩
theorem MacS.up {n m : Nat} {L : List VolV} (h : MacS n L) (hm : n ≤ m) : MacS m L := ⟨by have := h.1; omega, fun x hx => (h.2 x hx).up hm⟩
set_option maxRecDepth 100000
set_option maxHeartbeats 4000000
theorem rfind (X : Cx) (B : Nat) (L : List VolV) (p : Option Addr) (c : Nat) (vo : Int) (w0 : World) (hl : L.length ≤ 1000000) (m0 : MemOk X w0 [(1, .box B 84 [.slice p (L.map volD).length c]), (2, .dat (.slice p (L.map volD).length c) (.l 11 (L.map volD)))] w0) :
   Calls Tryd.prog 56 #[.pointer (some ⟨B, 0, none⟩), .int .i64 vo] w0 fun e w' => ∃ j : Int, e = .returned (.int .i64 j) ∧ -1 ≤ j ∧ j < L.length ∧ MemOk X w0 [(1, .box B 84 [.slice p (L.map volD).length c]), (2, .dat (.slice p (L.map volD).length c) (.l 11 (L.map volD)))] w' := by
 refine ent2 Tryd.func56 rfl Tryd.ntmps56 fun Az Hz => ?_
 refine regS Hz (.assign rfl <| .nil) fun Az Hz => ?_
 refine wp_seq_k (fun K0 hK0 => ?_)
 refine regS Hz (.assign rfl <| .nil) fun Az Hz => ?_
 refine wp_block ?_
 refine wp_loop_ghost (fun g a w => ∃ (k : Nat), k ≤ L.length ∧ g = L.length - k ∧ Has 26 [(0, .pointer (some ⟨B, 0, none⟩)), (1, .int .i64 vo), (5, .int .i64 k)] a ∧ MemOk X w0 [(1, .box B 84 [.slice p (L.map volD).length c]), (2, .dat (.slice p (L.map volD).length c) (.l 11 (L.map volD)))] w) (L.length) ?_ ?_
 · exact ⟨0, Nat.zero_le _, rfl, Hz.only [0, 1, 5], m0.only [1, 2]⟩
 clear Hz m0
 rintro g Az w3 ⟨k, hkl, hg, Hz, m3⟩
 refine wp_seq_k (fun K1 hK1 => ?_)
 refine regS Hz (.move rfl <| .move rfl <| .nilCheck rfl <| .fa 0 rfl U84 <| .lb m3 1 U82 rfl rfl rfl <| .len rfl U82 <| .lss rfl rfl <| .nil) fun Az Hz => ?_
 refine bc Hz 12 ?_ ?_
 ·
  intro hb11 Hz; try simp only [QQ, Qax] at hb11
  have hk : k < L.length := by have := hb11; simp at this; omega
  obtain ⟨x, hes⟩ : ∃ x, L[k]? = some x := ⟨_, List.getElem?_eq_getElem (by simpa using hk)⟩
  refine wct Hz ?_
  refine zss (hK1 _ _ ?_); clear hK1
  refine wp_seq_k (fun K2 hK2 => ?_)
  refine wp_block ?_
  replace Hz : Has 26 [(0, _), (1, _), (5, _)] Az := Hz.only [0, 1, 5]
  refine zsr fun K3 hK3 => ?_
  refine goCh Hz (.move rfl <| .nilCheck rfl <| .fa 0 rfl U84 <| .lb m3 1 U82 rfl rfl rfl <| .move rfl <| .nil) fun Az Hz => ?_
  obtain ⟨b24, o24, vs24, hp24, hR24, ho24, m24⟩ := m3.openR (i := 2) rfl (k) (r := [.v (.int .i64 x.vo), .v (.int .i64 x.bl), .v (.int .i64 x.sz), .v (.int .i64 x.pe), .ns .i64 x.place, .v (.int .i64 x.to), .v (.int .i64 x.ne), .v (.bool x.hi), .v (.int .i64 x.fl), .ns .i64 x.pins, .l 2 (x.ws.map wrD)]) (volD_get hes) 100 rfl
  revert Hz
  cases hp24; clear m3 ho24
  rcases hR24 with _ | ⟨hd24_0, _ | ⟨hd24_1, _ | ⟨hd24_2, _ | ⟨hd24_3, _ | ⟨hd24_4, _ | ⟨hd24_5, _ | ⟨hd24_6, _ | ⟨hd24_7, _ | ⟨hd24_8, _ | ⟨hd24_9, _ | ⟨hd24_10, _ | _⟩⟩⟩⟩⟩⟩⟩⟩⟩⟩⟩
  obtain rfl := hd24_0.v_out
  clear hd24_0
  obtain rfl := hd24_1.v_out
  clear hd24_1
  obtain rfl := hd24_2.v_out
  clear hd24_2
  obtain rfl := hd24_3.v_out
  clear hd24_3
  obtain ⟨p25, c25, hv25, hc25⟩ := hd24_4.ns_shape; subst hv25
  intro Hz
  have m25 := m24.dat 101 rfl (hd24_4.cast (fun _ h => (free_add rfl h))); clear m24 hd24_4
  revert Hz
  obtain rfl := hd24_5.v_out
  clear hd24_5
  obtain rfl := hd24_6.v_out
  clear hd24_6
  obtain rfl := hd24_7.v_out
  clear hd24_7
  obtain rfl := hd24_8.v_out
  clear hd24_8
  obtain ⟨p26, c26, hv26, hc26⟩ := hd24_9.ns_shape; subst hv26
  intro Hz
  have m26 := m25.dat 102 rfl (hd24_9.cast (fun _ h => (free_add rfl (free_add rfl h)))); clear m25 hd24_9
  revert Hz
  obtain ⟨p27, c27, hv27, hc27⟩ := hd24_10.l_shape; subst hv27
  intro Hz
  have m27 := m26.dat 103 rfl (hd24_10.cast (fun _ h => (free_add rfl (free_add rfl (free_add rfl h))))); clear m26 hd24_10
  refine goCh Hz (.c rfl (fun _ h => y_idx h rfl rfl U82 fct16 (k) rfl (by simpa using hk)) <| .fieldAddrQ 0 rfl U56 rfl (s := 0) (by kernel_rfl) rfl <| .loadC0 m27 (i := 100) rfl rfl U3 rfl <| .move rfl <| .eql rfl rfl <| .nil) fun Az Hz => ?_
  refine znl (hK3 _ _ ?_); clear hK3
  refine bc Hz 24 ?_ ?_
  ·
   intro hb33 Hz; try simp only [QQ, Qax] at hb33
   refine wct Hz ?_
   replace Hz : Has 26 [(0, _), (1, _), (5, _)] Az := Hz.only [0, 1, 5]
   refine regS Hz (.move rfl <| .assign rfl <| .nil) fun Az Hz => ?_
   refine rtd (ret1 (fn := Tryd.f56) Hz rfl rfl ?_)
   first | exact ⟨k, rfl, by omega, by omega, m27.only [1, 2]⟩ | exact ⟨-1, rfl, by omega, by omega, m27.only [1, 2]⟩
  intro hb33 Hz; try simp only [QQ, Qax] at hb33
  refine wcf Hz ?_
  refine zss (hK2 _ _ ?_); clear hK2
  replace Hz : Has 26 [(0, _), (1, _), (5, _)] Az := Hz.only [0, 1, 5]
  refine wp_region_lit ?_
  refine goCh Hz (.move rfl <| .add rfl rfl (r := ((k + 1 : Nat) : Int)) (by rw [IntWalk.i64_in _ (by omega)]; omega) <| .assign rfl <| .nil) fun Az Hz => ?_
  refine wpList_nil ?_
  show ∃ n', n' < _ ∧ _
  exact ⟨L.length - (k + 1), by omega, k + 1, by omega, rfl, Hz.only [0, 1, 5], m27.only [1, 2]⟩
 intro hb11 Hz; try simp only [QQ, Qax] at hb11
 refine wcf Hz ?_
 refine wp_exit ?_
 refine hK0 _ _ ?_; clear hK0
 replace Hz : Has 26 [(0, _), (1, _), (5, _)] Az := Hz.only [0, 1, 5]
 refine regS Hz (.assign rfl <| .nil) fun Az Hz => ?_
 refine rtd (ret1 (fn := Tryd.f56) Hz rfl rfl ?_)
 first | exact ⟨k, rfl, by omega, by omega, m3.only [1, 2]⟩ | exact ⟨-1, rfl, by omega, by omega, m3.only [1, 2]⟩
theorem rDoAny (X : Cx) (x : VolV) (n : Nat) (hx : VolS n x) (hn : n ≤ 800000) (items : List (Int × List Int)) (pp pn pw : Option Addr) (cp cn9 cw : Nat) (pi : Option Addr) (ci : Nat) (kd v1 v2 v3 v4 v5 at0 ix : Int) (q1 : Option Addr) (n1 c1 : Nat) (w0 : World) (hil : items.length ≤ 1000000) (hio : ItsOk items) (hiy : ∀ e ∈ items, BytesL e.2) (m0 : MemOk X w0 [(1, .dat (.slice pp x.place.length cp) (.ns .i64 x.place)), (2, .dat (.slice pn x.pins.length cn9) (.ns .i64 x.pins)), (3, .dat (.slice pw (x.ws.map wrD).length cw) (.l 2 (x.ws.map wrD))), (4, .dat (.slice pi (items.map itD).length ci) (.l 2 (items.map itD)))] w0) :
   Calls Tryd.prog 63 #[.agg #[.int .i64 x.vo, .int .i64 x.bl, .int .i64 x.sz, .int .i64 x.pe, .slice pp x.place.length cp, .int .i64 x.to, .int .i64 x.ne, .bool x.hi, .int .i64 x.fl, .slice pn x.pins.length cn9, .slice pw (x.ws.map wrD).length cw], .agg #[.int .i64 kd, .int .i64 v1, .int .i64 v2, .int .i64 v3, .int .i64 v4, .slice q1 n1 c1, .int .i64 v5, .int .i64 at0, .int .i64 ix, .slice pi (items.map itD).length ci]] w0 fun e w' => ∃ (y : VolV) (e9 rl rf rn : Int) (p1 p2 p3 : Option Addr) (d1 d2 d3 : Nat), e = .returned (.tuple #[.agg #[.int .i64 y.vo, .int .i64 y.bl, .int .i64 y.sz, .int .i64 y.pe, .slice p1 y.place.length d1, .int .i64 y.to, .int .i64 y.ne, .bool y.hi, .int .i64 y.fl, .slice p2 y.pins.length d2, .slice p3 (y.ws.map wrD).length d3], .agg #[.int .i64 e9, .int .i64 rl, .int .i64 rf, .int .i64 rn, .slice none 0 0]]) ∧ y.vo = x.vo ∧ VolS (n + 1) y ∧ MemOk X w0 [(1, .dat (.slice p1 y.place.length d1) (.ns .i64 y.place)), (2, .dat (.slice p2 y.pins.length d2) (.ns .i64 y.pins)), (3, .dat (.slice p3 (y.ws.map wrD).length d3) (.l 2 (y.ws.map wrD)))] w' := by
 obtain ⟨h1, h2, h3, h4, h5⟩ := hx
 obtain ⟨vo, bl, sz, pe, place, to, ne, hi, fl, pins, ws⟩ := x
 simp only at *
 have hI : (items.map itD).length = items.length := List.length_map ..
 rw [hI] at m0 ⊢
 have hne : -1000000000000000 ≤ ne ∧ ne ≤ 1000000000000000 := by
   obtain ⟨⟨a1, a2, a3, a4, a5, a6, a7, a8, a9, a10, a11⟩, b1, b2, b3⟩ := h1
   omega
 by_cases k4 : kd = 4
 · subst k4
   refine (rDo4 X vo bl sz pe to ne fl hi place pins ws pp pn pw cp cn9 cw v1 v2 v3 v4 v5 at0 ix q1 n1 c1 pi items.length ci w0 (by omega) h1.sorted (m0.only [1, 2, 3])).mono ?_
   rintro e w' ⟨pins', e9, rl, rf, rn, p2, d2, rfl, hd, hr, m⟩
   obtain ⟨g1, g2, g3⟩ := h1.pin h2 hd
   exact ⟨⟨vo, bl, sz, pe, place, to, ne, hi, fl, pins', ws⟩, e9, rl, rf, rn, _, _, _, _, _, _, rfl, rfl, ⟨g1, g2, by simp only; omega, by simp only; omega, h5⟩, m.ren [(1, 1), (2, 6), (3, 3)] (by decide)⟩
 by_cases k5 : kd = 5
 · subst k5
   refine (rDo5 X vo bl sz pe to ne fl hi place pins ws pp pn pw cp cn9 cw v1 v2 v3 v4 v5 at0 ix q1 n1 c1 pi items.length ci w0 (by omega) (m0.only [1, 2, 3])).mono ?_
   rintro e w' ⟨pins', e9, rl, rf, rn, p2, d2, rfl, hd, hr, m⟩
   obtain ⟨g1, g2, g3⟩ := h1.unpin h2 hd
   exact ⟨⟨vo, bl, sz, pe, place, to, ne, hi, fl, pins', ws⟩, e9, rl, rf, rn, _, _, _, _, _, _, rfl, rfl, ⟨g1, g2, by simp only; omega, by simp only; omega, h5⟩, m.ren [(1, 1), (2, 6), (3, 3)] (by decide)⟩
 refine (rDo X vo bl sz pe to ne fl hi place pins ws items pp pn pw cp cn9 cw pi ci kd v1 v2 v3 v4 v5 at0 ix q1 n1 c1 w0 k4 k5 hne (by omega) (by omega) hil hio m0).mono ?_
 rintro e w' ⟨ne', hi', fl', ws', e9, rl, rf, rn, p3, d3, rfl, hd, hr, m⟩
 obtain ⟨g1, g2, g3⟩ := h1.do h2 hd
 exact ⟨⟨vo, bl, sz, pe, place, to, ne', hi', fl', pins, ws'⟩, e9, rl, rf, rn, _, _, _, _, _, _, rfl, rfl, ⟨g1, g2, by simp only; omega, by simp only; omega, doR_by hd h5 hiy⟩, m.ren [(1, 1), (2, 2), (3, 7)] (by decide)⟩
end Go.Proofs.YtodiklpfdfjikaaDoor.K
end
