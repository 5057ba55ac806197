/- The reference's place and items as bytes. -/
import Derived.Test.YtflcgpajodfkoaaDoorVol23
namespace Go.Proofs.YtflcgpajodfkoaaDoor.K
open Go.ChangeShapes Go.WideShapes Go.ChangeAt Go.RowKit
set_option linter.unusedVariables false
set_option linter.unusedSimpArgs false
def ItsS (es : List (Int × List Int)) : Prop := ∀ e ∈ es, e.2.length ≤ 1000 ∧ BytesL e.2
set_option maxRecDepth 100000
set_option maxHeartbeats 4000000
theorem rplace (xs : List Int) (q : Option Addr) (cq : Nat) (w0 : World) (h0 : Rd (fun _ => True) w0 (.slice q xs.length cq) (.ns .i64 xs)) (hl : xs.length ≤ 1000000) :
   Calls Tryd.prog 60 #[.slice q xs.length cq] w0 fun e w' => ∃ (b : List Int) (p : Option Addr) (c : Nat), e = .returned (.slice p b.length c) ∧ b.length ≤ 10 + 10 * xs.length ∧ BytesL b ∧ w'.ownsRow w0.heap.size 5 1 (.slice p b.length c) b.length (b.map (Value.int .u8)) ∧ Below w0.heap.size w0 w' := by
 refine ent1 Tryd.func60 rfl Tryd.ntmps60 fun Az Hz => ?_
 have m0 := MemOk.start (fun _ => False) w0
 refine regS Hz (.assign rfl <| .nil) ?_
 clear Hz Az; intro Az Hz
 refine zsr fun K0 hK0 => ?_
 refine goCh Hz (.move rfl <| .len rfl U26 <| .nil) ?_
 clear Hz Az; intro Az Hz
 refine wpList_plain rfl (fun K hK => ?_)
 refine e_litN Hz m0 20 (k := .i64) rfl rfl U27 fct22 rfl rfl rfl rfl ?_
 clear Hz Az m0; intro g6 Az w7 Hz m7
 refine hK _ _ ?_; clear hK
 have m8 := m7.freezeN 20 rfl; clear m7
 refine wpList_plain rfl (fun K hK => ?_)
 refine e_call Hz Tryd.func59 rfl rfl rfl rfl (rnums16 [(xs.length : Int)] _ _ _ ((m8.rd (i := 20) rfl).any) (by simp)) ?_
 rintro e w9 ⟨d0, p9, c9, rfl, hld0, hbd0, ho9, hb9⟩
 have m10 := m8.newN 21 hb9 ho9
 clear m8
 clear hb9 ho9
 refine ⟨_, rfl, ?_⟩; clear Hz Az; intro Az Hz
 refine hK _ _ ?_; clear hK
 refine goCh Hz (.assign rfl .nil) ?_
 clear Hz Az; intro Az Hz
 refine znl (hK0 _ _ ?_); clear hK0
 refine wp_seq_k (fun K1 hK1 => ?_)
 refine regS Hz (.assign rfl <| .nil) ?_
 clear Hz Az; intro Az Hz
 refine wp_block ?_
 refine wp_loop_ghost (fun g a w => ∃ (k : Nat) (b : List Int) (p : Option Addr) (c : Nat), k ≤ xs.length ∧ g = xs.length - k ∧ b.length ≤ 10 + 10 * k ∧ BytesL b ∧ Has 24 [(0, .slice q xs.length cq), (3, .slice p b.length c), (4, .int .i64 k)] a ∧ MemOk (cn w0) w0 [(9, .num (.slice p b.length c) 5 .u8 b)] w) (xs.length) ?_ ?_
 · exact ⟨0, d0, _, _, Nat.zero_le _, rfl, by simpa using hld0, hbd0, Hz.only [0, 3, 4], m10.ren [(9, 21)] (by decide)⟩
 clear Hz m10
 rintro g Az w14 ⟨k, b, p, c, hkl, hg, hbl, hbb, Hz, m14⟩
 refine wp_seq_k (fun K2 hK2 => ?_)
 refine regS Hz (.move rfl <| .move rfl <| .len rfl U26 <| .lss rfl rfl <| .nil) ?_
 clear Hz Az; intro Az Hz
 refine bool_cases Hz (t := 12) rfl ?_ ?_
 ·
  clear Hz; intro hb19 Hz; try simp only [QQ, Qax] at hb19
  have hk : k < xs.length := by omega
  refine wp_cond_true (Hz.ev (x := .tmp 12) rfl) ?_
  refine zss (hK2 _ _ ?_); clear hK2
  refine wp_seq_k (fun K3 hK3 => ?_)
  refine wp_block ?_
  refine wp_region_lit ?_
  refine goCh Hz (.move rfl <| .move rfl <| .move rfl <| .nil) ?_
  clear Hz Az; intro Az Hz
  obtain ⟨gx23, ox23, hp23, hl23, hrg23⟩ := h0.extN (k) hk
  cases hp23; clear hl23
  refine goCh Hz (.c rfl (fun _ h => y_idx h rfl rfl U26 fct8 (k) rfl hk) <| .loadAt1 (hrg23 m14 rfl) (q := 0) rfl rfl rfl U3 rfl <| .nil) ?_
  clear Hz Az; intro Az Hz
  refine wpList_plain rfl (fun K hK => ?_)
  refine e_litN Hz m14 100 (k := .i64) rfl rfl U27 fct22 rfl rfl rfl rfl ?_
  clear Hz Az m14; intro g26 Az w27 Hz m27
  refine hK _ _ ?_; clear hK
  have m28 := m27.freezeN 100 rfl; clear m27
  refine wpList_plain rfl (fun K hK => ?_)
  refine e_call Hz Tryd.func59 rfl rfl rfl rfl (rnums16 [xs.getD k 0] _ _ _ ((m28.rd (i := 100) rfl).any) (by simp)) ?_
  rintro e w29 ⟨d1, p29, c29, rfl, hld1, hbd1, ho29, hb29⟩
  have m30 := m28.newN 101 hb29 ho29
  clear m28
  clear hb29 ho29
  refine ⟨_, rfl, ?_⟩; clear Hz Az; intro Az Hz
  refine hK _ _ ?_; clear hK
  refine wpList_plain rfl (fun K hK => ?_)
  refine e_appN Hz m30 9 rfl rfl rfl (m30.numsO (i := 101) rfl) U22 fct0 (by decide) (by simp at hld1 ⊢; omega) rfl ?_
  clear Hz Az m30; intro p32 c32 Az w33 Hz m33
  refine hK _ _ ?_; clear hK
  refine goCh Hz (.assign rfl .nil) ?_
  clear Hz Az; intro Az Hz
  refine znl (hK3 _ _ ?_); clear hK3
  replace Hz : Has 24 [(0, _), (3, _), (4, _)] Az := Hz.only [0, 3, 4]
  refine wp_region_lit ?_
  refine goCh Hz (.move rfl <| .add rfl rfl (r := ((k + 1 : Nat) : Int)) (by rw [IntWalk.i64_in _ (by omega)]; omega) <| .assign rfl <| .nil) ?_
  clear Hz Az; intro Az Hz
  refine wpList_nil ?_
  show ∃ n', n' < _ ∧ _
  exact ⟨xs.length - (k + 1), by omega, k + 1, _, _, _, by omega, rfl, by simp at hld1 ⊢; omega, bytes_app hbb hbd1, Hz.only [0, 3, 4], m33.only [9]⟩
 clear Hz; intro hb19 Hz; try simp only [QQ, Qax] at hb19
 obtain rfl : k = xs.length := by omega
 refine wp_cond_false (Hz.ev (x := .tmp 12) rfl) ?_
 refine wp_exit ?_
 refine hK1 _ _ ?_; clear hK1
 refine regS Hz (.move rfl <| .assign rfl <| .nil) ?_
 clear Hz Az; intro Az Hz
 refine wp_ret ?_
 try dsimp only [Exit.then, Exit.inBlock]
 refine (ret1 (fn := Tryd.f60) Hz rfl rfl ?_)
 exact ⟨_, _, _, rfl, hbl, hbb, m14.ok 9 _ rfl, m14.below⟩
theorem rputItems (es : List (Int × List Int)) (q : Option Addr) (nn cq : Nat) (w0 : World) (h0 : Rd (fun _ => True) w0 (.slice q nn cq) (.l 2 (es.map itD))) (hl : es.length ≤ 10000) (hok : ItsS es) :
   Calls Tryd.prog 61 #[.slice q nn cq] w0 fun e w' => ∃ (b : List Int) (p : Option Addr) (c : Nat), e = .returned (.slice p b.length c) ∧ b.length ≤ 10 + 1020 * es.length ∧ BytesL b ∧ w'.ownsRow w0.heap.size 5 1 (.slice p b.length c) b.length (b.map (Value.int .u8)) ∧ Below w0.heap.size w0 w' := by
 obtain rfl : nn = es.length := by obtain ⟨pq, c9, hv, _⟩ := h0.l_shape; injection hv with _ e2 _; rw [List.length_map] at e2; exact e2
 refine ent1 Tryd.func61 rfl Tryd.ntmps61 fun Az Hz => ?_
 have m0 := MemOk.start (fun _ => False) w0
 refine regS Hz (.assign rfl <| .nil) ?_
 clear Hz Az; intro Az Hz
 refine zsr fun K0 hK0 => ?_
 refine goCh Hz (.move rfl <| .len rfl U33 <| .nil) ?_
 clear Hz Az; intro Az Hz
 refine wpList_plain rfl (fun K hK => ?_)
 refine e_litN Hz m0 20 (k := .i64) rfl rfl U27 fct22 rfl rfl rfl rfl ?_
 clear Hz Az m0; intro g6 Az w7 Hz m7
 refine hK _ _ ?_; clear hK
 have m8 := m7.freezeN 20 rfl; clear m7
 refine wpList_plain rfl (fun K hK => ?_)
 refine e_call Hz Tryd.func81 rfl rfl rfl rfl (rnums13 [(es.length : Int)] _ _ _ ((m8.rd (i := 20) rfl).any) (by simp)) ?_
 rintro e w9 ⟨d0, p9, c9, rfl, hld0, hbd0, ho9, hb9⟩
 have m10 := m8.newN 21 hb9 ho9
 clear m8
 clear hb9 ho9
 refine ⟨_, rfl, ?_⟩; clear Hz Az; intro Az Hz
 refine hK _ _ ?_; clear hK
 refine goCh Hz (.assign rfl .nil) ?_
 clear Hz Az; intro Az Hz
 refine znl (hK0 _ _ ?_); clear hK0
 refine wp_seq_k (fun K1 hK1 => ?_)
 refine regS Hz (.assign rfl <| .nil) ?_
 clear Hz Az; intro Az Hz
 refine wp_block ?_
 refine wp_loop_ghost (fun g a w => ∃ (k : Nat) (b : List Int) (p : Option Addr) (c : Nat), k ≤ es.length ∧ g = es.length - k ∧ b.length ≤ 10 + 1020 * k ∧ BytesL b ∧ Has 32 [(0, .slice q es.length cq), (3, .slice p b.length c), (4, .int .i64 k)] a ∧ MemOk (cn w0) w0 [(9, .num (.slice p b.length c) 5 .u8 b)] w) (es.length) ?_ ?_
 · exact ⟨0, d0, _, _, Nat.zero_le _, rfl, by simpa using hld0, hbd0, Hz.only [0, 3, 4], m10.ren [(9, 21)] (by decide)⟩
 clear Hz m10
 rintro g Az w14 ⟨k, b, p, c, hkl, hg, hbl, hbb, Hz, m14⟩
 refine wp_seq_k (fun K2 hK2 => ?_)
 refine regS Hz (.move rfl <| .move rfl <| .len rfl U33 <| .lss rfl rfl <| .nil) ?_
 clear Hz Az; intro Az Hz
 refine bool_cases Hz (t := 12) rfl ?_ ?_
 ·
  clear Hz; intro hb19 Hz; try simp only [QQ, Qax] at hb19
  have hk : k < es.length := by omega
  obtain ⟨⟨xb, xd⟩, hes⟩ : ∃ e, es[k]? = some e := ⟨_, List.getElem?_eq_getElem hk⟩
  have hed := hok _ (List.mem_of_getElem? hes)
  dsimp only at hed
  refine wp_cond_true (Hz.ev (x := .tmp 12) rfl) ?_
  refine zss (hK2 _ _ ?_); clear hK2
  refine wp_seq_k (fun K3 hK3 => ?_)
  refine wp_block ?_
  obtain ⟨gx21, ox21, vx21, hp21, hl21, hR21, hrg21⟩ := h0.extA (k) (r := [.v (.int .i64 xb), .ns .u8 xd]) (itD_get hes)
  cases hp21; clear hl21
  rcases hR21 with _ | ⟨hd21_0, _ | ⟨hd21_1, _ | _⟩⟩
  obtain rfl := hd21_0.v_out
  clear hd21_0
  obtain ⟨p22, c22, hv22, hw22⟩ := hd21_1.ns_shape; subst hv22
  obtain ⟨gx24, ox24, vx24, hp24, hl24, hR24, hrg24⟩ := h0.extA (k) (r := [.v (.int .i64 xb), .ns .u8 xd]) (itD_get hes)
  cases hp24; clear hl24
  rcases hR24 with _ | ⟨hd24_0, _ | ⟨hd24_1, _ | _⟩⟩
  obtain rfl := hd24_0.v_out
  clear hd24_0
  obtain ⟨p25, c25, hv25, hw25⟩ := hd24_1.ns_shape; subst hv25
  have m26 : MemOk _ _ [(9, _)] _ := m14.only [9]; clear m14
  refine region_p 17 (B := []) (m26.to trivial) m26 (by kernel_rfl) (fun w27 hP27 m27 => ?_); clear m26
  refine goR hP27 [0, 1, 2, 3, 4, 5, 9, 10, 11, 12, 13] [5, 13] 11 0 15935 Hz (m27.to trivial) (.move rfl <| .move rfl <| .move rfl <| .p (fun _ _ h => y_idx h rfl rfl U33 fct2 (k) rfl hk) <| .fieldAddrQ 0 rfl U58 rfl (s := 0) (by kernel_rfl) rfl <| .loadAt1 (fun _ h => (hrg21 h rfl)) (q := 0) rfl rfl rfl U3 rfl <| .move rfl <| .move rfl <| .p (fun _ _ h => y_idx h rfl rfl U33 fct2 (k) rfl hk) <| .fieldAddrQ 1 rfl U58 rfl (s := 0) (by kernel_rfl) rfl <| .loadAt1 (fun _ h => (hrg24 h rfl)) (q := 1) rfl rfl rfl U22 rfl <| .nil) ?_
  clear Hz Az; intro Az Hz
  refine stepE_only 6 rfl (by kernel_rfl) rfl (fun K hK => ?_)
  refine e_litN Hz m27 102 (k := .i64) rfl rfl U27 fct22 rfl rfl rfl rfl ?_
  clear Hz Az m27; intro g39 Az w40 Hz m40
  refine hK _ _ (m40.to trivial) ?_; clear hK K
  have m41 := m40.freezeN 102 rfl; clear m40
  refine stepE_only 7 rfl (by kernel_rfl) rfl (fun K hK => ?_)
  refine e_call Hz Tryd.func81 rfl rfl rfl rfl (rnums13 [xb] _ _ _ ((m41.rd (i := 102) rfl).any) (by simp)) ?_
  rintro e w42 ⟨d1, p42, c42, rfl, hld1, hbd1, ho42, hb42⟩
  have m43 := m41.newN 103 hb42 ho42
  clear m41
  clear hb42 ho42
  refine ⟨_, rfl, ?_⟩; clear Hz Az; intro Az Hz
  refine hK _ _ (m43.to trivial) ?_; clear hK K
  refine stepE_only 8 rfl (by kernel_rfl) rfl (fun K hK => ?_)
  refine e_appN Hz m43 9 rfl rfl rfl (m43.numsO (i := 103) rfl) U22 fct0 (by decide) (by simp at hld1 ⊢; omega) rfl ?_
  clear Hz Az m43; intro p45 c45 Az w46 Hz m46
  refine hK _ _ (m46.to trivial) ?_; clear hK K
  refine stepE_only 14 rfl (by kernel_rfl) rfl (fun K hK => ?_)
  refine e_call Hz Tryd.func82 rfl rfl rfl rfl (rlump xd _ _ _ ((hd24_1.now' m46 rfl).any) (by omega) hed.2) ?_
  rintro e w47 ⟨d2, p47, c47, rfl, hld2, hbd2, ho47, hb47⟩
  have m48 := m46.newN 104 hb47 ho47
  clear m46
  clear hb47 ho47
  refine ⟨_, rfl, ?_⟩; clear Hz Az; intro Az Hz
  refine hK _ _ (m48.to trivial) ?_; clear hK K
  refine stepE_only 15 rfl (by kernel_rfl) rfl (fun K hK => ?_)
  refine e_appN Hz m48 9 rfl rfl rfl (m48.numsO (i := 104) rfl) U22 fct0 (by decide) (by simp at hld1 ⊢; omega) rfl ?_
  clear Hz Az m48; intro p50 c50 Az w51 Hz m51
  refine hK _ _ (m51.to trivial) ?_; clear hK K
  refine goA hP27 [16] 1 65535 131071 Hz (m51.to trivial) (.assign rfl <| .nil) ?_
  clear Hz Az; intro Az Hz
  refine wpAnyE_done (by kernel_rfl) ?_ _
  refine hK3 _ _ ?_; clear hK3
  replace Hz : Has 32 [(0, _), (3, _), (4, _)] Az := Hz.only [0, 3, 4]
  refine wp_region_lit ?_
  refine goCh Hz (.move rfl <| .add rfl rfl (r := ((k + 1 : Nat) : Int)) (by rw [IntWalk.i64_in _ (by omega)]; omega) <| .assign rfl <| .nil) ?_
  clear Hz Az; intro Az Hz
  refine wpList_nil ?_
  show ∃ n', n' < _ ∧ _
  exact ⟨es.length - (k + 1), by omega, k + 1, _, _, _, by omega, rfl, by simp at hld1 ⊢; omega, bytes_app (bytes_app hbb hbd1) hbd2, Hz.only [0, 3, 4], m51.only [9]⟩
 clear Hz; intro hb19 Hz; try simp only [QQ, Qax] at hb19
 obtain rfl : k = es.length := by omega
 refine wp_cond_false (Hz.ev (x := .tmp 12) rfl) ?_
 refine wp_exit ?_
 refine hK1 _ _ ?_; clear hK1
 refine regS Hz (.move rfl <| .assign rfl <| .nil) ?_
 clear Hz Az; intro Az Hz
 refine wp_ret ?_
 try dsimp only [Exit.then, Exit.inBlock]
 refine (ret1 (fn := Tryd.f61) Hz rfl rfl ?_)
 exact ⟨_, _, _, rfl, hbl, hbb, m14.ok 9 _ rfl, m14.below⟩
end Go.Proofs.YtflcgpajodfkoaaDoor.K
