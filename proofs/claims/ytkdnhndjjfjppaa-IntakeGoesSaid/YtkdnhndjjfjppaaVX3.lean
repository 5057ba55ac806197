/- The reference's PutCmd and ReadCmd: just which bytes, and back. -/
import Derived.Test.YtkdnhndjjfjppaaVX2
namespace Go.Proofs.Ytkdnhndjjfjppaa.K
open Go.ChangeShapes Go.WideShapes Go.ChangeAt Go.RowKit
set_option linter.unusedVariables false
set_option linter.unusedSimpArgs false
theorem fl115xrC : flatS Try.prog 115 [.slice none 0 0, .int .i64 0] = true := by kernel_rfl
structure CmdOk (kd vo bl sz pe to at0 ix : Int) (place : List Int) (items : List (Int × List Int)) : Prop where
 kd : 1 ≤ kd ∧ kd ≤ 8
 vo : 0 ≤ vo ∧ vo ≤ 7
 t40 : (0 ≤ bl ∧ bl ≤ 1099511627776) ∧ (0 ≤ sz ∧ sz ≤ 1099511627776) ∧ (0 ≤ pe ∧ pe ≤ 1099511627776) ∧ (0 ≤ to ∧ to ≤ 1099511627776) ∧ (0 ≤ at0 ∧ at0 ≤ 1099511627776) ∧ (0 ≤ ix ∧ ix ≤ 1099511627776)
 pl : place.length ≤ 256
 pb : ∀ k, k < place.length → 0 ≤ place.getD k 0 ∧ place.getD k 0 ≤ 7
 il : items.length ≤ 8
 ib : ∀ e ∈ items, (0 ≤ e.1 ∧ e.1 ≤ 255) ∧ e.2.length ≤ 32
 by8 : ∀ e ∈ items, BytesL e.2
def cmdE (kd vo bl sz pe to at0 ix : Int) (place : List Int) (items : List (Int × List Int)) : List Int := encs [kd, vo, bl, sz, pe, to, at0, ix] ++ (encs ((place.length : Int) :: place) ++ (enc items.length ++ itemsE items))
theorem l63 {l : List Int} (h : ∀ x ∈ l, 0 ≤ x ∧ x ≤ 9223372036854775807) : ∀ k, k < l.length → 0 ≤ l.getD k 0 ∧ l.getD k 0 ≤ 9223372036854775807 := fun k hk => by
 rw [List.getD, List.getElem?_eq_getElem hk]; exact h _ (List.getElem_mem hk)
theorem bytes_app2 {a b : List Int} (ha : BytesL a) (hb : BytesL b) : BytesL (a ++ b) := fun x hx => (List.mem_append.1 hx).elim (ha x) (hb x)
theorem encs_bytes {l : List Int} (h : ∀ x ∈ l, x ≤ 18446744073709551615) : BytesL (encs l) := fun x hx => by
 obtain ⟨y, hy, hxy⟩ := List.mem_flatMap.1 hx
 exact enc_bytes y (h y hy) x hxy
theorem items_bytes {es : List (Int × List Int)} (h : ∀ e ∈ es, e.1 ≤ 18446744073709551615 ∧ e.2.length ≤ 1000 ∧ BytesL e.2) : BytesL (itemsE es) := fun x hx => by
 obtain ⟨y, hy, hxy⟩ := List.mem_flatMap.1 hx
 obtain ⟨h1, h2, h3⟩ := h y hy
 rcases List.mem_append.1 hxy with h4 | h4
 · exact enc_bytes _ h1 x h4
 rcases List.mem_append.1 h4 with h5 | h5
 · exact enc_bytes _ (by omega) x h5
 exact h3 x h5
section
variable {kd vo bl sz pe to at0 ix : Int} {place : List Int} {items : List (Int × List Int)}
theorem CmdOk.n63 (hc : CmdOk kd vo bl sz pe to at0 ix place items) : ∀ k, k < [kd, vo, bl, sz, pe, to, at0, ix].length → 0 ≤ [kd, vo, bl, sz, pe, to, at0, ix].getD k 0 ∧ [kd, vo, bl, sz, pe, to, at0, ix].getD k 0 ≤ 9223372036854775807 := l63 (fun x hx => by
 have h1 := hc.kd; have h2 := hc.vo; have h3 := hc.t40
 simp only [List.mem_cons, List.not_mem_nil, or_false] at hx
 omega)
theorem CmdOk.lens (hc : CmdOk kd vo bl sz pe to at0 ix place items) : (encs [kd, vo, bl, sz, pe, to, at0, ix]).length ≤ 80 ∧ (encs ((place.length : Int) :: place)).length ≤ 2570 ∧ (enc items.length ++ itemsE items).length ≤ 8170 := by
 have h1 := encs_len [kd, vo, bl, sz, pe, to, at0, ix]
 have h2 := encs_len ((place.length : Int) :: place)
 have h3 := (enc_len items.length).1
 have h4 := itemsE_len items (fun e he => by have := hc.ib e he; omega)
 have h5 := hc.pl; have h6 := hc.il
 simp only [List.length_cons, List.length_nil, List.length_append] at *
 omega
theorem CmdOk.len (hc : CmdOk kd vo bl sz pe to at0 ix place items) : (cmdE kd vo bl sz pe to at0 ix place items).length ≤ 20000 := by
 have := hc.lens
 simp only [cmdE, List.length_append] at *
 omega
theorem CmdOk.bytes (hc : CmdOk kd vo bl sz pe to at0 ix place items) : BytesL (cmdE kd vo bl sz pe to at0 ix place items) := by
 have h1 := hc.kd; have h2 := hc.vo; have h3 := hc.t40; have h4 := hc.pl; have h5 := hc.il
 refine bytes_app2 (encs_bytes fun x hx => ?_) (bytes_app2 (encs_bytes fun x hx => ?_) (bytes_app2 (fun x hx => enc_bytes _ (by omega) x hx) (items_bytes fun e he => ?_)))
 · simp only [List.mem_cons, List.not_mem_nil, or_false] at hx; omega
 · rcases List.mem_cons.1 hx with rfl | hx
   · omega
   obtain ⟨k, hk, rfl⟩ := List.getElem_of_mem hx
   have := hc.pb k hk
   rw [List.getD, List.getElem?_eq_getElem hk] at this
   simp only [Option.getD_some] at this
   omega
 have := hc.ib e he; exact ⟨by omega, by omega, hc.by8 e he⟩
end
set_option maxRecDepth 100000
set_option maxHeartbeats 4000000
theorem within_x (n : Int) (w0 : World) (h : 0 ≤ n ∧ n ≤ 1099511627776) : Calls Try.prog 61 #[.int .i64 n] w0 fun e w' => e = .returned (.bool true) ∧ Below w0.heap.size w0 w' := by
 refine ent1 Try.func61 rfl Try.ntmps61 fun Az Hz => ?_
 have m0 := MemOk.start (fun _ => False) w0
 refine regS Hz (.assign rfl <| .nil) ?_
 clear Hz Az; intro Az Hz
 refine sr fun K0 hK0 => ?_
 refine goCh Hz (.move rfl <| .geq rfl rfl <| .move rfl <| .nil) ?_
 clear Hz Az; intro Az Hz
 refine bool_cases Hz (t := 5) rfl ?_ ?_
 rotate_left
 · intro hb _; exact absurd hb (by simp; omega)
 clear Hz; intro _ Hz
 refine goCh Hz (.moveZ rfl <| .leqZ rfl rfl <| .pickT rfl rfl <| .assign rfl <| .nil) ?_
 clear Hz Az; intro Az Hz
 refine nl (hK0 _ _ ?_); clear hK0
 refine wp_ret ?_
 try dsimp only [Exit.then, Exit.inBlock]
 refine (ret1 (fn := Try.f61) Hz rfl rfl ?_)
 exact ⟨by simp; omega, m0.below⟩
theorem rcmd_yes (kd vo bl sz pe to at0 ix : Int) (place : List Int) (items : List (Int × List Int)) (pp pi : Option Addr) (cp ni ci : Nat) (w0 : World) (h0 : Rd (fun _ => True) w0 (.slice pp place.length cp) (.ns .i64 place)) (h1 : Rd (fun _ => True) w0 (.slice pi ni ci) (.l 2 (items.map itD))) (hc : CmdOk kd vo bl sz pe to at0 ix place items) :
   Calls Try.prog 39 #[.agg #[.int .i64 kd, .int .i64 vo, .int .i64 bl, .int .i64 sz, .int .i64 pe, .slice pp place.length cp, .int .i64 to, .int .i64 at0, .int .i64 ix, .slice pi ni ci]] w0 fun e w' => e = .returned (.bool true) ∧ Below w0.heap.size w0 w' := by
 obtain rfl : ni = items.length := by obtain ⟨pq, c9, hv, _⟩ := h1.l_shape; injection hv with _ e2 _; rw [List.length_map] at e2; exact e2
 obtain ⟨hkd, hvo, ht40, hpl, hpb, hil, hok, -⟩ := hc
 refine ent1 Try.func39 rfl Try.ntmps39 fun Az Hz => ?_
 have m0 := MemOk.start (fun _ => False) w0
 refine sr fun K0 hK0 => ?_
 refine wpList_plain rfl (fun K hK => ?_)
 refine e_box Hz m0 20 (cs := [_, _, _, _, _, _, _, _, _, _]) rfl rfl rfl ?_
 clear Hz Az m0; intro g1 Az w2 Hz m2 hB2 hg2
 clear hB2 hg2
 refine hK _ _ ?_; clear hK
 refine goCh Hz (.assign rfl .nil) ?_
 clear Hz Az; intro Az Hz
 refine nl (hK0 _ _ ?_); clear hK0
 refine wp_seq_k (fun K1 hK1 => ?_)
 refine sr fun K2 hK2 => ?_
 refine goCh Hz (.fa 0 rfl U57 <| .lb m2 20 U3 rfl rfl rfl <| .lss rfl rfl <| .move rfl <| .nil) ?_
 clear Hz Az; intro Az Hz
 refine bool_cases Hz (t := 8) rfl ?_ ?_
 · intro hb _; exact absurd hb (by simp; omega)
 clear Hz; intro _ Hz
 refine goCh Hz (.faZ 0 rfl U57 <| .loadB1Z m2 (i := 20) rfl rfl rfl U3 rfl <| .gtrZ rfl rfl <| .pickF rfl rfl <| .move rfl <| .nil) ?_
 clear Hz Az; intro Az Hz
 refine bool_cases Hz (t := 13) rfl ?_ ?_
 · intro hb _; exact absurd hb (by simp; omega)
 clear Hz; intro _ Hz
 refine goCh Hz (.faZ 1 rfl U57 <| .loadB1Z m2 (i := 20) rfl rfl rfl U3 rfl <| .lssZ rfl rfl <| .pickF rfl rfl <| .move rfl <| .nil) ?_
 clear Hz Az; intro Az Hz
 refine bool_cases Hz (t := 18) rfl ?_ ?_
 · intro hb _; exact absurd hb (by simp; omega)
 clear Hz; intro _ Hz
 refine goCh Hz (.faZ 1 rfl U57 <| .loadB1Z m2 (i := 20) rfl rfl rfl U3 rfl <| .geqZ rfl rfl <| .pickF rfl rfl <| .move rfl <| .nil) ?_
 clear Hz Az; intro Az Hz
 refine bool_cases Hz (t := 23) rfl ?_ ?_
 · intro hb _; exact absurd hb (by simp; omega)
 clear Hz; intro _ Hz
 refine goCh Hz (.faZ 2 rfl U57 <| .loadB1Z m2 (i := 20) rfl rfl rfl U3 rfl <| .nil) ?_
 clear Hz Az; intro Az Hz
 refine st_ge Hz rfl rfl rfl rfl (fun K hK => ?_)
 refine e_call Hz Try.func61 rfl rfl rfl rfl (within_x _ _ (by omega)) ?_
 rintro e w33 ⟨rfl, hb33⟩
 have m34 := m2.later hb33
 clear m2
 clear hb33
 refine ⟨_, rfl, ?_⟩; clear Hz Az; intro Az Hz
 refine hK _ _ ?_; clear hK
 refine goCh Hz (.notZ rfl <| .pickF rfl rfl <| .move rfl <| .faZ 3 rfl U57 <| .loadB1Z m34 (i := 20) rfl rfl rfl U3 rfl <| .nil) ?_
 clear Hz Az; intro Az Hz
 refine st_ge Hz rfl rfl rfl rfl (fun K hK => ?_)
 refine e_call Hz Try.func61 rfl rfl rfl rfl (within_x _ _ (by omega)) ?_
 rintro e w41 ⟨rfl, hb41⟩
 have m42 := m34.later hb41
 clear m34
 clear hb41
 refine ⟨_, rfl, ?_⟩; clear Hz Az; intro Az Hz
 refine hK _ _ ?_; clear hK
 refine goCh Hz (.notZ rfl <| .pickF rfl rfl <| .move rfl <| .faZ 4 rfl U57 <| .loadB1Z m42 (i := 20) rfl rfl rfl U3 rfl <| .nil) ?_
 clear Hz Az; intro Az Hz
 refine st_ge Hz rfl rfl rfl rfl (fun K hK => ?_)
 refine e_call Hz Try.func61 rfl rfl rfl rfl (within_x _ _ (by omega)) ?_
 rintro e w49 ⟨rfl, hb49⟩
 have m50 := m42.later hb49
 clear m42
 clear hb49
 refine ⟨_, rfl, ?_⟩; clear Hz Az; intro Az Hz
 refine hK _ _ ?_; clear hK
 refine goCh Hz (.notZ rfl <| .pickF rfl rfl <| .move rfl <| .faZ 6 rfl U57 <| .loadB1Z m50 (i := 20) rfl rfl rfl U3 rfl <| .nil) ?_
 clear Hz Az; intro Az Hz
 refine st_ge Hz rfl rfl rfl rfl (fun K hK => ?_)
 refine e_call Hz Try.func61 rfl rfl rfl rfl (within_x _ _ (by omega)) ?_
 rintro e w57 ⟨rfl, hb57⟩
 have m58 := m50.later hb57
 clear m50
 clear hb57
 refine ⟨_, rfl, ?_⟩; clear Hz Az; intro Az Hz
 refine hK _ _ ?_; clear hK
 refine goCh Hz (.notZ rfl <| .pickF rfl rfl <| .move rfl <| .faZ 8 rfl U57 <| .loadB1Z m58 (i := 20) rfl rfl rfl U3 rfl <| .nil) ?_
 clear Hz Az; intro Az Hz
 refine st_ge Hz rfl rfl rfl rfl (fun K hK => ?_)
 refine e_call Hz Try.func61 rfl rfl rfl rfl (within_x _ _ (by omega)) ?_
 rintro e w65 ⟨rfl, hb65⟩
 have m66 := m58.later hb65
 clear m58
 clear hb65
 refine ⟨_, rfl, ?_⟩; clear Hz Az; intro Az Hz
 refine hK _ _ ?_; clear hK
 refine goCh Hz (.notZ rfl <| .pickF rfl rfl <| .move rfl <| .faZ 7 rfl U57 <| .loadB1Z m66 (i := 20) rfl rfl rfl U2 rfl <| .nil) ?_
 clear Hz Az; intro Az Hz
 refine st_ge Hz rfl rfl rfl rfl (fun K hK => ?_)
 refine e_call Hz Try.func61 rfl rfl rfl rfl (within_x _ _ (by omega)) ?_
 rintro e w73 ⟨rfl, hb73⟩
 have m74 := m66.later hb73
 clear m66
 clear hb73
 refine ⟨_, rfl, ?_⟩; clear Hz Az; intro Az Hz
 refine hK _ _ ?_; clear hK
 refine goCh Hz (.notZ rfl <| .pickF rfl rfl <| .move rfl <| .faZ 5 rfl U57 <| .loadB1Z m74 (i := 20) rfl rfl rfl U26 rfl <| .lenZ rfl U26 <| .gtrZ rfl rfl <| .pickF rfl rfl <| .move rfl <| .nil) ?_
 clear Hz Az; intro Az Hz
 refine bool_cases Hz (t := 65) rfl ?_ ?_
 · intro hb _; exact absurd hb (by simp; omega)
 clear Hz; intro _ Hz
 refine goCh Hz (.faZ 9 rfl U57 <| .loadB1Z m74 (i := 20) rfl rfl rfl U22 rfl <| .lenZ rfl U22 <| .gtrZ rfl rfl <| .pickF rfl rfl <| .nil) ?_
 clear Hz Az; intro Az Hz
 refine nl (hK2 _ _ ?_); clear hK2
 refine bool_cases Hz (t := 70) rfl ?_ ?_
 · intro hb _; exact absurd hb (by simp; omega)
 clear Hz; intro _ Hz
 refine wp_cond_false (Hz.ev (x := .tmp 70) rfl) ?_
 refine ss (hK1 _ _ ?_); clear hK1
 refine wp_seq_k (fun K3 hK3 => ?_)
 replace Hz : Has 125 [(1, _), (2, _)] Az := Hz.only [1, 2]
 refine regS Hz (.assign rfl <| .nil) ?_
 clear Hz Az; intro Az Hz
 refine wp_block ?_
 refine wp_loop_ghost (fun g a w => ∃ (k B : Nat), k ≤ place.length ∧ g = place.length - k ∧ Has 125 [(1, .pointer (some ⟨B, 0, none⟩)), (3, .int .i64 k)] a ∧ MemOk (cn w0) w0 [(9, .box B 57 [.int .i64 kd, .int .i64 vo, .int .i64 bl, .int .i64 sz, .int .i64 pe, .slice pp place.length cp, .int .i64 to, .int .i64 at0, .int .i64 ix, .slice pi items.length ci])] w) (place.length) ?_ ?_
 · exact ⟨0, _, Nat.zero_le _, rfl, Hz.only [1, 3], m74.ren [(9, 20)] (by decide)⟩
 clear Hz m74
 rintro g Az w94 ⟨k, B, hkl, hg, Hz, m94⟩
 refine wp_seq_k (fun K4 hK4 => ?_)
 refine regS Hz (.move rfl <| .fa 5 rfl U57 <| .lb m94 9 U26 rfl rfl rfl <| .len rfl U26 <| .lss rfl rfl <| .nil) ?_
 clear Hz Az; intro Az Hz
 refine bool_cases Hz (t := 75) rfl ?_ ?_
 ·
  clear Hz; intro hb100 Hz; try simp only [QQ, Qax] at hb100
  have hk : k < place.length := by omega
  have hpk := hpb k hk
  refine wp_cond_true (Hz.ev (x := .tmp 75) rfl) ?_
  refine ss (hK4 _ _ ?_); clear hK4
  refine wp_seq_k (fun K5 hK5 => ?_)
  refine wp_block ?_
  refine sr fun K6 hK6 => ?_
  refine goCh Hz (.fa 5 rfl U57 <| .lb m94 9 U26 rfl rfl rfl <| .move rfl <| .nil) ?_
  clear Hz Az; intro Az Hz
  obtain ⟨gx108, ox108, hp108, hl108, hrg108⟩ := h0.extN (k) hk
  cases hp108; clear hl108
  refine goCh Hz (.c rfl (fun _ h => y_idx h rfl rfl U26 fct9 (k) rfl hk) <| .loadAt1 (hrg108 m94 rfl) (q := 0) rfl rfl rfl U3 rfl <| .lss rfl rfl <| .move rfl <| .nil) ?_
  clear Hz Az; intro Az Hz
  refine bool_cases Hz (t := 84) rfl ?_ ?_
  · intro hb _; exact absurd hb (by rw [decide_eq_true_eq]; omega)
  clear Hz; intro _ Hz
  refine goCh Hz (.faZ 5 rfl U57 <| .loadB1Z m94 (i := 9) rfl rfl rfl U26 rfl <| .moveZ rfl <| .nil) ?_
  clear Hz Az; intro Az Hz
  obtain ⟨gx117, ox117, hp117, hl117, hrg117⟩ := h0.extN (k) hk
  cases hp117; clear hl117
  refine goCh Hz (.g rfl rfl rfl rfl (fun _ h => y_idx h rfl rfl U26 fct9 (k) rfl hk) <| .loadAt1Z (hrg117 m94 rfl) (q := 0) rfl rfl rfl U3 rfl <| .geqZ rfl rfl <| .pickF rfl rfl <| .nil) ?_
  clear Hz Az; intro Az Hz
  refine nl (hK6 _ _ ?_); clear hK6
  refine bool_cases Hz (t := 91) rfl ?_ ?_
  · intro hb _; exact absurd hb (by rw [decide_eq_true_eq]; omega)
  clear Hz; intro _ Hz
  refine wp_cond_false (Hz.ev (x := .tmp 91) rfl) ?_
  refine ss (hK5 _ _ ?_); clear hK5
  replace Hz : Has 125 [(1, _), (3, _)] Az := Hz.only [1, 3]
  refine wp_region_lit ?_
  refine goCh Hz (.move rfl <| .add rfl rfl (r := ((k + 1 : Nat) : Int)) (by rw [IntWalk.i64_in _ (by omega)]; omega) <| .assign rfl <| .nil) ?_
  clear Hz Az; intro Az Hz
  refine wpList_nil ?_
  show ∃ n', n' < _ ∧ _
  exact ⟨place.length - (k + 1), by omega, k + 1, _, by omega, rfl, Hz.only [1, 3], m94.only [9]⟩
 clear Hz; intro hb100 Hz; try simp only [QQ, Qax] at hb100
 refine wp_cond_false (Hz.ev (x := .tmp 75) rfl) ?_
 refine wp_exit ?_
 refine hK3 _ _ ?_; clear hK3
 refine wp_seq_k (fun K7 hK7 => ?_)
 refine regS Hz (.assign rfl <| .nil) ?_
 clear Hz Az; intro Az Hz
 refine wp_block ?_
 refine wp_loop_ghost (fun g a w => ∃ (k B : Nat), k ≤ items.length ∧ g = items.length - k ∧ Has 125 [(1, .pointer (some ⟨B, 0, none⟩)), (4, .int .i64 k)] a ∧ MemOk (cn w0) w0 [(9, .box B 57 [.int .i64 kd, .int .i64 vo, .int .i64 bl, .int .i64 sz, .int .i64 pe, .slice pp place.length cp, .int .i64 to, .int .i64 at0, .int .i64 ix, .slice pi items.length ci])] w) (items.length) ?_ ?_
 · exact ⟨0, _, Nat.zero_le _, rfl, Hz.only [1, 4], m94.ren [(9, 9)] (by decide)⟩
 clear Hz m94
 rintro g Az w128 ⟨k, B, hkl, hg, Hz, m128⟩
 refine wp_seq_k (fun K8 hK8 => ?_)
 refine regS Hz (.move rfl <| .fa 9 rfl U57 <| .lb m128 9 U22 rfl rfl rfl <| .len rfl U22 <| .lss rfl rfl <| .nil) ?_
 clear Hz Az; intro Az Hz
 refine bool_cases Hz (t := 96) rfl ?_ ?_
 ·
  clear Hz; intro hb134 Hz; try simp only [QQ, Qax] at hb134
  have hk : k < items.length := by omega
  obtain ⟨⟨xb, xd⟩, hes⟩ : ∃ e, items[k]? = some e := ⟨_, List.getElem?_eq_getElem hk⟩
  have hed := hok _ (List.mem_of_getElem? hes)
  dsimp only at hed
  refine wp_cond_true (Hz.ev (x := .tmp 96) rfl) ?_
  refine ss (hK8 _ _ ?_); clear hK8
  refine wp_seq_k (fun K9 hK9 => ?_)
  refine wp_block ?_
  refine sr fun K10 hK10 => ?_
  refine goCh Hz (.fa 9 rfl U57 <| .lb m128 9 U22 rfl rfl rfl <| .move rfl <| .nil) ?_
  clear Hz Az; intro Az Hz
  obtain ⟨gx142, ox142, vx142, hp142, hl142, hR142, hrg142⟩ := h1.extA (k) (r := [.v (.int .i64 xb), .ns .u8 xd]) (itD_get hes)
  cases hp142; clear hl142
  rcases hR142 with _ | ⟨hd142_0, _ | ⟨hd142_1, _ | _⟩⟩
  obtain rfl := hd142_0.v_out
  clear hd142_0
  obtain ⟨p143, c143, hv143, hw143⟩ := hd142_1.ns_shape; subst hv143
  refine goCh Hz (.c rfl (fun _ h => y_idx h rfl rfl U22 fct10 (k) rfl hk) <| .fieldAddrQ 0 rfl U29 rfl (s := 0) (by kernel_rfl) rfl <| .loadAt1 (hrg142 m128 rfl) (q := 0) rfl rfl rfl U3 rfl <| .lss rfl rfl <| .move rfl <| .nil) ?_
  clear Hz Az; intro Az Hz
  refine bool_cases Hz (t := 106) rfl ?_ ?_
  · intro hb _; exact absurd hb (by simp; omega)
  clear Hz; intro _ Hz
  refine goCh Hz (.faZ 9 rfl U57 <| .loadB1Z m128 (i := 9) rfl rfl rfl U22 rfl <| .moveZ rfl <| .nil) ?_
  clear Hz Az; intro Az Hz
  obtain ⟨gx153, ox153, vx153, hp153, hl153, hR153, hrg153⟩ := h1.extA (k) (r := [.v (.int .i64 xb), .ns .u8 xd]) (itD_get hes)
  cases hp153; clear hl153
  rcases hR153 with _ | ⟨hd153_0, _ | ⟨hd153_1, _ | _⟩⟩
  obtain rfl := hd153_0.v_out
  clear hd153_0
  obtain ⟨p154, c154, hv154, hw154⟩ := hd153_1.ns_shape; subst hv154
  refine goCh Hz (.g rfl rfl rfl rfl (fun _ h => y_idx h rfl rfl U22 fct10 (k) rfl hk) <| .fieldAddrQZ 0 rfl U29 rfl (s := 0) (by kernel_rfl) rfl <| .loadAt1Z (hrg153 m128 rfl) (q := 0) rfl rfl rfl U3 rfl <| .geqZ rfl rfl <| .pickF rfl rfl <| .move rfl <| .nil) ?_
  clear Hz Az; intro Az Hz
  refine bool_cases Hz (t := 115) rfl ?_ ?_
  · intro hb _; exact absurd hb (by simp; omega)
  clear Hz; intro _ Hz
  refine goCh Hz (.faZ 9 rfl U57 <| .loadB1Z m128 (i := 9) rfl rfl rfl U22 rfl <| .moveZ rfl <| .nil) ?_
  clear Hz Az; intro Az Hz
  obtain ⟨gx165, ox165, vx165, hp165, hl165, hR165, hrg165⟩ := h1.extA (k) (r := [.v (.int .i64 xb), .ns .u8 xd]) (itD_get hes)
  cases hp165; clear hl165
  rcases hR165 with _ | ⟨hd165_0, _ | ⟨hd165_1, _ | _⟩⟩
  obtain rfl := hd165_0.v_out
  clear hd165_0
  obtain ⟨p166, c166, hv166, hw166⟩ := hd165_1.ns_shape; subst hv166
  refine goCh Hz (.g rfl rfl rfl rfl (fun _ h => y_idx h rfl rfl U22 fct10 (k) rfl hk) <| .fieldAddrQZ 1 rfl U29 rfl (s := 0) (by kernel_rfl) rfl <| .loadAt1Z (hrg165 m128 rfl) (q := 1) rfl rfl rfl U25 rfl <| .lenZ rfl U25 <| .gtrZ rfl rfl <| .pickF rfl rfl <| .nil) ?_
  clear Hz Az; intro Az Hz
  refine nl (hK10 _ _ ?_); clear hK10
  refine bool_cases Hz (t := 124) rfl ?_ ?_
  · intro hb _; exact absurd hb (by simp; omega)
  clear Hz; intro _ Hz
  refine wp_cond_false (Hz.ev (x := .tmp 124) rfl) ?_
  refine ss (hK9 _ _ ?_); clear hK9
  replace Hz : Has 125 [(1, _), (4, _)] Az := Hz.only [1, 4]
  refine wp_region_lit ?_
  refine goCh Hz (.move rfl <| .add rfl rfl (r := ((k + 1 : Nat) : Int)) (by rw [IntWalk.i64_in _ (by omega)]; omega) <| .assign rfl <| .nil) ?_
  clear Hz Az; intro Az Hz
  refine wpList_nil ?_
  show ∃ n', n' < _ ∧ _
  exact ⟨items.length - (k + 1), by omega, k + 1, _, by omega, rfl, Hz.only [1, 4], m128.only [9]⟩
 clear Hz; intro hb134 Hz; try simp only [QQ, Qax] at hb134
 refine wp_cond_false (Hz.ev (x := .tmp 96) rfl) ?_
 refine wp_exit ?_
 refine hK7 _ _ ?_; clear hK7
 refine regS Hz (.assign rfl <| .nil) ?_
 clear Hz Az; intro Az Hz
 refine wp_ret ?_
 try dsimp only [Exit.then, Exit.inBlock]
 refine (ret1 (fn := Try.f39) Hz rfl rfl ?_)
 exact ⟨rfl, m128.below⟩
theorem rputCmd_x (kd vo bl sz pe to at0 ix : Int) (place : List Int) (items : List (Int × List Int)) (pp pi : Option Addr) (cp ni ci : Nat) (w0 : World) (h0 : Rd (fun _ => True) w0 (.slice pp place.length cp) (.ns .i64 place)) (h1 : Rd (fun _ => True) w0 (.slice pi ni ci) (.l 2 (items.map itD))) (hc : CmdOk kd vo bl sz pe to at0 ix place items) :
   Calls Try.prog 18 #[.agg #[.int .i64 kd, .int .i64 vo, .int .i64 bl, .int .i64 sz, .int .i64 pe, .slice pp place.length cp, .int .i64 to, .int .i64 at0, .int .i64 ix, .slice pi ni ci]] w0 fun e w' => ∃ (p : Option Addr) (c : Nat), e = .returned (.tuple #[.slice p (cmdE kd vo bl sz pe to at0 ix place items).length c, .int .i64 0]) ∧ Rd (New w0) w' (.slice p (cmdE kd vo bl sz pe to at0 ix place items).length c) (.ns .u8 (cmdE kd vo bl sz pe to at0 ix place items)) ∧ Below w0.heap.size w0 w' := by
 obtain rfl : ni = items.length := by obtain ⟨pq, c9, hv, _⟩ := h1.l_shape; injection hv with _ e2 _; rw [List.length_map] at e2; exact e2
 rw [show cmdE kd vo bl sz pe to at0 ix place items = (encs [kd, vo, bl, sz, pe, to, at0, ix] ++ encs ((place.length : Int) :: place)) ++ (enc items.length ++ itemsE items) from (List.append_assoc _ _ _).symm]
 refine ent1 Try.func18 rfl Try.ntmps18 fun Az Hz => ?_
 have m0 := MemOk.start (fun _ => False) w0
 refine sr fun K0 hK0 => ?_
 refine wpList_plain rfl (fun K hK => ?_)
 refine e_box Hz m0 20 (cs := [_, _, _, _, _, _, _, _, _, _]) rfl rfl rfl ?_
 clear Hz Az m0; intro g1 Az w2 Hz m2 hB2 hg2
 clear hB2 hg2
 refine hK _ _ ?_; clear hK
 refine goCh Hz (.assign rfl <| .assign rfl <| .nil) ?_
 clear Hz Az; intro Az Hz
 refine nl (hK0 _ _ ?_); clear hK0
 refine wp_seq_k (fun K1 hK1 => ?_)
 refine sr fun K2 hK2 => ?_
 refine goCh Hz (.loadBR m2 (i := 20) rfl rfl U57 rfl fct3 (by simp) (by dsimp only [List.drop, List.take] <;> rfl) .nil) ?_
 clear Hz Az; intro Az Hz
 refine wpList_plain rfl (fun K hK => ?_)
 refine e_call Hz Try.func39 rfl rfl rfl rfl (rcmd_yes _ _ _ _ _ _ _ _ place items _ _ _ _ _ _ ((h0.now' m2 rfl).any) ((h1.now' m2 rfl).any) hc) ?_
 rintro e w7 ⟨rfl, hb7⟩
 have m8 := m2.later hb7
 clear m2
 clear hb7
 refine ⟨_, rfl, ?_⟩; clear Hz Az; intro Az Hz
 refine hK _ _ ?_; clear hK
 refine goCh Hz (.not rfl .nil) ?_
 clear Hz Az; intro Az Hz
 refine nl (hK2 _ _ ?_); clear hK2
 refine wp_cond_false (Hz.ev (x := .tmp 7) rfl) ?_
 refine ss (hK1 _ _ ?_); clear hK1
 refine sr fun K3 hK3 => ?_
 refine goCh Hz (.fa 0 rfl U57 <| .lb m8 20 U3 rfl rfl rfl <| .fa 1 rfl U57 <| .lb m8 20 U3 rfl rfl rfl <| .fa 2 rfl U57 <| .lb m8 20 U3 rfl rfl rfl <| .fa 3 rfl U57 <| .lb m8 20 U3 rfl rfl rfl <| .fa 4 rfl U57 <| .lb m8 20 U3 rfl rfl rfl <| .fa 6 rfl U57 <| .lb m8 20 U3 rfl rfl rfl <| .fa 7 rfl U57 <| .lb m8 20 U2 rfl rfl rfl <| .fa 8 rfl U57 <| .lb m8 20 U3 rfl rfl rfl <| .nil) ?_
 clear Hz Az; intro Az Hz
 refine wpList_plain rfl (fun K hK => ?_)
 refine e_litN Hz m8 21 (k := .i64) rfl rfl U46 fct12 rfl rfl rfl rfl ?_
 clear Hz Az m8; intro g43 Az w44 Hz m44
 refine hK _ _ ?_; clear hK
 have m45 := m44.freezeN 21 rfl; clear m44
 refine wpList_plain rfl (fun K hK => ?_)
 refine e_call Hz Try.func40 rfl rfl rfl rfl (rnums16x [kd, vo, bl, sz, pe, to, at0, ix] _ _ _ ((m45.rd (i := 21) rfl).any) (by simp) hc.n63) ?_
 rintro e w46 ⟨p46, c46, rfl, ho46, hb46⟩
 have m47 := m45.newN 22 hb46 ho46
 clear m45
 clear hb46 ho46
 refine ⟨_, rfl, ?_⟩; clear Hz Az; intro Az Hz
 refine hK _ _ ?_; clear hK
 refine goCh Hz (.assign rfl .nil) ?_
 clear Hz Az; intro Az Hz
 refine nl (hK3 _ _ ?_); clear hK3
 refine wp_seq_k (fun K4 hK4 => ?_)
 replace Hz : Has 35 [(1, _), (2, _), (3, _), (4, _)] Az := Hz.only [1, 2, 3, 4]
 have m51 : MemOk _ _ [(20, _), (21, _), (22, _)] _ := m47.only [20, 21, 22]; clear m47
 refine region_p 11 (B := [(20, _)]) (m51.to ⟨il, trivial⟩) m51 (by kernel_rfl) (fun w52 hP52 m52 => ?_); clear m51
 refine goR hP52 [0, 1, 2, 5, 6] [2, 6] 5 0 103 Hz (m52.to ⟨il, trivial⟩) (.move rfl <| .fa 5 rfl U57 <| .lb hh 20 U26 rfl rfl rfl <| .fa 9 rfl U57 <| .lb hh 20 U22 rfl rfl rfl <| .nil) ?_
 clear Hz Az; intro Az Hz
 refine stepE_only 3 rfl (by kernel_rfl) rfl (fun K hK => ?_)
 refine e_call Hz Try.func41 rfl rfl rfl rfl (rplace_x place _ _ _ ((h0.now' m52 rfl).any) (by have := hc.pl; omega) (fun k hk => by have := hc.pb k hk; omega)) ?_
 rintro e w58 ⟨p58, c58, rfl, ho58, hb58⟩
 have m59 := m52.newN 23 hb58 ho58
 clear m52
 clear hb58 ho58
 refine ⟨_, rfl, ?_⟩; clear Hz Az; intro Az Hz
 refine hK _ _ (m59.to ⟨il, trivial⟩) ?_; clear hK K
 refine stepE_only 4 rfl (by kernel_rfl) rfl (fun K hK => ?_)
 refine e_appN Hz m59 22 rfl rfl rfl (m59.numsO (i := 23) rfl) U25 fct13 (by decide) (by have := hc.lens; omega) rfl ?_
 clear Hz Az m59; intro p61 c61 Az w62 Hz m62
 refine hK _ _ (m62.to ⟨il, trivial⟩) ?_; clear hK K
 refine stepE_only 7 rfl (by kernel_rfl) rfl (fun K hK => ?_)
 refine e_call Hz Try.func42 rfl rfl rfl rfl (rputItems_x items _ _ _ _ ((h1.now' m62 rfl).any) (by have := hc.il; omega) (fun e he => by have := hc.ib e he; omega)) ?_
 rintro e w63 ⟨p63, c63, rfl, ho63, hb63⟩
 have m64 := m62.newN 24 hb63 ho63
 clear m62
 clear hb63 ho63
 refine ⟨_, rfl, ?_⟩; clear Hz Az; intro Az Hz
 refine hK _ _ (m64.to ⟨il, trivial⟩) ?_; clear hK K
 refine stepE_only 8 rfl (by kernel_rfl) rfl (fun K hK => ?_)
 refine e_appN Hz m64 22 rfl rfl rfl (m64.numsO (i := 24) rfl) U25 fct13 (by decide) (by have := hc.lens; simp only [List.length_append] at *; omega) rfl ?_
 clear Hz Az m64; intro p66 c66 Az w67 Hz m67
 refine hK _ _ (m67.to ⟨il, trivial⟩) ?_; clear hK K
 refine goA hP52 [9, 10] 2 511 2047 Hz (m67.to ⟨il, trivial⟩) (.assign rfl <| .assign rfl <| .nil) ?_
 clear Hz Az; intro Az Hz
 refine wpAnyE_done (by kernel_rfl) ?_ _
 refine hK4 _ _ ?_; clear hK4
 refine wp_ret ?_
 try dsimp only [Exit.then, Exit.inBlock]
 refine (ret2 (fn := Try.f18) Hz rfl rfl rfl ?_)
 have m70 := m67.freezeN 22 rfl; clear m67
 exact ⟨_, _, rfl, m70.outF (i := 22) rfl, m70.below⟩
theorem rreadCmd_x (X : Cx) (kd vo bl sz pe to at0 ix : Int) (place : List Int) (items : List (Int × List Int)) (p : Option Addr) (c : Nat) (w0 : World) (hc : CmdOk kd vo bl sz pe to at0 ix place items) (m0 : MemOk X w0 [(1, .dat (.slice p (cmdE kd vo bl sz pe to at0 ix place items).length c) (.ns .u8 (cmdE kd vo bl sz pe to at0 ix place items)))] w0) :
   Calls Try.prog 43 #[.slice p (cmdE kd vo bl sz pe to at0 ix place items).length c] w0 fun e w' => ∃ (pp : Option Addr) (cp : Nat) (pi : Option Addr) (ci : Nat), e = .returned (.tuple #[.agg #[.int .i64 kd, .int .i64 vo, .int .i64 bl, .int .i64 sz, .int .i64 pe, .slice pp place.length cp, .int .i64 to, .int .i64 at0, .int .i64 ix, .slice pi items.length ci], .int .i64 0]) ∧ MemOk X w0 [(1, .dat (.slice pp place.length cp) (.ns .i64 place)), (2, .dat (.slice pi (items.map itD).length ci) (.l 2 (items.map itD)))] w' := by
 refine ent1 Try.func43 rfl Try.ntmps43 fun Az Hz => ?_
 obtain ⟨T9, hT9⟩ : ∃ x, encs ((place.length : Int) :: place) ++ (enc items.length ++ itemsE items) = x := ⟨_, rfl⟩
 have hE : cmdE kd vo bl sz pe to at0 ix place items = (encs [kd, vo, bl, sz, pe, to, at0, ix] ++ T9) := by rw [← hT9]; rfl
 have hl0 : ((encs [kd, vo, bl, sz, pe, to, at0, ix] ++ T9)).length ≤ 1000000 := by rw [← hE]; have := hc.len; omega
 have hb0 : BytesL ((encs [kd, vo, bl, sz, pe, to, at0, ix] ++ T9)) := by rw [← hE]; exact hc.bytes
 rw [hE] at m0 Hz
 refine sr fun K0 hK0 => ?_
 refine wpList_plain rfl (fun K hK => ?_)
 refine e_alloc Hz m0 20 fct17 rfl ?_
 clear Hz Az m0; intro g1 Az w2 Hz m2 hB2 hg2
 clear hB2 hg2
 refine hK _ _ ?_; clear hK
 refine goCh Hz (.assign rfl .nil) ?_
 clear Hz Az; intro Az Hz
 refine nl (hK0 _ _ ?_); clear hK0
 refine sr fun K1 hK1 => ?_
 refine goCh Hz (.move rfl <| .build rfl fct18 fl115xrC rfl (by dsimp only [setL, List.set] <;> rfl) <| .nil) ?_
 clear Hz Az; intro Az Hz
 refine wpList_plain rfl (fun K hK => ?_)
 refine e_box Hz m2 21 (cs := [_, _]) rfl rfl rfl ?_
 clear Hz Az m2; intro g8 Az w9 Hz m9 hB9 hg9
 clear hB9 hg9
 refine hK _ _ ?_; clear hK
 refine goCh Hz (.assign rfl .nil) ?_
 clear Hz Az; intro Az Hz
 refine nl (hK1 _ _ ?_); clear hK1
 refine sr fun K2 hK2 => ?_
 refine wpList_plain rfl (fun K hK => ?_)
 refine e_alloc Hz m9 22 fct17 rfl ?_
 clear Hz Az m9; intro g11 Az w12 Hz m12 hB12 hg12
 clear hB12 hg12
 refine hK _ _ ?_; clear hK
 refine nl (hK2 _ _ ?_); clear hK2
 refine sr fun K3 hK3 => ?_
 refine goCh Hz (.move rfl .nil) ?_
 clear Hz Az; intro Az Hz
 have m15 := m12.dat 23 rfl (m12.rd (i := 1) rfl); clear m12
 refine wpList_plain rfl (fun K hK => ?_)
 refine e_call Hz Try.func65 rfl rfl rfl rfl (rnum_ok _ _ _ 8 _ _ _ kd (encs [vo, bl, sz, pe, to, at0, ix] ++ T9) hl0 hb0 (by rw [encs_cons, List.append_assoc]) (by decide) (by have := hc.kd; have := hc.vo; have := hc.t40; omega) (m15.into [(1, 21), (2, 23)] (by decide) rfl)) ?_
 rintro e w16 ⟨p16, c16, rfl, hm16⟩
 have mx16 := m15.back hm16 [(21, 1), (24, 2)] (by decide); clear hm16 m15
 have m16 : MemOk _ _ [(21, _), (24, _), (1, _), (20, _), (22, _)] _ := mx16.only [21, 24, 1, 20, 22]; clear mx16
 refine ⟨_, rfl, ?_⟩; clear Hz Az; intro Az Hz
 refine hK _ _ ?_; clear hK
 have hl1 : ((encs [vo, bl, sz, pe, to, at0, ix] ++ T9)).length ≤ 1000000 := by have h9 := hl0; rw [encs_cons, List.append_assoc, List.length_append] at h9; omega
 have hb1 : BytesL ((encs [vo, bl, sz, pe, to, at0, ix] ++ T9)) := bytes_r (by have h9 := hb0; rw [encs_cons, List.append_assoc] at h9; exact h9)
 refine goCh Hz (.conv rfl U111 U3 (by have := hc.kd; have := hc.vo; have := hc.t40; exact IntWalk.i64_in _ (by omega)) <| .fa 0 rfl U57 <| .nil) ?_
 clear Hz Az; intro Az Hz
 refine wpList_plain rfl (fun K hK => ?_)
 refine e_store1 Hz m16 22 rfl rfl rfl rfl rfl fct9 (by dsimp only [List.set] <;> rfl) ?_
 clear m16; intro w20 m20 hB20
 clear hB20
 refine hK _ _ ?_; clear hK
 refine nl (hK3 _ _ ?_); clear hK3
 replace Hz : Has 72 [(0, _), (2, _), (3, _), (4, _), (5, _)] Az := Hz.only [0, 2, 3, 4, 5]
 refine sr fun K4 hK4 => ?_
 refine goCh Hz (.move rfl .nil) ?_
 clear Hz Az; intro Az Hz
 refine wpList_plain rfl (fun K hK => ?_)
 refine e_call Hz Try.func65 rfl rfl rfl rfl (rnum_ok _ _ _ 8 _ _ _ vo (encs [bl, sz, pe, to, at0, ix] ++ T9) hl1 hb1 (by rw [encs_cons, List.append_assoc]) (by decide) (by have := hc.kd; have := hc.vo; have := hc.t40; omega) (m20.into [(1, 21), (2, 24)] (by decide) rfl)) ?_
 rintro e w24 ⟨p24, c24, rfl, hm24⟩
 have mx24 := m20.back hm24 [(21, 1), (25, 2)] (by decide); clear hm24 m20
 have m24 : MemOk _ _ [(21, _), (25, _), (1, _), (20, _), (22, _)] _ := mx24.only [21, 25, 1, 20, 22]; clear mx24
 refine ⟨_, rfl, ?_⟩; clear Hz Az; intro Az Hz
 refine hK _ _ ?_; clear hK
 have hl2 : ((encs [bl, sz, pe, to, at0, ix] ++ T9)).length ≤ 1000000 := by have h9 := hl1; rw [encs_cons, List.append_assoc, List.length_append] at h9; omega
 have hb2 : BytesL ((encs [bl, sz, pe, to, at0, ix] ++ T9)) := bytes_r (by have h9 := hb1; rw [encs_cons, List.append_assoc] at h9; exact h9)
 refine goCh Hz (.conv rfl U111 U3 (by have := hc.kd; have := hc.vo; have := hc.t40; exact IntWalk.i64_in _ (by omega)) <| .fa 1 rfl U57 <| .nil) ?_
 clear Hz Az; intro Az Hz
 refine wpList_plain rfl (fun K hK => ?_)
 refine e_store1 Hz m24 22 rfl rfl rfl rfl rfl fct9 (by dsimp only [List.set] <;> rfl) ?_
 clear m24; intro w28 m28 hB28
 clear hB28
 refine hK _ _ ?_; clear hK
 refine nl (hK4 _ _ ?_); clear hK4
 refine sr fun K5 hK5 => ?_
 refine goCh Hz (.move rfl .nil) ?_
 clear Hz Az; intro Az Hz
 refine wpList_plain rfl (fun K hK => ?_)
 refine e_call Hz Try.func65 rfl rfl rfl rfl (rnum_ok _ _ _ 1099511627776 _ _ _ bl (encs [sz, pe, to, at0, ix] ++ T9) hl2 hb2 (by rw [encs_cons, List.append_assoc]) (by decide) (by have := hc.kd; have := hc.vo; have := hc.t40; omega) (m28.into [(1, 21), (2, 25)] (by decide) rfl)) ?_
 rintro e w31 ⟨p31, c31, rfl, hm31⟩
 have mx31 := m28.back hm31 [(21, 1), (26, 2)] (by decide); clear hm31 m28
 have m31 : MemOk _ _ [(21, _), (26, _), (1, _), (20, _), (22, _)] _ := mx31.only [21, 26, 1, 20, 22]; clear mx31
 refine ⟨_, rfl, ?_⟩; clear Hz Az; intro Az Hz
 refine hK _ _ ?_; clear hK
 have hl3 : ((encs [sz, pe, to, at0, ix] ++ T9)).length ≤ 1000000 := by have h9 := hl2; rw [encs_cons, List.append_assoc, List.length_append] at h9; omega
 have hb3 : BytesL ((encs [sz, pe, to, at0, ix] ++ T9)) := bytes_r (by have h9 := hb2; rw [encs_cons, List.append_assoc] at h9; exact h9)
 refine goCh Hz (.conv rfl U111 U3 (by have := hc.kd; have := hc.vo; have := hc.t40; exact IntWalk.i64_in _ (by omega)) <| .fa 2 rfl U57 <| .nil) ?_
 clear Hz Az; intro Az Hz
 refine wpList_plain rfl (fun K hK => ?_)
 refine e_store1 Hz m31 22 rfl rfl rfl rfl rfl fct9 (by dsimp only [List.set] <;> rfl) ?_
 clear m31; intro w35 m35 hB35
 clear hB35
 refine hK _ _ ?_; clear hK
 refine nl (hK5 _ _ ?_); clear hK5
 replace Hz : Has 72 [(0, _), (2, _), (3, _), (4, _), (5, _)] Az := Hz.only [0, 2, 3, 4, 5]
 refine sr fun K6 hK6 => ?_
 refine goCh Hz (.move rfl .nil) ?_
 clear Hz Az; intro Az Hz
 refine wpList_plain rfl (fun K hK => ?_)
 refine e_call Hz Try.func65 rfl rfl rfl rfl (rnum_ok _ _ _ 1099511627776 _ _ _ sz (encs [pe, to, at0, ix] ++ T9) hl3 hb3 (by rw [encs_cons, List.append_assoc]) (by decide) (by have := hc.kd; have := hc.vo; have := hc.t40; omega) (m35.into [(1, 21), (2, 26)] (by decide) rfl)) ?_
 rintro e w39 ⟨p39, c39, rfl, hm39⟩
 have mx39 := m35.back hm39 [(21, 1), (27, 2)] (by decide); clear hm39 m35
 have m39 : MemOk _ _ [(21, _), (27, _), (1, _), (20, _), (22, _)] _ := mx39.only [21, 27, 1, 20, 22]; clear mx39
 refine ⟨_, rfl, ?_⟩; clear Hz Az; intro Az Hz
 refine hK _ _ ?_; clear hK
 have hl4 : ((encs [pe, to, at0, ix] ++ T9)).length ≤ 1000000 := by have h9 := hl3; rw [encs_cons, List.append_assoc, List.length_append] at h9; omega
 have hb4 : BytesL ((encs [pe, to, at0, ix] ++ T9)) := bytes_r (by have h9 := hb3; rw [encs_cons, List.append_assoc] at h9; exact h9)
 refine goCh Hz (.conv rfl U111 U3 (by have := hc.kd; have := hc.vo; have := hc.t40; exact IntWalk.i64_in _ (by omega)) <| .fa 3 rfl U57 <| .nil) ?_
 clear Hz Az; intro Az Hz
 refine wpList_plain rfl (fun K hK => ?_)
 refine e_store1 Hz m39 22 rfl rfl rfl rfl rfl fct9 (by dsimp only [List.set] <;> rfl) ?_
 clear m39; intro w43 m43 hB43
 clear hB43
 refine hK _ _ ?_; clear hK
 refine nl (hK6 _ _ ?_); clear hK6
 refine sr fun K7 hK7 => ?_
 refine goCh Hz (.move rfl .nil) ?_
 clear Hz Az; intro Az Hz
 refine wpList_plain rfl (fun K hK => ?_)
 refine e_call Hz Try.func65 rfl rfl rfl rfl (rnum_ok _ _ _ 1099511627776 _ _ _ pe (encs [to, at0, ix] ++ T9) hl4 hb4 (by rw [encs_cons, List.append_assoc]) (by decide) (by have := hc.kd; have := hc.vo; have := hc.t40; omega) (m43.into [(1, 21), (2, 27)] (by decide) rfl)) ?_
 rintro e w46 ⟨p46, c46, rfl, hm46⟩
 have mx46 := m43.back hm46 [(21, 1), (28, 2)] (by decide); clear hm46 m43
 have m46 : MemOk _ _ [(21, _), (28, _), (1, _), (20, _), (22, _)] _ := mx46.only [21, 28, 1, 20, 22]; clear mx46
 refine ⟨_, rfl, ?_⟩; clear Hz Az; intro Az Hz
 refine hK _ _ ?_; clear hK
 have hl5 : ((encs [to, at0, ix] ++ T9)).length ≤ 1000000 := by have h9 := hl4; rw [encs_cons, List.append_assoc, List.length_append] at h9; omega
 have hb5 : BytesL ((encs [to, at0, ix] ++ T9)) := bytes_r (by have h9 := hb4; rw [encs_cons, List.append_assoc] at h9; exact h9)
 refine goCh Hz (.conv rfl U111 U3 (by have := hc.kd; have := hc.vo; have := hc.t40; exact IntWalk.i64_in _ (by omega)) <| .fa 4 rfl U57 <| .nil) ?_
 clear Hz Az; intro Az Hz
 refine wpList_plain rfl (fun K hK => ?_)
 refine e_store1 Hz m46 22 rfl rfl rfl rfl rfl fct9 (by dsimp only [List.set] <;> rfl) ?_
 clear m46; intro w50 m50 hB50
 clear hB50
 refine hK _ _ ?_; clear hK
 refine nl (hK7 _ _ ?_); clear hK7
 replace Hz : Has 72 [(0, _), (2, _), (3, _), (4, _), (5, _)] Az := Hz.only [0, 2, 3, 4, 5]
 refine sr fun K8 hK8 => ?_
 refine goCh Hz (.move rfl .nil) ?_
 clear Hz Az; intro Az Hz
 refine wpList_plain rfl (fun K hK => ?_)
 refine e_call Hz Try.func65 rfl rfl rfl rfl (rnum_ok _ _ _ 1099511627776 _ _ _ to (encs [at0, ix] ++ T9) hl5 hb5 (by rw [encs_cons, List.append_assoc]) (by decide) (by have := hc.kd; have := hc.vo; have := hc.t40; omega) (m50.into [(1, 21), (2, 28)] (by decide) rfl)) ?_
 rintro e w54 ⟨p54, c54, rfl, hm54⟩
 have mx54 := m50.back hm54 [(21, 1), (29, 2)] (by decide); clear hm54 m50
 have m54 : MemOk _ _ [(21, _), (29, _), (1, _), (20, _), (22, _)] _ := mx54.only [21, 29, 1, 20, 22]; clear mx54
 refine ⟨_, rfl, ?_⟩; clear Hz Az; intro Az Hz
 refine hK _ _ ?_; clear hK
 have hl6 : ((encs [at0, ix] ++ T9)).length ≤ 1000000 := by have h9 := hl5; rw [encs_cons, List.append_assoc, List.length_append] at h9; omega
 have hb6 : BytesL ((encs [at0, ix] ++ T9)) := bytes_r (by have h9 := hb5; rw [encs_cons, List.append_assoc] at h9; exact h9)
 refine goCh Hz (.conv rfl U111 U3 (by have := hc.kd; have := hc.vo; have := hc.t40; exact IntWalk.i64_in _ (by omega)) <| .fa 6 rfl U57 <| .nil) ?_
 clear Hz Az; intro Az Hz
 refine wpList_plain rfl (fun K hK => ?_)
 refine e_store1 Hz m54 22 rfl rfl rfl rfl rfl fct9 (by dsimp only [List.set] <;> rfl) ?_
 clear m54; intro w58 m58 hB58
 clear hB58
 refine hK _ _ ?_; clear hK
 refine nl (hK8 _ _ ?_); clear hK8
 refine sr fun K9 hK9 => ?_
 refine goCh Hz (.move rfl .nil) ?_
 clear Hz Az; intro Az Hz
 refine wpList_plain rfl (fun K hK => ?_)
 refine e_call Hz Try.func65 rfl rfl rfl rfl (rnum_ok _ _ _ 1099511627776 _ _ _ at0 (encs [ix] ++ T9) hl6 hb6 (by rw [encs_cons, List.append_assoc]) (by decide) (by have := hc.kd; have := hc.vo; have := hc.t40; omega) (m58.into [(1, 21), (2, 29)] (by decide) rfl)) ?_
 rintro e w61 ⟨p61, c61, rfl, hm61⟩
 have mx61 := m58.back hm61 [(21, 1), (30, 2)] (by decide); clear hm61 m58
 have m61 : MemOk _ _ [(21, _), (30, _), (1, _), (20, _), (22, _)] _ := mx61.only [21, 30, 1, 20, 22]; clear mx61
 refine ⟨_, rfl, ?_⟩; clear Hz Az; intro Az Hz
 refine hK _ _ ?_; clear hK
 have hl7 : ((encs [ix] ++ T9)).length ≤ 1000000 := by have h9 := hl6; rw [encs_cons, List.append_assoc, List.length_append] at h9; omega
 have hb7 : BytesL ((encs [ix] ++ T9)) := bytes_r (by have h9 := hb6; rw [encs_cons, List.append_assoc] at h9; exact h9)
 refine goCh Hz (.conv rfl U111 U2 (by have := hc.kd; have := hc.vo; have := hc.t40; exact IntWalk.i64_in _ (by omega)) <| .fa 7 rfl U57 <| .nil) ?_
 clear Hz Az; intro Az Hz
 refine wpList_plain rfl (fun K hK => ?_)
 refine e_store1 Hz m61 22 rfl rfl rfl rfl rfl fct14 (by dsimp only [List.set] <;> rfl) ?_
 clear m61; intro w65 m65 hB65
 clear hB65
 refine hK _ _ ?_; clear hK
 refine nl (hK9 _ _ ?_); clear hK9
 replace Hz : Has 72 [(0, _), (2, _), (3, _), (4, _), (5, _)] Az := Hz.only [0, 2, 3, 4, 5]
 refine sr fun K10 hK10 => ?_
 refine goCh Hz (.move rfl .nil) ?_
 clear Hz Az; intro Az Hz
 refine wpList_plain rfl (fun K hK => ?_)
 refine e_call Hz Try.func65 rfl rfl rfl rfl (rnum_ok _ _ _ 1099511627776 _ _ _ ix T9 hl7 hb7 (by rw [encs_one]) (by decide) (by have := hc.kd; have := hc.vo; have := hc.t40; omega) (m65.into [(1, 21), (2, 30)] (by decide) rfl)) ?_
 rintro e w69 ⟨p69, c69, rfl, hm69⟩
 have mx69 := m65.back hm69 [(21, 1), (31, 2)] (by decide); clear hm69 m65
 have m69 : MemOk _ _ [(21, _), (31, _), (1, _), (20, _), (22, _)] _ := mx69.only [21, 31, 1, 20, 22]; clear mx69
 refine ⟨_, rfl, ?_⟩; clear Hz Az; intro Az Hz
 refine hK _ _ ?_; clear hK
 have hl8 : (T9).length ≤ 1000000 := by have h9 := hl7; rw [encs_one, List.length_append] at h9; omega
 have hb8 : BytesL (T9) := bytes_r (by have h9 := hb7; rw [encs_one] at h9; exact h9)
 refine goCh Hz (.conv rfl U111 U3 (by have := hc.kd; have := hc.vo; have := hc.t40; exact IntWalk.i64_in _ (by omega)) <| .fa 8 rfl U57 <| .nil) ?_
 clear Hz Az; intro Az Hz
 refine wpList_plain rfl (fun K hK => ?_)
 refine e_store1 Hz m69 22 rfl rfl rfl rfl rfl fct9 (by dsimp only [List.set] <;> rfl) ?_
 clear m69; intro w73 m73 hB73
 clear hB73
 refine hK _ _ ?_; clear hK
 refine nl (hK10 _ _ ?_); clear hK10
 refine sr fun K11 hK11 => ?_
 refine goCh Hz (.move rfl .nil) ?_
 clear Hz Az; intro Az Hz
 refine wpList_plain rfl (fun K hK => ?_)
 refine e_call Hz Try.func66 rfl rfl rfl rfl (rtakePlace_x _ _ _ _ _ _ place (enc items.length ++ itemsE items) hl8 hb8 (by rw [← hT9, encs_cons, List.append_assoc]) hc.pl (fun k hk => by have := hc.pb k hk; omega) (m73.into [(1, 21), (2, 31)] (by decide) rfl)) ?_
 rintro e w76 ⟨p76, c76, p376, c376, rfl, hm76⟩
 have mx76 := m73.back hm76 [(21, 1), (32, 2), (33, 3)] (by decide); clear hm76 m73
 have m76 : MemOk _ _ [(21, _), (32, _), (33, _), (1, _), (20, _), (22, _)] _ := mx76.only [21, 32, 33, 1, 20, 22]; clear mx76
 refine ⟨_, rfl, ?_⟩; clear Hz Az; intro Az Hz
 refine hK _ _ ?_; clear hK
 have hl9 : (enc items.length ++ itemsE items).length ≤ 1000000 := by have h9 := hl8; rw [← hT9, List.length_append] at h9; omega
 have hb9 : BytesL (enc items.length ++ itemsE items) := bytes_r (by have h9 := hb8; rw [← hT9] at h9; exact h9)
 refine goCh Hz (.fieldAddr (off := 5) rfl U57 rfl (s := 0) (by kernel_rfl) rfl .nil) ?_
 clear Hz Az; intro Az Hz
 refine wpList_plain rfl (fun K hK => ?_)
 refine e_store1 Hz m76 22 rfl rfl rfl rfl rfl fct16 (by dsimp only [List.set] <;> rfl) ?_
 clear m76; intro w79 m79 hB79
 clear hB79
 refine hK _ _ ?_; clear hK
 refine nl (hK11 _ _ ?_); clear hK11
 replace Hz : Has 72 [(0, _), (2, _), (3, _), (4, _), (5, _)] Az := Hz.only [0, 2, 3, 4, 5]
 refine sr fun K12 hK12 => ?_
 refine goCh Hz (.move rfl .nil) ?_
 clear Hz Az; intro Az Hz
 refine wpList_plain rfl (fun K hK => ?_)
 refine e_call Hz Try.func67 rfl rfl rfl rfl (rtakeItems_x _ _ _ _ _ _ items [] hl9 hb9 (by rw [List.append_nil]) hc.il (fun e he => by have := hc.ib e he; omega) (m79.into [(1, 21), (2, 32)] (by decide) rfl)) ?_
 rintro e w83 ⟨p83, c83, p383, c383, rfl, hm83⟩
 have mx83 := m79.back hm83 [(21, 1), (34, 2), (35, 3)] (by decide); clear hm83 m79
 have m83 : MemOk _ _ [(21, _), (34, _), (35, _), (1, _), (20, _), (22, _), (33, _)] _ := mx83.only [21, 34, 35, 1, 20, 22, 33]; clear mx83
 refine ⟨_, rfl, ?_⟩; clear Hz Az; intro Az Hz
 refine hK _ _ ?_; clear hK
 refine goCh Hz (.fieldAddr (off := 9) rfl U57 rfl (s := 0) (by kernel_rfl) rfl .nil) ?_
 clear Hz Az; intro Az Hz
 refine wpList_plain rfl (fun K hK => ?_)
 refine e_store1 Hz m83 22 rfl rfl rfl rfl rfl fct15 (by dsimp only [List.set] <;> rfl) ?_
 clear m83; intro w86 m86 hB86
 clear hB86
 refine hK _ _ ?_; clear hK
 refine nl (hK12 _ _ ?_); clear hK12
 refine sr fun K13 hK13 => ?_
 refine goCh Hz (.loadBR m86 (i := 22) rfl rfl U57 rfl fct3 (by simp) (by dsimp only [List.drop, List.take] <;> rfl) .nil) ?_
 clear Hz Az; intro Az Hz
 refine wpList_plain rfl (fun K hK => ?_)
 refine e_call Hz Try.func18 rfl rfl rfl rfl (rputCmd_x kd vo bl sz pe to at0 ix place items _ _ _ _ _ _ ((m86.rd (i := 33) rfl).any) ((m86.rd (i := 35) rfl).any) hc) ?_
 rintro e w89 ⟨p89, c89, rfl, ho89, hb89⟩
 have m90 := m86.callD 36 rfl hb89 (ho89.cast (fun b hb => Or.inr hb))
 clear m86
 clear hb89 ho89
 refine ⟨_, rfl, ?_⟩; clear Hz Az; intro Az Hz
 refine hK _ _ ?_; clear hK
 refine goCh Hz (.move rfl <| .extract rfl rfl <| .extract rfl rfl <| .assign rfl <| .assign rfl <| .nil) ?_
 clear Hz Az; intro Az Hz
 refine nl (hK13 _ _ ?_); clear hK13
 refine wp_seq_k (fun K14 hK14 => ?_)
 replace Hz : Has 72 [(0, _), (2, _), (3, _), (4, _), (5, _), (6, _), (7, _)] Az := Hz.only [0, 2, 3, 4, 5, 6, 7]
 refine sr fun K15 hK15 => ?_
 refine goCh Hz (.move rfl <| .nilCheck rfl <| .fa 1 rfl U115 <| .lb m90 21 U3 rfl rfl rfl <| .neq rfl rfl <| .move rfl <| .nil) ?_
 clear Hz Az; intro Az Hz
 refine bool_cases Hz (t := 59) rfl ?_ ?_
 · intro hb _; exact absurd hb (by simp)
 clear Hz; intro _ Hz
 refine goCh Hz (.moveZ rfl <| .neqZ rfl rfl <| .pickF rfl rfl <| .move rfl <| .nil) ?_
 clear Hz Az; intro Az Hz
 refine bool_cases Hz (t := 63) rfl ?_ ?_
 · intro hb _; exact absurd hb (by simp)
 clear Hz; intro _ Hz
 refine goCh Hz (.moveZ rfl <| .strZ rfl (m90.nums (i := 36) rfl) U25 U5 U9 <| .moveZ rfl <| .strZ rfl (m90.nums (i := 1) rfl) U25 U5 U9 <| .neqSZ rfl rfl <| .pickF rfl rfl <| .nil) ?_
 clear Hz Az; intro Az Hz
 refine nl (hK15 _ _ ?_); clear hK15
 refine bool_cases Hz (t := 69) rfl ?_ ?_
 · intro hb _; exact absurd hb (by rw [hE]; simp)
 clear Hz; intro _ Hz
 refine wp_cond_false (Hz.ev (x := .tmp 69) rfl) ?_
 refine ss (hK14 _ _ ?_); clear hK14
 replace Hz : Has 72 [(2, _), (3, _), (5, _), (57, _)] Az := Hz.only [2, 3, 5, 57]
 refine sr fun K16 hK16 => ?_
 refine goCh Hz (.loadBR m90 (i := 22) rfl rfl U57 rfl fct3 (by simp) (by dsimp only [List.drop, List.take] <;> rfl) .nil) ?_
 clear Hz Az; intro Az Hz
 refine wpList_plain rfl (fun K hK => ?_)
 refine e_storeW Hz m90 20 rfl rfl rfl rfl rfl fct3 ?_
 clear m90; intro w126 m126 hB126
 clear hB126
 refine hK _ _ ?_; clear hK
 refine goCh Hz (.assign rfl .nil) ?_
 clear Hz Az; intro Az Hz
 refine nl (hK16 _ _ ?_); clear hK16
 refine wp_ret ?_
 try dsimp only [Exit.then, Exit.inBlock]
 refine (retCT (fn := Try.f43) Hz m126 (i := 20) rfl rfl rfl rfl U57 rfl fct3 ?_)
 exact ⟨_, _, _, _, by rw [List.length_map], m126.ren [(1, 33), (2, 35)] (by decide)⟩
end Go.Proofs.Ytkdnhndjjfjppaa.K
