/- chain: which streams follow one another, which are a chain; Merge, All, Blocks. -/
import Derived.Test.YtflcgpajodfkoaaDoorCha1
namespace Go.Proofs.YtflcgpajodfkoaaDoor.K
open Go.ChangeShapes Go.WideShapes Go.ChangeAt Go.RowKit
set_option linter.unusedVariables false
set_option linter.unusedSimpArgs false
theorem fl35cmn : flatS Tryd.prog 35 [.int .i64 0, .int .i64 0, .int .i64 0, .int .i64 0, .slice none 0 0] = true := by kernel_rfl
def FolB (x y : StrV) : Prop := x.bl = y.bl ∧ x.sz = y.sz ∧ y.fr = x.to
def OkAt (l : List StrV) (i : Nat) : Prop := if i = 0 then (l.getD 0 s0V).fr < 0 else FolB (l.getD (i - 1) s0V) (l.getD i s0V)
def ChainOk (l : List StrV) : Prop := 0 < l.length ∧ ∀ i, i < l.length → OkAt l i
theorem kb_all {k n : Nat} (h : k = n) : k = n := h
theorem kb_eq {l : List StrV} {k : Nat} (hk : k ≤ l.length) (h : ∀ i, i < l.length → OkAt l i) (h2 : k < l.length → ¬ OkAt l k) : k = l.length := by
 rcases Nat.lt_or_ge k l.length with h8 | h8
 · exact absurd (h k h8) (h2 h8)
 omega
def sndD (e : PI) : List D := [.ns .u8 e.2]
set_option maxRecDepth 100000
set_option maxHeartbeats 4000000
theorem full_gen (bl sz fr to : Int) (pi : Option Addr) (ni ci : Nat) (w0 : World) :
   Calls Tryd.prog 27 #[.agg #[.int .i64 bl, .int .i64 sz, .int .i64 fr, .int .i64 to, .slice pi ni ci]] w0 fun e w' => e = .returned (.bool (decide (fr < 0))) ∧ Below w0.heap.size w0 w' := by
 refine ent1 Tryd.func27 rfl Tryd.ntmps27 fun Az Hz => ?_
 have m0 := MemOk.start (fun _ => False) w0
 refine zsr fun K0 hK0 => ?_
 refine wpList_plain rfl (fun K hK => ?_)
 refine e_box Hz m0 20 (cs := [_, _, _, _, _]) rfl rfl rfl ?_
 clear Hz Az m0; intro g1 Az w2 Hz m2 hB2 hg2
 clear hB2 hg2
 refine hK _ _ ?_; clear hK
 refine goCh Hz (.assign rfl .nil) ?_
 clear Hz Az; intro Az Hz
 refine znl (hK0 _ _ ?_); clear hK0
 refine regS Hz (.fa 2 rfl U35 <| .lb m2 20 U2 rfl rfl rfl <| .lss rfl rfl <| .assign rfl <| .nil) ?_
 clear Hz Az; intro Az Hz
 refine wp_ret ?_
 try dsimp only [Exit.then, Exit.inBlock]
 refine (ret1 (fn := Tryd.f27) Hz rfl rfl ?_)
 exact ⟨rfl, m2.below⟩
theorem follows_any (x y : StrV) (pa pb : Option Addr) (na nb ca cb : Nat) (w0 : World) (h1 : Rd (fun _ => True) w0 (.slice pa na ca) (.l 2 (x.its.map itD))) (h2 : Rd (fun _ => True) w0 (.slice pb nb cb) (.l 2 (y.its.map itD))) (hsx : StreamOk x.bl x.sz x.fr x.to x.its) (hsy : StreamOk y.bl y.sz y.fr y.to y.its) :
   Calls Tryd.prog 20 #[.agg #[.int .i64 x.bl, .int .i64 x.sz, .int .i64 x.fr, .int .i64 x.to, .slice pa na ca], .agg #[.int .i64 y.bl, .int .i64 y.sz, .int .i64 y.fr, .int .i64 y.to, .slice pb nb cb]] w0 fun e w' => ∃ b : Bool, e = .returned (.bool b) ∧ (b = true ↔ FolB x y) ∧ Below w0.heap.size w0 w' := by
 obtain rfl : na = x.its.length := by obtain ⟨pq, cq, hv, _⟩ := h1.l_shape; injection hv with _ e2 _; rw [List.length_map] at e2; exact e2
 obtain rfl : nb = y.its.length := by obtain ⟨pq, cq, hv, _⟩ := h2.l_shape; injection hv with _ e2 _; rw [List.length_map] at e2; exact e2
 refine ent2 Tryd.func20 rfl Tryd.ntmps20 fun Az Hz => ?_
 have m0 := MemOk.start (fun _ => False) w0
 refine zsr fun K0 hK0 => ?_
 refine wpList_plain rfl (fun K hK => ?_)
 refine e_box Hz m0 20 (cs := [_, _, _, _, _]) rfl rfl rfl ?_
 clear Hz Az m0; intro g1 Az w2 Hz m2 hB2 hg2
 clear hB2 hg2
 refine hK _ _ ?_; clear hK
 refine wpList_plain rfl (fun K hK => ?_)
 refine e_box Hz m2 21 (cs := [_, _, _, _, _]) rfl rfl rfl ?_
 clear Hz Az m2; intro g3 Az w4 Hz m4 hB4 hg4
 clear hB4 hg4
 refine hK _ _ ?_; clear hK
 refine goCh Hz (.assign rfl .nil) ?_
 clear Hz Az; intro Az Hz
 refine znl (hK0 _ _ ?_); clear hK0
 refine zsr fun K1 hK1 => ?_
 refine goCh Hz (.loadBR m4 (i := 20) rfl rfl U35 rfl fct7 (by simp) (by dsimp only [List.drop, List.take] <;> rfl) .nil) ?_
 clear Hz Az; intro Az Hz
 refine wpList_plain rfl (fun K hK => ?_)
 refine e_call Hz Tryd.func23 rfl rfl rfl rfl (sright_yes x.bl x.sz x.fr x.to x.its _ _ _ _ ((h1.now' m4 rfl).any) hsx) ?_
 rintro e w8 ⟨rfl, hb8⟩
 have m9 := m4.later hb8
 clear m4
 clear hb8
 refine ⟨_, rfl, ?_⟩; clear Hz Az; intro Az Hz
 refine hK _ _ ?_; clear hK
 refine goCh Hz (.move rfl <| .loadBRZ m9 (i := 21) rfl rfl U35 rfl fct7 (by simp) (by dsimp only [List.drop, List.take] <;> rfl) <| .nil) ?_
 clear Hz Az; intro Az Hz
 refine st_ge Hz rfl rfl rfl rfl (fun K hK => ?_)
 refine e_call Hz Tryd.func23 rfl rfl rfl rfl (sright_yes y.bl y.sz y.fr y.to y.its _ _ _ _ ((h2.now' m9 rfl).any) hsy) ?_
 rintro e w13 ⟨rfl, hb13⟩
 have m14 := m9.later hb13
 clear m9
 clear hb13
 refine ⟨_, rfl, ?_⟩; clear Hz Az; intro Az Hz
 refine hK _ _ ?_; clear hK
 refine goCh Hz (.pickT rfl rfl <| .move rfl <| .faZ 0 rfl U35 <| .loadB1Z m14 (i := 20) rfl rfl rfl U3 rfl <| .faZ 0 rfl U35 <| .loadB1Z m14 (i := 21) rfl rfl rfl U3 rfl <| .eqlZ rfl rfl <| .pickT rfl rfl <| .move rfl <| .nil) ?_
 clear Hz Az; intro Az Hz
 refine bool_cases Hz (t := 18) rfl ?_ ?_
 ·
  clear Hz; intro hb25 Hz; try simp only [QQ, Qax] at hb25
  have hbl := hb25
  refine goCh Hz (.faZ 1 rfl U35 <| .loadB1Z m14 (i := 20) rfl rfl rfl U3 rfl <| .faZ 1 rfl U35 <| .loadB1Z m14 (i := 21) rfl rfl rfl U3 rfl <| .eqlZ rfl rfl <| .pickT rfl rfl <| .move rfl <| .nil) ?_
  clear Hz Az; intro Az Hz
  refine bool_cases Hz (t := 25) rfl ?_ ?_
  ·
   clear Hz; intro hb33 Hz; try simp only [QQ, Qax] at hb33
   have hsz := hb33
   refine goCh Hz (.faZ 2 rfl U35 <| .loadB1Z m14 (i := 21) rfl rfl rfl U2 rfl <| .faZ 3 rfl U35 <| .loadB1Z m14 (i := 20) rfl rfl rfl U2 rfl <| .eqlZ rfl rfl <| .pickT rfl rfl <| .assign rfl <| .nil) ?_
   clear Hz Az; intro Az Hz
   refine znl (hK1 _ _ ?_); clear hK1
   refine wp_ret ?_
   try dsimp only [Exit.then, Exit.inBlock]
   refine (ret1 (fn := Tryd.f20) Hz rfl rfl ?_)
   exact ⟨_, rfl, by first | exact ⟨fun h => Bool.noConfusion h, fun h => absurd h.1 hbl⟩ | exact ⟨fun h => Bool.noConfusion h, fun h => absurd h.2.1 hsz⟩ | exact ⟨fun h => ⟨hbl, hsz, by simpa using h⟩, fun h => by simpa using h.2.2⟩, m14.below⟩
  clear Hz; intro hb33 Hz; try simp only [QQ, Qax] at hb33
  have hsz := hb33
  refine goCh Hz (.sk <| .sk <| .sk <| .sk <| .sk <| .pickF rfl rfl <| .assign rfl <| .nil) ?_
  clear Hz Az; intro Az Hz
  refine znl (hK1 _ _ ?_); clear hK1
  refine wp_ret ?_
  try dsimp only [Exit.then, Exit.inBlock]
  refine (ret1 (fn := Tryd.f20) Hz rfl rfl ?_)
  exact ⟨_, rfl, by first | exact ⟨fun h => Bool.noConfusion h, fun h => absurd h.1 hbl⟩ | exact ⟨fun h => Bool.noConfusion h, fun h => absurd h.2.1 hsz⟩ | exact ⟨fun h => ⟨hbl, hsz, by simpa using h⟩, fun h => by simpa using h.2.2⟩, m14.below⟩
 clear Hz; intro hb25 Hz; try simp only [QQ, Qax] at hb25
 have hbl := hb25
 refine goCh Hz (.sk <| .sk <| .sk <| .sk <| .sk <| .pickF rfl rfl <| .move rfl <| .sk <| .sk <| .sk <| .sk <| .sk <| .pickF rfl rfl <| .assign rfl <| .nil) ?_
 clear Hz Az; intro Az Hz
 refine znl (hK1 _ _ ?_); clear hK1
 refine wp_ret ?_
 try dsimp only [Exit.then, Exit.inBlock]
 refine (ret1 (fn := Tryd.f20) Hz rfl rfl ?_)
 exact ⟨_, rfl, by first | exact ⟨fun h => Bool.noConfusion h, fun h => absurd h.1 hbl⟩ | exact ⟨fun h => Bool.noConfusion h, fun h => absurd h.2.1 hsz⟩ | exact ⟨fun h => ⟨hbl, hsz, by simpa using h⟩, fun h => by simpa using h.2.2⟩, m14.below⟩
theorem broken_any (l : List StrV) (p : Option Addr) (nn c : Nat) (w0 : World) (h1 : Rd (fun _ => True) w0 (.slice p nn c) (.l 5 (l.map strD))) (hl : l.length ≤ 1000) (hs : ∀ s ∈ l, StreamOk s.bl s.sz s.fr s.to s.its) :
   Calls Tryd.prog 35 #[.slice p nn c] w0 fun e w' => ∃ k : Nat, e = .returned (.int .i64 k) ∧ k ≤ l.length ∧ (∀ i, i < k → OkAt l i) ∧ (k < l.length → ¬ OkAt l k) ∧ Below w0.heap.size w0 w' := by
 obtain rfl : nn = l.length := by obtain ⟨pq, cq, hv, _⟩ := h1.l_shape; injection hv with _ e2 _; rw [List.length_map] at e2; exact e2
 refine ent1 Tryd.func35 rfl Tryd.ntmps35 fun Az Hz => ?_
 have m0 := MemOk.start (fun _ => False) w0
 refine regS Hz (.assign rfl <| .nil) ?_
 clear Hz Az; intro Az Hz
 refine wp_seq_k (fun K0 hK0 => ?_)
 refine regS Hz (.move rfl <| .len rfl U25 <| .move rfl <| .nil) ?_
 clear Hz Az; intro Az Hz
 refine wp_block ?_
 refine wp_loop_ghost (fun g a w => ∃ (k : Nat), k ≤ l.length ∧ g = l.length - k ∧ (∀ i, i < k → OkAt l i) ∧ Has 39 [(0, .slice p l.length c), (5, .int .i64 l.length), (6, .int .i64 k)] a ∧ MemOk (cn w0) w0 [] w) (l.length) ?_ ?_
 · exact ⟨0, Nat.zero_le _, rfl, fun i hi => by omega, Hz.only [0, 5, 6], m0.only []⟩
 clear Hz m0
 rintro g Az w5 ⟨k, hkl, hg, hall, Hz, m5⟩
 refine regS Hz (.lss rfl rfl <| .nil) ?_
 clear Hz Az; intro Az Hz
 refine wp_seq_k (fun K1 hK1 => ?_)
 refine bool_cases Hz (t := 7) rfl ?_ ?_
 ·
  clear Hz; intro hb7 Hz; try simp only [QQ, Qax] at hb7
  have hk : k < l.length := by have := hb7; first | omega | (simp at this; omega)
  refine wp_cond_true (Hz.ev (x := .tmp 7) rfl) ?_
  refine zss (hK1 _ _ ?_); clear hK1
  refine wp_seq_k (fun K2 hK2 => ?_)
  refine wp_block ?_
  refine regS Hz (.move rfl <| .assign rfl <| .nil) ?_
  clear Hz Az; intro Az Hz
  refine wp_seq_k (fun K3 hK3 => ?_)
  rcases Nat.eq_zero_or_pos k with hk0 | hk0
  ·
   obtain ⟨v0, hes0⟩ : ∃ e, l[0]? = some e := ⟨_, List.getElem?_eq_getElem (by omega)⟩
   obtain ⟨gx11, ox11, vx11, hp11, hl11, hR11, hrg11⟩ := h1.extA (0) (r := [.v (.int .i64 v0.bl), .v (.int .i64 v0.sz), .v (.int .i64 v0.fr), .v (.int .i64 v0.to), .l 2 (v0.its.map itD)]) (strD_get hes0)
   cases hp11; clear hl11
   rcases hR11 with _ | ⟨hd11_0, _ | ⟨hd11_1, _ | ⟨hd11_2, _ | ⟨hd11_3, _ | ⟨hd11_4, _ | _⟩⟩⟩⟩⟩
   obtain rfl := hd11_0.v_out
   clear hd11_0
   obtain rfl := hd11_1.v_out
   clear hd11_1
   obtain rfl := hd11_2.v_out
   clear hd11_2
   obtain rfl := hd11_3.v_out
   clear hd11_3
   obtain ⟨p12, c12, hv12, hw12⟩ := hd11_4.l_shape; subst hv12
   have m13 : MemOk _ _ [] _ := m5.only []; clear m5
   refine region_p 26 (B := []) (m13.to trivial) m13 (by kernel_rfl) (fun w14 hP14 m14 => ?_); clear m13
   refine goA hP14 [0, 1, 2] 3 0 7 Hz (m14.to trivial) (.move rfl <| .eql rfl rfl <| .move rfl <| .nil) ?_
   clear Hz Az; intro Az Hz
   refine bool_cases Hz (t := 11) rfl ?_ ?_
   rotate_left
   · intro hb _; exact absurd hb (by simp; omega)
   clear Hz; intro _ Hz
   refine goR hP14 [3, 4, 5] [5] 3 7 63 Hz (m14.to trivial) (.move rfl <| .p (fun _ _ h => y_idx h rfl rfl U25 fct7 (0) rfl (by omega)) <| .loadAt (fun _ h => (hrg11 h rfl)) rfl U35 rfl fct7 <| .nil) ?_
   clear Hz Az; intro Az Hz
   refine stepE_only 6 rfl (by kernel_rfl) (wantedG Hz rfl rfl rfl rfl) (fun K hK => ?_)
   refine e_call Hz Tryd.func27 rfl rfl rfl rfl (full_gen _ _ _ _ _ _ _ _) ?_
   rintro e w22 ⟨rfl, hb22⟩
   have m23 := m14.later hb22
   clear m14
   clear hb22
   refine ⟨_, rfl, ?_⟩; clear Hz Az; intro Az Hz
   refine hK _ _ (m23.to trivial) ?_; clear hK K
   refine goA hP14 [7, 8, 9] 3 127 1023 Hz (m23.to trivial) (.not rfl <| .pickT rfl rfl <| .move rfl <| .nil) ?_
   clear Hz Az; intro Az Hz
   refine bool_cases Hz (t := 18) rfl ?_ ?_
   ·
    clear Hz; intro hb28 Hz; try simp only [QQ, Qax] at hb28
    have hno9 : ¬ OkAt l k := by rw [hk0]; unfold OkAt; rw [if_pos rfl, List.getD, hes0]; simpa using hb28
    refine goA hP14 [10, 11, 12, 13, 14, 15, 16, 17, 18, 19, 20, 21, 22, 23, 24, 25] 16 1023 67108863 Hz (m23.to trivial) (.s <| .s <| .s <| .u <| .u <| .u <| .u <| .u <| .u <| .u <| .u <| .u <| .u <| .u <| .s <| .pickT rfl rfl <| .nil) ?_
    clear Hz Az; intro Az Hz
    refine wpAnyE_done (by kernel_rfl) ?_ _
    refine hK3 _ _ ?_; clear hK3
    refine wp_cond_true (Hz.ev (x := .tmp 34) rfl) ?_
    replace Hz : Has 39 [(0, _), (5, _), (6, _), (3, _)] Az := Hz.only [0, 5, 6, 3]
    refine regS Hz (.move rfl <| .assign rfl <| .nil) ?_
    clear Hz Az; intro Az Hz
    refine wp_ret ?_
    try dsimp only [Exit.then, Exit.inBlock]
    refine (ret1 (fn := Tryd.f35) Hz rfl rfl ?_)
    first | exact ⟨k, rfl, by omega, hall, fun _ => hno9, m23.below⟩ | exact ⟨l.length, rfl, Nat.le_refl _, by rw [← hke]; exact hall, fun h => by omega, m23.below⟩
   clear Hz; intro hb28 Hz; try simp only [QQ, Qax] at hb28
   have hok9 : OkAt l k := by rw [hk0]; unfold OkAt; rw [if_pos rfl, List.getD, hes0]; simpa using hb28
   refine goA hP14 [10, 11, 12] 3 1023 8191 Hz (m23.to trivial) (.move rfl <| .gtr rfl rfl <| .move rfl <| .nil) ?_
   clear Hz Az; intro Az Hz
   refine bool_cases Hz (t := 21) rfl ?_ ?_
   · intro hb _; exact absurd hb (by simp; omega)
   clear Hz; intro _ Hz
   refine goA hP14 [13, 14, 15, 16, 17, 18, 19, 20, 21, 22, 23, 24, 25] 13 8191 67108863 Hz (m23.to trivial) (.s <| .s <| .s <| .s <| .s <| .s <| .s <| .s <| .s <| .s <| .s <| .pickF rfl rfl <| .pickF rfl rfl <| .nil) ?_
   clear Hz Az; intro Az Hz
   refine wpAnyE_done (by kernel_rfl) ?_ _
   refine hK3 _ _ ?_; clear hK3
   refine wp_cond_false (Hz.ev (x := .tmp 34) rfl) ?_
   refine zss (hK2 _ _ ?_); clear hK2
   replace Hz : Has 39 [(0, _), (5, _), (6, _)] Az := Hz.only [0, 5, 6]
   refine wp_region_lit ?_
   refine goCh Hz (.add rfl rfl (r := ((k + 1 : Nat) : Int)) (by rw [IntWalk.i64_in _ (by omega)]; omega) <| .move rfl <| .nil) ?_
   clear Hz Az; intro Az Hz
   refine wpList_nil ?_
   show ∃ n', n' < _ ∧ _
   exact ⟨l.length - (k + 1), by omega, k + 1, by omega, rfl, fun i hi => by rcases Nat.lt_or_ge i k with h9 | h9; (exact hall i h9); (obtain rfl : i = k := by omega); (exact hok9), Hz.only [0, 5, 6], m23.only []⟩
  obtain ⟨v1, hes1⟩ : ∃ e, l[k - 1]? = some e := ⟨_, List.getElem?_eq_getElem (by omega)⟩
  obtain ⟨v2, hes2⟩ : ∃ e, l[k]? = some e := ⟨_, List.getElem?_eq_getElem hk⟩
  obtain ⟨gx69, ox69, vx69, hp69, hl69, hR69, hrg69⟩ := h1.extA ((k - 1)) (r := [.v (.int .i64 v1.bl), .v (.int .i64 v1.sz), .v (.int .i64 v1.fr), .v (.int .i64 v1.to), .l 2 (v1.its.map itD)]) (strD_get hes1)
  cases hp69; clear hl69
  rcases hR69 with _ | ⟨hd69_0, _ | ⟨hd69_1, _ | ⟨hd69_2, _ | ⟨hd69_3, _ | ⟨hd69_4, _ | _⟩⟩⟩⟩⟩
  obtain rfl := hd69_0.v_out
  clear hd69_0
  obtain rfl := hd69_1.v_out
  clear hd69_1
  obtain rfl := hd69_2.v_out
  clear hd69_2
  obtain rfl := hd69_3.v_out
  clear hd69_3
  obtain ⟨p70, c70, hv70, hw70⟩ := hd69_4.l_shape; subst hv70
  obtain ⟨gx72, ox72, vx72, hp72, hl72, hR72, hrg72⟩ := h1.extA (k) (r := [.v (.int .i64 v2.bl), .v (.int .i64 v2.sz), .v (.int .i64 v2.fr), .v (.int .i64 v2.to), .l 2 (v2.its.map itD)]) (strD_get hes2)
  cases hp72; clear hl72
  rcases hR72 with _ | ⟨hd72_0, _ | ⟨hd72_1, _ | ⟨hd72_2, _ | ⟨hd72_3, _ | ⟨hd72_4, _ | _⟩⟩⟩⟩⟩
  obtain rfl := hd72_0.v_out
  clear hd72_0
  obtain rfl := hd72_1.v_out
  clear hd72_1
  obtain rfl := hd72_2.v_out
  clear hd72_2
  obtain rfl := hd72_3.v_out
  clear hd72_3
  obtain ⟨p73, c73, hv73, hw73⟩ := hd72_4.l_shape; subst hv73
  have m74 : MemOk _ _ [] _ := m5.only []; clear m5
  refine region_p 26 (B := []) (m74.to trivial) m74 (by kernel_rfl) (fun w75 hP75 m75 => ?_); clear m74
  refine goA hP75 [0, 1, 2] 3 0 7 Hz (m75.to trivial) (.move rfl <| .eql rfl rfl <| .move rfl <| .nil) ?_
  clear Hz Az; intro Az Hz
  refine bool_cases Hz (t := 11) rfl ?_ ?_
  · intro hb _; exact absurd hb (by simp; omega)
  clear Hz; intro _ Hz
  refine goA hP75 [3, 4, 5, 6, 7, 8, 9, 10, 11, 12] 10 7 8191 Hz (m75.to trivial) (.s <| .s <| .s <| .s <| .s <| .pickF rfl rfl <| .move rfl <| .move rfl <| .gtr rfl rfl <| .move rfl <| .nil) ?_
  clear Hz Az; intro Az Hz
  refine bool_cases Hz (t := 21) rfl ?_ ?_
  rotate_left
  · intro hb _; exact absurd hb (by simp; omega)
  clear Hz; intro _ Hz
  refine goR hP75 [13, 14, 15, 16, 17, 18, 19, 20, 21] [17, 21] 9 8191 4194303 Hz (m75.to trivial) (.move rfl <| .move rfl <| .sub rfl rfl (r := (k : Int) - 1) (IntWalk.i64_in _ (by omega)) <| .p (fun _ _ h => y_idx h rfl rfl U25 fct7 ((k - 1)) (by omega) (by omega)) <| .loadAt (fun _ h => (hrg69 h rfl)) rfl U35 rfl fct7 <| .move rfl <| .move rfl <| .p (fun _ _ h => y_idx h rfl rfl U25 fct7 (k) rfl (by omega)) <| .loadAt (fun _ h => (hrg72 h rfl)) rfl U35 rfl fct7 <| .nil) ?_
  clear Hz Az; intro Az Hz
  refine stepE_only 22 rfl (by kernel_rfl) (wantedG Hz rfl rfl rfl rfl) (fun K hK => ?_)
  refine e_call Hz Tryd.func20 rfl rfl rfl rfl (follows_any v1 v2 _ _ _ _ _ _ _ ((hd69_4.now' m75 rfl).any) ((hd72_4.now' m75 rfl).any) (hs _ (List.mem_of_getElem? hes1)) (hs _ (List.mem_of_getElem? hes2))) ?_
  rintro e w100 ⟨fb, rfl, hfb, hb100⟩
  have m101 := m75.later hb100
  clear m75
  clear hb100
  refine ⟨_, rfl, ?_⟩; clear Hz Az; intro Az Hz
  refine hK _ _ (m101.to trivial) ?_; clear hK K
  refine goA hP75 [23, 24, 25] 3 8388607 67108863 Hz (m101.to trivial) (.not rfl <| .pickT rfl rfl <| .pickF rfl rfl <| .nil) ?_
  clear Hz Az; intro Az Hz
  refine wpAnyE_done (by kernel_rfl) ?_ _
  refine hK3 _ _ ?_; clear hK3
  refine bool_cases Hz (t := 34) rfl ?_ ?_
  ·
   clear Hz; intro hb106 Hz; try simp only [QQ, Qax] at hb106
   have hno9 : ¬ OkAt l k := by unfold OkAt; rw [if_neg (by omega), List.getD, hes1, List.getD, hes2]; intro h9; have := hfb.2 h9; simp_all
   refine wp_cond_true (Hz.ev (x := .tmp 34) rfl) ?_
   replace Hz : Has 39 [(0, _), (5, _), (6, _), (3, _)] Az := Hz.only [0, 5, 6, 3]
   refine regS Hz (.move rfl <| .assign rfl <| .nil) ?_
   clear Hz Az; intro Az Hz
   refine wp_ret ?_
   try dsimp only [Exit.then, Exit.inBlock]
   refine (ret1 (fn := Tryd.f35) Hz rfl rfl ?_)
   first | exact ⟨k, rfl, by omega, hall, fun _ => hno9, m101.below⟩ | exact ⟨l.length, rfl, Nat.le_refl _, by rw [← hke]; exact hall, fun h => by omega, m101.below⟩
  clear Hz; intro hb106 Hz; try simp only [QQ, Qax] at hb106
  have hok9 : OkAt l k := by unfold OkAt; rw [if_neg (by omega), List.getD, hes1, List.getD, hes2]; exact hfb.1 (by simpa using hb106)
  refine wp_cond_false (Hz.ev (x := .tmp 34) rfl) ?_
  refine zss (hK2 _ _ ?_); clear hK2
  replace Hz : Has 39 [(0, _), (5, _), (6, _)] Az := Hz.only [0, 5, 6]
  refine wp_region_lit ?_
  refine goCh Hz (.add rfl rfl (r := ((k + 1 : Nat) : Int)) (by rw [IntWalk.i64_in _ (by omega)]; omega) <| .move rfl <| .nil) ?_
  clear Hz Az; intro Az Hz
  refine wpList_nil ?_
  show ∃ n', n' < _ ∧ _
  exact ⟨l.length - (k + 1), by omega, k + 1, by omega, rfl, fun i hi => by rcases Nat.lt_or_ge i k with h9 | h9; (exact hall i h9); (obtain rfl : i = k := by omega); (exact hok9), Hz.only [0, 5, 6], m101.only []⟩
 clear Hz; intro hb7 Hz; try simp only [QQ, Qax] at hb7
 have hke : k = l.length := by have := hb7; first | omega | (simp at this; omega)
 refine wp_cond_false (Hz.ev (x := .tmp 7) rfl) ?_
 refine wp_exit ?_
 refine hK0 _ _ ?_; clear hK0
 refine regS Hz (.move rfl <| .len rfl U25 <| .assign rfl <| .nil) ?_
 clear Hz Az; intro Az Hz
 refine wp_ret ?_
 try dsimp only [Exit.then, Exit.inBlock]
 refine (ret1 (fn := Tryd.f35) Hz rfl rfl ?_)
 first | exact ⟨k, rfl, by omega, hall, fun _ => hno9, m5.below⟩ | exact ⟨l.length, rfl, Nat.le_refl _, by rw [← hke]; exact hall, fun h => by omega, m5.below⟩
theorem cright_any (l : List StrV) (p : Option Addr) (nn c : Nat) (w0 : World) (h1 : Rd (fun _ => True) w0 (.slice p nn c) (.l 5 (l.map strD))) (hl : l.length ≤ 1000) (hs : ∀ s ∈ l, StreamOk s.bl s.sz s.fr s.to s.its) :
   Calls Tryd.prog 19 #[.slice p nn c] w0 fun e w' => ∃ b : Bool, e = .returned (.bool b) ∧ (b = true ↔ ChainOk l) ∧ Below w0.heap.size w0 w' := by
 obtain rfl : nn = l.length := by obtain ⟨pq, cq, hv, _⟩ := h1.l_shape; injection hv with _ e2 _; rw [List.length_map] at e2; exact e2
 refine ent1 Tryd.func19 rfl Tryd.ntmps19 fun Az Hz => ?_
 have m0 := MemOk.start (fun _ => False) w0
 refine regS Hz (.assign rfl <| .nil) ?_
 clear Hz Az; intro Az Hz
 refine zsr fun K0 hK0 => ?_
 refine goCh Hz (.move rfl <| .len rfl U25 <| .gtr rfl rfl <| .move rfl <| .nil) ?_
 clear Hz Az; intro Az Hz
 refine bool_cases Hz (t := 6) rfl ?_ ?_
 ·
  clear Hz; intro hb10 Hz; try simp only [QQ, Qax] at hb10
  have hl0 : 0 < l.length := by have := hb10; first | omega | (simp at this; omega)
  obtain ⟨v0, hes0⟩ : ∃ e, l[0]? = some e := ⟨_, List.getElem?_eq_getElem hl0⟩
  refine goCh Hz (.moveZ rfl .nil) ?_
  clear Hz Az; intro Az Hz
  obtain ⟨gx12, ox12, vx12, hp12, hl12, hR12, hrg12⟩ := h1.extA (0) (r := [.v (.int .i64 v0.bl), .v (.int .i64 v0.sz), .v (.int .i64 v0.fr), .v (.int .i64 v0.to), .l 2 (v0.its.map itD)]) (strD_get hes0)
  cases hp12; clear hl12
  rcases hR12 with _ | ⟨hd12_0, _ | ⟨hd12_1, _ | ⟨hd12_2, _ | ⟨hd12_3, _ | ⟨hd12_4, _ | _⟩⟩⟩⟩⟩
  obtain rfl := hd12_0.v_out
  clear hd12_0
  obtain rfl := hd12_1.v_out
  clear hd12_1
  obtain rfl := hd12_2.v_out
  clear hd12_2
  obtain rfl := hd12_3.v_out
  clear hd12_3
  obtain ⟨p13, c13, hv13, hw13⟩ := hd12_4.l_shape; subst hv13
  refine goCh Hz (.g rfl rfl rfl rfl (fun _ h => y_idx h rfl rfl U25 fct7 (0) rfl (by omega)) <| .loadAtZ (hrg12 m0 rfl) rfl U35 rfl fct7 <| .nil) ?_
  clear Hz Az; intro Az Hz
  refine st_ge Hz rfl rfl rfl rfl (fun K hK => ?_)
  refine e_call Hz Tryd.func23 rfl rfl rfl rfl (sright_yes v0.bl v0.sz v0.fr v0.to v0.its _ _ _ _ ((hd12_4.now' m0 rfl).any) (hs _ (List.mem_of_getElem? hes0))) ?_
  rintro e w16 ⟨rfl, hb16⟩
  have m17 := m0.later hb16
  clear m0
  clear hb16
  refine ⟨_, rfl, ?_⟩; clear Hz Az; intro Az Hz
  refine hK _ _ ?_; clear hK
  refine goCh Hz (.pickT rfl rfl <| .move rfl <| .moveZ rfl <| .nil) ?_
  clear Hz Az; intro Az Hz
  refine st_ge Hz rfl rfl rfl rfl (fun K hK => ?_)
  refine e_call Hz Tryd.func35 rfl rfl rfl rfl (broken_any l _ _ _ _ ((h1.now' m17 rfl).any) hl hs) ?_
  rintro e w22 ⟨kb, rfl, hkb, hk1, hk2, hb22⟩
  have m23 := m17.later hb22
  clear m17
  clear hb22
  refine ⟨_, rfl, ?_⟩; clear Hz Az; intro Az Hz
  refine hK _ _ ?_; clear hK
  refine goCh Hz (.moveZ rfl <| .lenZ rfl U25 <| .eqlZ rfl rfl <| .pickT rfl rfl <| .assign rfl <| .nil) ?_
  clear Hz Az; intro Az Hz
  refine znl (hK0 _ _ ?_); clear hK0
  refine wp_ret ?_
  try dsimp only [Exit.then, Exit.inBlock]
  refine (ret1 (fn := Tryd.f19) Hz rfl rfl ?_)
  first | exact ⟨_, rfl, ⟨fun h => Bool.noConfusion h, fun h => absurd h.1 hl0⟩, m23.below⟩ | exact ⟨_, rfl, ⟨fun h => ⟨hl0, (kb_all (k := kb) (n := l.length) (by first | (simp at h; exact h) | (simp at h; omega))) ▸ hk1⟩, fun h => by rw [kb_eq hkb h.2 hk2]; simp⟩, m23.below⟩
 clear Hz; intro hb10 Hz; try simp only [QQ, Qax] at hb10
 have hl0 : ¬ 0 < l.length := by have := hb10; first | omega | (simp at this; omega)
 refine goCh Hz (.sk <| .sk <| .sk <| .sk <| .pickF rfl rfl <| .move rfl <| .sk <| .sk <| .sk <| .sk <| .sk <| .pickF rfl rfl <| .assign rfl <| .nil) ?_
 clear Hz Az; intro Az Hz
 refine znl (hK0 _ _ ?_); clear hK0
 refine wp_ret ?_
 try dsimp only [Exit.then, Exit.inBlock]
 refine (ret1 (fn := Tryd.f19) Hz rfl rfl ?_)
 first | exact ⟨_, rfl, ⟨fun h => Bool.noConfusion h, fun h => absurd h.1 hl0⟩, m0.below⟩ | exact ⟨_, rfl, ⟨fun h => ⟨hl0, (kb_all (k := kb) (n := l.length) (by first | (simp at h; exact h) | (simp at h; omega))) ▸ hk1⟩, fun h => by rw [kb_eq hkb h.2 hk2]; simp⟩, m0.below⟩
theorem all_yes (l : List StrV) (p : Option Addr) (nn c : Nat) (w0 : World) (h1 : Rd (fun _ => True) w0 (.slice p nn c) (.l 5 (l.map strD))) (hl : l.length ≤ 1000) (hs : ∀ s ∈ l, StreamOk s.bl s.sz s.fr s.to s.its) (hC : ChainOk l) (ht : totL l ≤ 1000000) (hok : ∀ s ∈ l, ItsOk s.its) :
   Calls Tryd.prog 10 #[.slice p nn c] w0 fun e w' => ∃ (s : StrV) (p : Option Addr) (c : Nat), Ev l s ∧ s.its.length ≤ totL l ∧ ItsOk s.its ∧ e = .returned (.tuple #[.agg #[.int .i64 s.bl, .int .i64 s.sz, .int .i64 s.fr, .int .i64 s.to, .slice p s.its.length c], .int .i64 0]) ∧ Rd (New w0) w' (.slice p s.its.length c) (.l 2 (s.its.map itD)) ∧ Below w0.heap.size w0 w' := by
 obtain rfl : nn = l.length := by obtain ⟨pq, cq, hv, _⟩ := h1.l_shape; injection hv with _ e2 _; rw [List.length_map] at e2; exact e2
 refine ent1 Tryd.func10 rfl Tryd.ntmps10 fun Az Hz => ?_
 have m0 := MemOk.start (fun _ => False) w0
 refine zsr fun K0 hK0 => ?_
 refine wpList_plain rfl (fun K hK => ?_)
 refine e_alloc Hz m0 20 fct21 rfl ?_
 clear Hz Az m0; intro g1 Az w2 Hz m2 hB2 hg2
 clear hB2 hg2
 refine hK _ _ ?_; clear hK
 refine goCh Hz (.assign rfl .nil) ?_
 clear Hz Az; intro Az Hz
 refine znl (hK0 _ _ ?_); clear hK0
 refine wp_seq_k (fun K1 hK1 => ?_)
 refine regS Hz (.move rfl <| .len rfl U25 <| .move rfl <| .nil) ?_
 clear Hz Az; intro Az Hz
 refine wp_block ?_
 refine wp_loop_ghost (fun g a w => ∃ (k B2 : Nat), k ≤ l.length ∧ g = l.length - k ∧ Has 23 [(0, .slice p l.length c), (2, .pointer (some ⟨B2, 0, none⟩)), (3, .int .i64 0), (6, .slice p l.length c), (7, .int .i64 l.length), (8, .int .i64 k)] a ∧ MemOk (cn w0) w0 [(2, .box B2 35 [.int .i64 0, .int .i64 0, .int .i64 0, .int .i64 0, .slice none 0 0])] w) (l.length) ?_ ?_
 · exact ⟨0, _, Nat.zero_le _, rfl, Hz.only [0, 2, 3, 6, 7, 8], m2.ren [(2, 20)] (by decide)⟩
 clear Hz m2
 rintro g Az w7 ⟨k, B2, hkl, hg, Hz, m7⟩
 refine regS Hz (.lss rfl rfl <| .nil) ?_
 clear Hz Az; intro Az Hz
 refine wp_seq_k (fun K2 hK2 => ?_)
 refine bool_cases Hz (t := 9) rfl ?_ ?_
 ·
  clear Hz; intro hb9 Hz; try simp only [QQ, Qax] at hb9
  have hk : k < l.length := by have := hb9; first | omega | (simp at this; omega)
  obtain ⟨vk, hes⟩ : ∃ e, l[k]? = some e := ⟨_, List.getElem?_eq_getElem hk⟩
  refine wp_cond_true (Hz.ev (x := .tmp 9) rfl) ?_
  refine zss (hK2 _ _ ?_); clear hK2
  refine wp_seq_k (fun K3 hK3 => ?_)
  refine wp_block ?_
  refine zsr fun K4 hK4 => ?_
  obtain ⟨gx11, ox11, vx11, hp11, hl11, hR11, hrg11⟩ := h1.extA (k) (r := [.v (.int .i64 vk.bl), .v (.int .i64 vk.sz), .v (.int .i64 vk.fr), .v (.int .i64 vk.to), .l 2 (vk.its.map itD)]) (strD_get hes)
  cases hp11; clear hl11
  rcases hR11 with _ | ⟨hd11_0, _ | ⟨hd11_1, _ | ⟨hd11_2, _ | ⟨hd11_3, _ | ⟨hd11_4, _ | _⟩⟩⟩⟩⟩
  obtain rfl := hd11_0.v_out
  clear hd11_0
  obtain rfl := hd11_1.v_out
  clear hd11_1
  obtain rfl := hd11_2.v_out
  clear hd11_2
  obtain rfl := hd11_3.v_out
  clear hd11_3
  obtain ⟨p12, c12, hv12, hw12⟩ := hd11_4.l_shape; subst hv12
  refine goCh Hz (.c rfl (fun _ h => y_idx h rfl rfl U25 fct7 (k) rfl hk) <| .loadAt (hrg11 m7 rfl) rfl U35 rfl fct7 <| .nil) ?_
  clear Hz Az; intro Az Hz
  refine wpList_plain rfl (fun K hK => ?_)
  refine e_alloc Hz m7 101 fct21 rfl ?_
  clear Hz Az m7; intro g15 Az w16 Hz m16 hB16 hg16
  clear hB16 hg16
  refine hK _ _ ?_; clear hK
  refine wpList_plain rfl (fun K hK => ?_)
  refine e_storeW Hz m16 101 rfl rfl rfl rfl rfl fct7 ?_
  clear m16; intro w17 m17 hB17
  clear hB17
  refine hK _ _ ?_; clear hK
  refine znl (hK4 _ _ ?_); clear hK4
  refine zsr fun K5 hK5 => ?_
  refine goCh Hz (.loadBR m17 (i := 101) rfl rfl U35 rfl fct7 (by simp) (by dsimp only [List.drop, List.take] <;> rfl) .nil) ?_
  clear Hz Az; intro Az Hz
  refine wpList_plain rfl (fun K hK => ?_)
  refine e_call Hz Tryd.func23 rfl rfl rfl rfl (sright_yes vk.bl vk.sz vk.fr vk.to vk.its _ _ _ _ ((hd11_4.now' m17 rfl).any) (hs _ (List.mem_of_getElem? hes))) ?_
  rintro e w20 ⟨rfl, hb20⟩
  have m21 := m17.later hb20
  clear m17
  clear hb20
  refine ⟨_, rfl, ?_⟩; clear Hz Az; intro Az Hz
  refine hK _ _ ?_; clear hK
  refine goCh Hz (.not rfl .nil) ?_
  clear Hz Az; intro Az Hz
  refine znl (hK5 _ _ ?_); clear hK5
  refine wp_cond_false (Hz.ev (x := .tmp 14) rfl) ?_
  refine zss (hK3 _ _ ?_); clear hK3
  replace Hz : Has 23 [(0, _), (2, _), (3, _), (6, _), (7, _), (8, _)] Az := Hz.only [0, 2, 3, 6, 7, 8]
  refine wp_region_lit ?_
  refine goCh Hz (.add rfl rfl (r := ((k + 1 : Nat) : Int)) (by rw [IntWalk.i64_in _ (by omega)]; omega) <| .move rfl <| .nil) ?_
  clear Hz Az; intro Az Hz
  refine wpList_nil ?_
  show ∃ n', n' < _ ∧ _
  exact ⟨l.length - (k + 1), by omega, k + 1, _, by omega, rfl, Hz.only [0, 2, 3, 6, 7, 8], m21.ren [(2, 2)] (by decide)⟩
 clear Hz; intro hb9 Hz; try simp only [QQ, Qax] at hb9
 refine wp_cond_false (Hz.ev (x := .tmp 9) rfl) ?_
 refine wp_exit ?_
 refine hK1 _ _ ?_; clear hK1
 refine wp_seq_k (fun K6 hK6 => ?_)
 refine zsr fun K7 hK7 => ?_
 refine goCh Hz (.move rfl .nil) ?_
 clear Hz Az; intro Az Hz
 refine wpList_plain rfl (fun K hK => ?_)
 refine e_call Hz Tryd.func19 rfl rfl rfl rfl (cright_any l _ _ _ _ ((h1.now' m7 rfl).any) hl hs) ?_
 rintro e w29 ⟨rb, rfl, hrb, hb29⟩
 obtain rfl : rb = true := hrb.2 hC
 have m30 := m7.later hb29
 clear m7
 clear hb29
 refine ⟨_, rfl, ?_⟩; clear Hz Az; intro Az Hz
 refine hK _ _ ?_; clear hK
 refine goCh Hz (.not rfl .nil) ?_
 clear Hz Az; intro Az Hz
 refine znl (hK7 _ _ ?_); clear hK7
 refine wp_cond_false (Hz.ev (x := .tmp 19) rfl) ?_
 refine zss (hK6 _ _ ?_); clear hK6
 refine zsr fun K8 hK8 => ?_
 refine goCh Hz (.move rfl .nil) ?_
 clear Hz Az; intro Az Hz
 refine wpList_plain rfl (fun K hK => ?_)
 refine e_call Hz Tryd.func24 rfl rfl rfl rfl (all_any l.length l _ _ _ _ ((h1.now' m30 rfl).any) hC.1 (Nat.le_refl _) hl ht hok) ?_
 rintro e w35 ⟨sv, p35, c35, hE, hsl, hso, rfl, hd35, hb35⟩
 have m36 := m30.callF 100 rfl hb35 hd35
 clear m30
 clear hb35 hd35
 refine ⟨_, rfl, ?_⟩; clear Hz Az; intro Az Hz
 refine hK _ _ ?_; clear hK
 refine wpList_plain rfl (fun K hK => ?_)
 refine e_storeW Hz m36 2 rfl rfl rfl rfl rfl fct7 ?_
 clear m36; intro w38 m38 hB38
 clear hB38
 refine hK _ _ ?_; clear hK
 refine goCh Hz (.assign rfl .nil) ?_
 clear Hz Az; intro Az Hz
 refine znl (hK8 _ _ ?_); clear hK8
 refine wp_ret ?_
 try dsimp only [Exit.then, Exit.inBlock]
 refine (retCT (fn := Tryd.f10) Hz m38 (i := 2) rfl rfl rfl rfl U35 rfl fct7 ?_)
 exact ⟨sv, _, _, hE, hsl, hso, rfl, m38.outF (i := 100) rfl, m38.below⟩
theorem merge_yes (x y : StrV) (pa pb : Option Addr) (na nb ca cb : Nat) (w0 : World) (h1 : Rd (fun _ => True) w0 (.slice pa na ca) (.l 2 (x.its.map itD))) (h2 : Rd (fun _ => True) w0 (.slice pb nb cb) (.l 2 (y.its.map itD))) (hsx : StreamOk x.bl x.sz x.fr x.to x.its) (hsy : StreamOk y.bl y.sz y.fr y.to y.its) (hoa : ItsOk x.its) (hob : ItsOk y.its) (hC : FolB x y) :
   Calls Tryd.prog 11 #[.agg #[.int .i64 x.bl, .int .i64 x.sz, .int .i64 x.fr, .int .i64 x.to, .slice pa na ca], .agg #[.int .i64 y.bl, .int .i64 y.sz, .int .i64 y.fr, .int .i64 y.to, .slice pb nb cb]] w0 fun e w' => ∃ p c, e = .returned (.tuple #[.agg #[.int .i64 (mergeV x y).bl, .int .i64 (mergeV x y).sz, .int .i64 (mergeV x y).fr, .int .i64 (mergeV x y).to, .slice p (mergeV x y).its.length c], .int .i64 0]) ∧ Rd (New w0) w' (.slice p (mergeV x y).its.length c) (.l 2 ((mergeV x y).its.map itD)) ∧ Below w0.heap.size w0 w' := by
 obtain rfl : na = x.its.length := by obtain ⟨pq, cq, hv, _⟩ := h1.l_shape; injection hv with _ e2 _; rw [List.length_map] at e2; exact e2
 obtain rfl : nb = y.its.length := by obtain ⟨pq, cq, hv, _⟩ := h2.l_shape; injection hv with _ e2 _; rw [List.length_map] at e2; exact e2
 refine ent2 Tryd.func11 rfl Tryd.ntmps11 fun Az Hz => ?_
 have m0 := MemOk.start (fun _ => False) w0
 refine zsr fun K0 hK0 => ?_
 refine wpList_plain rfl (fun K hK => ?_)
 refine e_box Hz m0 20 (cs := [_, _, _, _, _]) rfl rfl rfl ?_
 clear Hz Az m0; intro g1 Az w2 Hz m2 hB2 hg2
 clear hB2 hg2
 refine hK _ _ ?_; clear hK
 refine wpList_plain rfl (fun K hK => ?_)
 refine e_box Hz m2 21 (cs := [_, _, _, _, _]) rfl rfl rfl ?_
 clear Hz Az m2; intro g3 Az w4 Hz m4 hB4 hg4
 clear hB4 hg4
 refine hK _ _ ?_; clear hK
 refine wpList_plain rfl (fun K hK => ?_)
 refine e_alloc Hz m4 22 fct21 rfl ?_
 clear Hz Az m4; intro g5 Az w6 Hz m6 hB6 hg6
 clear hB6 hg6
 refine hK _ _ ?_; clear hK
 refine goCh Hz (.assign rfl .nil) ?_
 clear Hz Az; intro Az Hz
 refine znl (hK0 _ _ ?_); clear hK0
 refine wp_seq_k (fun K1 hK1 => ?_)
 refine zsr fun K2 hK2 => ?_
 refine goCh Hz (.loadBR m6 (i := 20) rfl rfl U35 rfl fct7 (by simp) (by dsimp only [List.drop, List.take] <;> rfl) .nil) ?_
 clear Hz Az; intro Az Hz
 refine wpList_plain rfl (fun K hK => ?_)
 refine e_call Hz Tryd.func23 rfl rfl rfl rfl (sright_yes x.bl x.sz x.fr x.to x.its _ _ _ _ ((h1.now' m6 rfl).any) hsx) ?_
 rintro e w10 ⟨rfl, hb10⟩
 have m11 := m6.later hb10
 clear m6
 clear hb10
 refine ⟨_, rfl, ?_⟩; clear Hz Az; intro Az Hz
 refine hK _ _ ?_; clear hK
 refine goCh Hz (.not rfl <| .move rfl <| .loadBRZ m11 (i := 21) rfl rfl U35 rfl fct7 (by simp) (by dsimp only [List.drop, List.take] <;> rfl) <| .nil) ?_
 clear Hz Az; intro Az Hz
 refine st_ge Hz rfl rfl rfl rfl (fun K hK => ?_)
 refine e_call Hz Tryd.func23 rfl rfl rfl rfl (sright_yes y.bl y.sz y.fr y.to y.its _ _ _ _ ((h2.now' m11 rfl).any) hsy) ?_
 rintro e w16 ⟨rfl, hb16⟩
 have m17 := m11.later hb16
 clear m11
 clear hb16
 refine ⟨_, rfl, ?_⟩; clear Hz Az; intro Az Hz
 refine hK _ _ ?_; clear hK
 refine goCh Hz (.notZ rfl <| .pickF rfl rfl <| .nil) ?_
 clear Hz Az; intro Az Hz
 refine znl (hK2 _ _ ?_); clear hK2
 refine wp_cond_false (Hz.ev (x := .tmp 13) rfl) ?_
 refine zss (hK1 _ _ ?_); clear hK1
 refine wp_seq_k (fun K3 hK3 => ?_)
 replace Hz : Has 23 [(2, _), (3, _), (4, _), (5, _)] Az := Hz.only [2, 3, 4, 5]
 refine zsr fun K4 hK4 => ?_
 refine goCh Hz (.loadBR m17 (i := 20) rfl rfl U35 rfl fct7 (by simp) (by dsimp only [List.drop, List.take] <;> rfl) <| .loadBR m17 (i := 21) rfl rfl U35 rfl fct7 (by simp) (by dsimp only [List.drop, List.take] <;> rfl) <| .nil) ?_
 clear Hz Az; intro Az Hz
 refine wpList_plain rfl (fun K hK => ?_)
 refine e_call Hz Tryd.func20 rfl rfl rfl rfl (follows_any x y _ _ _ _ _ _ _ ((h1.now' m17 rfl).any) ((h2.now' m17 rfl).any) hsx hsy) ?_
 rintro e w26 ⟨fb, rfl, hfb, hb26⟩
 obtain rfl : fb = true := hfb.2 hC
 have m27 := m17.later hb26
 clear m17
 clear hb26
 refine ⟨_, rfl, ?_⟩; clear Hz Az; intro Az Hz
 refine hK _ _ ?_; clear hK
 refine goCh Hz (.not rfl .nil) ?_
 clear Hz Az; intro Az Hz
 refine znl (hK4 _ _ ?_); clear hK4
 refine wp_cond_false (Hz.ev (x := .tmp 18) rfl) ?_
 refine zss (hK3 _ _ ?_); clear hK3
 refine zsr fun K5 hK5 => ?_
 refine goCh Hz (.loadBR m27 (i := 20) rfl rfl U35 rfl fct7 (by simp) (by dsimp only [List.drop, List.take] <;> rfl) <| .loadBR m27 (i := 21) rfl rfl U35 rfl fct7 (by simp) (by dsimp only [List.drop, List.take] <;> rfl) <| .nil) ?_
 clear Hz Az; intro Az Hz
 refine wpList_plain rfl (fun K hK => ?_)
 refine e_call Hz Tryd.func25 rfl rfl rfl rfl (merge_any x y _ _ _ _ _ _ _ ((h1.now' m27 rfl).any) ((h2.now' m27 rfl).any) (by have := hsx.len; have := hsy.len; omega) hoa hob) ?_
 rintro e w34 ⟨p34, c34, rfl, hd34, hb34⟩
 have m35 := m27.callF 23 rfl hb34 hd34
 clear m27
 clear hb34 hd34
 refine ⟨_, rfl, ?_⟩; clear Hz Az; intro Az Hz
 refine hK _ _ ?_; clear hK
 refine wpList_plain rfl (fun K hK => ?_)
 refine e_storeW Hz m35 22 rfl rfl rfl rfl rfl fct7 ?_
 clear m35; intro w37 m37 hB37
 clear hB37
 refine hK _ _ ?_; clear hK
 refine goCh Hz (.assign rfl .nil) ?_
 clear Hz Az; intro Az Hz
 refine znl (hK5 _ _ ?_); clear hK5
 refine wp_ret ?_
 try dsimp only [Exit.then, Exit.inBlock]
 refine (retCT (fn := Tryd.f11) Hz m37 (i := 22) rfl rfl rfl rfl U35 rfl fct7 ?_)
 exact ⟨_, _, rfl, m37.outF (i := 23) rfl, m37.below⟩
theorem merge_no (x y : StrV) (pa pb : Option Addr) (na nb ca cb : Nat) (w0 : World) (h1 : Rd (fun _ => True) w0 (.slice pa na ca) (.l 2 (x.its.map itD))) (h2 : Rd (fun _ => True) w0 (.slice pb nb cb) (.l 2 (y.its.map itD))) (hsx : StreamOk x.bl x.sz x.fr x.to x.its) (hsy : StreamOk y.bl y.sz y.fr y.to y.its) (hC : ¬ FolB x y) :
   Calls Tryd.prog 11 #[.agg #[.int .i64 x.bl, .int .i64 x.sz, .int .i64 x.fr, .int .i64 x.to, .slice pa na ca], .agg #[.int .i64 y.bl, .int .i64 y.sz, .int .i64 y.fr, .int .i64 y.to, .slice pb nb cb]] w0 fun e w' => e = .returned (.tuple #[.agg #[.int .i64 0, .int .i64 0, .int .i64 0, .int .i64 0, .slice none 0 0], .int .i64 38]) ∧ Below w0.heap.size w0 w' := by
 obtain rfl : na = x.its.length := by obtain ⟨pq, cq, hv, _⟩ := h1.l_shape; injection hv with _ e2 _; rw [List.length_map] at e2; exact e2
 obtain rfl : nb = y.its.length := by obtain ⟨pq, cq, hv, _⟩ := h2.l_shape; injection hv with _ e2 _; rw [List.length_map] at e2; exact e2
 refine ent2 Tryd.func11 rfl Tryd.ntmps11 fun Az Hz => ?_
 have m0 := MemOk.start (fun _ => False) w0
 refine zsr fun K0 hK0 => ?_
 refine wpList_plain rfl (fun K hK => ?_)
 refine e_box Hz m0 20 (cs := [_, _, _, _, _]) rfl rfl rfl ?_
 clear Hz Az m0; intro g1 Az w2 Hz m2 hB2 hg2
 clear hB2 hg2
 refine hK _ _ ?_; clear hK
 refine wpList_plain rfl (fun K hK => ?_)
 refine e_box Hz m2 21 (cs := [_, _, _, _, _]) rfl rfl rfl ?_
 clear Hz Az m2; intro g3 Az w4 Hz m4 hB4 hg4
 clear hB4 hg4
 refine hK _ _ ?_; clear hK
 refine wpList_plain rfl (fun K hK => ?_)
 refine e_alloc Hz m4 22 fct21 rfl ?_
 clear Hz Az m4; intro g5 Az w6 Hz m6 hB6 hg6
 clear hB6 hg6
 refine hK _ _ ?_; clear hK
 refine goCh Hz (.assign rfl .nil) ?_
 clear Hz Az; intro Az Hz
 refine znl (hK0 _ _ ?_); clear hK0
 refine wp_seq_k (fun K1 hK1 => ?_)
 refine zsr fun K2 hK2 => ?_
 refine goCh Hz (.loadBR m6 (i := 20) rfl rfl U35 rfl fct7 (by simp) (by dsimp only [List.drop, List.take] <;> rfl) .nil) ?_
 clear Hz Az; intro Az Hz
 refine wpList_plain rfl (fun K hK => ?_)
 refine e_call Hz Tryd.func23 rfl rfl rfl rfl (sright_yes x.bl x.sz x.fr x.to x.its _ _ _ _ ((h1.now' m6 rfl).any) hsx) ?_
 rintro e w10 ⟨rfl, hb10⟩
 have m11 := m6.later hb10
 clear m6
 clear hb10
 refine ⟨_, rfl, ?_⟩; clear Hz Az; intro Az Hz
 refine hK _ _ ?_; clear hK
 refine goCh Hz (.not rfl <| .move rfl <| .loadBRZ m11 (i := 21) rfl rfl U35 rfl fct7 (by simp) (by dsimp only [List.drop, List.take] <;> rfl) <| .nil) ?_
 clear Hz Az; intro Az Hz
 refine st_ge Hz rfl rfl rfl rfl (fun K hK => ?_)
 refine e_call Hz Tryd.func23 rfl rfl rfl rfl (sright_yes y.bl y.sz y.fr y.to y.its _ _ _ _ ((h2.now' m11 rfl).any) hsy) ?_
 rintro e w16 ⟨rfl, hb16⟩
 have m17 := m11.later hb16
 clear m11
 clear hb16
 refine ⟨_, rfl, ?_⟩; clear Hz Az; intro Az Hz
 refine hK _ _ ?_; clear hK
 refine goCh Hz (.notZ rfl <| .pickF rfl rfl <| .nil) ?_
 clear Hz Az; intro Az Hz
 refine znl (hK2 _ _ ?_); clear hK2
 refine wp_cond_false (Hz.ev (x := .tmp 13) rfl) ?_
 refine zss (hK1 _ _ ?_); clear hK1
 refine wp_seq_k (fun K3 hK3 => ?_)
 replace Hz : Has 23 [(2, _), (3, _), (4, _), (5, _)] Az := Hz.only [2, 3, 4, 5]
 refine zsr fun K4 hK4 => ?_
 refine goCh Hz (.loadBR m17 (i := 20) rfl rfl U35 rfl fct7 (by simp) (by dsimp only [List.drop, List.take] <;> rfl) <| .loadBR m17 (i := 21) rfl rfl U35 rfl fct7 (by simp) (by dsimp only [List.drop, List.take] <;> rfl) <| .nil) ?_
 clear Hz Az; intro Az Hz
 refine wpList_plain rfl (fun K hK => ?_)
 refine e_call Hz Tryd.func20 rfl rfl rfl rfl (follows_any x y _ _ _ _ _ _ _ ((h1.now' m17 rfl).any) ((h2.now' m17 rfl).any) hsx hsy) ?_
 rintro e w26 ⟨fb, rfl, hfb, hb26⟩
 obtain rfl : fb = false := by cases fb; rfl; exact absurd (hfb.1 rfl) hC
 have m27 := m17.later hb26
 clear m17
 clear hb26
 refine ⟨_, rfl, ?_⟩; clear Hz Az; intro Az Hz
 refine hK _ _ ?_; clear hK
 refine goCh Hz (.not rfl .nil) ?_
 clear Hz Az; intro Az Hz
 refine znl (hK4 _ _ ?_); clear hK4
 refine wp_cond_true (Hz.ev (x := .tmp 18) rfl) ?_
 refine zsr fun K5 hK5 => ?_
 refine goCh Hz (.build rfl fct21 fl35cmn rfl (by dsimp only [setL, List.set] <;> rfl) .nil) ?_
 clear Hz Az; intro Az Hz
 refine wpList_plain rfl (fun K hK => ?_)
 refine e_storeW Hz m27 22 rfl rfl rfl rfl rfl fct7 ?_
 clear m27; intro w32 m32 hB32
 clear hB32
 refine hK _ _ ?_; clear hK
 refine goCh Hz (.assign rfl .nil) ?_
 clear Hz Az; intro Az Hz
 refine znl (hK5 _ _ ?_); clear hK5
 refine wp_ret ?_
 try dsimp only [Exit.then, Exit.inBlock]
 refine (retCT (fn := Tryd.f11) Hz m32 (i := 22) rfl rfl rfl rfl U35 rfl fct7 ?_)
 exact ⟨rfl, m32.below⟩
theorem blocks_yes (v : StrV) (p : Option Addr) (nn c : Nat) (w0 : World) (h1 : Rd (fun _ => True) w0 (.slice p nn c) (.l 2 (v.its.map itD))) (hs : StreamOk v.bl v.sz v.fr v.to v.its) (hok : ItsOk v.its) (hf : v.fr < 0) :
   Calls Tryd.prog 15 #[.agg #[.int .i64 v.bl, .int .i64 v.sz, .int .i64 v.fr, .int .i64 v.to, .slice p nn c]] w0 fun e w' => ∃ p c, e = .returned (.slice p v.its.length c) ∧ Rd (New w0) w' (.slice p v.its.length c) (.l 1 ((v.its.map Prod.snd).map bD)) ∧ Below w0.heap.size w0 w' := by
 obtain rfl : nn = v.its.length := by obtain ⟨pq, cq, hv, _⟩ := h1.l_shape; injection hv with _ e2 _; rw [List.length_map] at e2; exact e2
 refine ent1 Tryd.func15 rfl Tryd.ntmps15 fun Az Hz => ?_
 have m0 := MemOk.start (fun _ => False) w0
 have hlen := hs.len
 refine zsr fun K0 hK0 => ?_
 refine wpList_plain rfl (fun K hK => ?_)
 refine e_box Hz m0 20 (cs := [_, _, _, _, _]) rfl rfl rfl ?_
 clear Hz Az m0; intro g1 Az w2 Hz m2 hB2 hg2
 clear hB2 hg2
 refine hK _ _ ?_; clear hK
 refine goCh Hz (.assign rfl .nil) ?_
 clear Hz Az; intro Az Hz
 refine znl (hK0 _ _ ?_); clear hK0
 refine wp_seq_k (fun K1 hK1 => ?_)
 refine zsr fun K2 hK2 => ?_
 refine goCh Hz (.loadBR m2 (i := 20) rfl rfl U35 rfl fct7 (by simp) (by dsimp only [List.drop, List.take] <;> rfl) .nil) ?_
 clear Hz Az; intro Az Hz
 refine wpList_plain rfl (fun K hK => ?_)
 refine e_call Hz Tryd.func27 rfl rfl rfl rfl (full_gen _ _ _ _ _ _ _ _) ?_
 rintro e w6 ⟨rfl, hb6⟩
 have m7 := m2.later hb6
 clear m2
 clear hb6
 refine ⟨_, rfl, ?_⟩; clear Hz Az; intro Az Hz
 refine hK _ _ ?_; clear hK
 refine goCh Hz (.not rfl <| .move rfl <| .nil) ?_
 clear Hz Az; intro Az Hz
 refine bool_cases Hz (t := 9) rfl ?_ ?_
 · intro hb _; exact absurd hb (by simp; omega)
 clear Hz; intro _ Hz
 refine goCh Hz (.loadBRZ m7 (i := 20) rfl rfl U35 rfl fct7 (by simp) (by dsimp only [List.drop, List.take] <;> rfl) .nil) ?_
 clear Hz Az; intro Az Hz
 refine st_ge Hz rfl rfl rfl rfl (fun K hK => ?_)
 refine e_call Hz Tryd.func23 rfl rfl rfl rfl (sright_yes v.bl v.sz v.fr v.to v.its _ _ _ _ ((h1.now' m7 rfl).any) hs) ?_
 rintro e w13 ⟨rfl, hb13⟩
 have m14 := m7.later hb13
 clear m7
 clear hb13
 refine ⟨_, rfl, ?_⟩; clear Hz Az; intro Az Hz
 refine hK _ _ ?_; clear hK
 refine goCh Hz (.notZ rfl <| .pickF rfl rfl <| .nil) ?_
 clear Hz Az; intro Az Hz
 refine znl (hK2 _ _ ?_); clear hK2
 refine wp_cond_false (Hz.ev (x := .tmp 13) rfl) ?_
 refine zss (hK1 _ _ ?_); clear hK1
 replace Hz : Has 29 [(1, _), (2, _)] Az := Hz.only [1, 2]
 refine regS Hz (.assign rfl <| .nil) ?_
 clear Hz Az; intro Az Hz
 refine wp_seq_k (fun K3 hK3 => ?_)
 refine regS Hz (.fa 4 rfl U35 <| .lb m14 20 U33 rfl rfl rfl <| .len rfl U33 <| .move rfl <| .nil) ?_
 clear Hz Az; intro Az Hz
 refine wp_block ?_
 refine wp_loop_ghost (fun g a w => ∃ (k B1 : Nat) (p1 : Option Addr) (c1 : Nat), k ≤ v.its.length ∧ g = v.its.length - k ∧ Has 29 [(1, .pointer (some ⟨B1, 0, none⟩)), (3, .slice p1 ((v.its.take k).map sndD).length c1), (15, .slice p v.its.length c), (16, .int .i64 v.its.length), (17, .int .i64 k)] a ∧ MemOk (cn w0) w0 [(9, .row (.slice p1 ((v.its.take k).map sndD).length c1) 22 1 ((v.its.take k).map sndD))] w) (v.its.length) ?_ ?_
 · have mz := m14.nilR 9 22 1
   exact ⟨0, _, _, _, Nat.zero_le _, rfl, Hz.only [1, 3, 15, 16, 17], mz.only [9]⟩
 clear Hz m14
 rintro g Az w24 ⟨k, B1, p1, c1, hkl, hg, Hz, m24⟩
 refine regS Hz (.lss rfl rfl <| .nil) ?_
 clear Hz Az; intro Az Hz
 refine wp_seq_k (fun K4 hK4 => ?_)
 refine bool_cases Hz (t := 18) rfl ?_ ?_
 ·
  clear Hz; intro hb26 Hz; try simp only [QQ, Qax] at hb26
  have hk : k < v.its.length := by have := hb26; first | omega | (simp at this; omega)
  obtain ⟨⟨xb, xd⟩, hes⟩ : ∃ e, v.its[k]? = some e := ⟨_, List.getElem?_eq_getElem hk⟩
  refine wp_cond_true (Hz.ev (x := .tmp 18) rfl) ?_
  refine zss (hK4 _ _ ?_); clear hK4
  refine wp_seq_k (fun K5 hK5 => ?_)
  refine wp_block ?_
  refine zsr fun K6 hK6 => ?_
  obtain ⟨gx28, ox28, vx28, hp28, hl28, hR28, hrg28⟩ := h1.extA (k) (r := [.v (.int .i64 xb), .ns .u8 xd]) (itD_get hes)
  cases hp28; clear hl28
  rcases hR28 with _ | ⟨hd28_0, _ | ⟨hd28_1, _ | _⟩⟩
  obtain rfl := hd28_0.v_out
  clear hd28_0
  obtain ⟨p29, c29, hv29, hw29⟩ := hd28_1.ns_shape; subst hv29
  refine goCh Hz (.c rfl (fun _ h => y_idx h rfl rfl U33 fct2 (k) rfl hk) <| .loadAt (hrg28 m24 rfl) rfl U58 rfl fct2 <| .nil) ?_
  clear Hz Az; intro Az Hz
  refine wpList_plain rfl (fun K hK => ?_)
  refine e_alloc Hz m24 101 fct3 rfl ?_
  clear Hz Az m24; intro g32 Az w33 Hz m33 hB33 hg33
  clear hB33 hg33
  refine hK _ _ ?_; clear hK
  refine wpList_plain rfl (fun K hK => ?_)
  refine e_storeW Hz m33 101 rfl rfl rfl rfl rfl fct2 ?_
  clear m33; intro w34 m34 hB34
  clear hB34
  refine hK _ _ ?_; clear hK
  refine znl (hK6 _ _ ?_); clear hK6
  refine wp_region_lit ?_
  refine goCh Hz (.move rfl <| .fa 1 rfl U58 <| .lb m34 101 U22 rfl rfl rfl <| .nil) ?_
  clear Hz Az; intro Az Hz
  refine wpList_plain rfl (fun K hK => ?_)
  refine e_call Hz Tryd.func28 rfl rfl rfl rfl (plainB_any xd _ _ _ ((hd28_1.now' m34 rfl).any) (hok _ (List.mem_of_getElem? hes))) ?_
  rintro e w38 ⟨p38, c38, rfl, hd38, hb38⟩
  have m39 := m34.callF 102 rfl hb38 hd38
  clear m34
  clear hb38 hd38
  refine ⟨_, rfl, ?_⟩; clear Hz Az; intro Az Hz
  refine hK _ _ ?_; clear hK
  refine wpList_plain rfl (fun K hK => ?_)
  refine e_litR Hz m39 103 (mm := 1) rfl (.cons rfl rfl (.cons (m39.rd (i := 102) rfl) .nil) <| .nil) U40 fct30 rfl rfl rfl rfl rfl ?_
  clear Hz Az m39; intro g41 Az w42 Hz m42
  refine hK _ _ ?_; clear hK
  have m44 := m42.freezeR 103 rfl; clear m42
  refine wpList_plain rfl (fun K hK => ?_)
  refine e_appR Hz m44 9 rfl rfl rfl (m44.rd (i := 103) rfl) U40 fct30 rfl rfl (by decide) (by simp; omega) rfl ?_
  clear Hz Az m44; intro p43 c43 Az w45 Hz m45
  refine hK _ _ ?_; clear hK
  refine goCh Hz (.assign rfl .nil) ?_
  clear Hz Az; intro Az Hz
  refine znl (hK5 _ _ ?_); clear hK5
  replace Hz : Has 29 [(1, _), (3, _), (15, _), (16, _), (17, _)] Az := Hz.only [1, 3, 15, 16, 17]
  refine wp_region_lit ?_
  refine goCh Hz (.add rfl rfl (r := ((k + 1 : Nat) : Int)) (by rw [IntWalk.i64_in _ (by omega)]; omega) <| .move rfl <| .nil) ?_
  clear Hz Az; intro Az Hz
  refine wpList_nil ?_
  show ∃ n', n' < _ ∧ _
  have hE : ((v.its.take k).map sndD) ++ [[D.ns .u8 xd]] = ((v.its.take (k + 1)).map sndD) := by rw [take_snoc hes, List.map_append]; rfl
  rw [hE] at m45 Hz
  exact ⟨v.its.length - (k + 1), by omega, k + 1, _, _, _, by omega, rfl, Hz.only [1, 3, 15, 16, 17], m45.ren [(9, 9)] (by decide)⟩
 clear Hz; intro hb26 Hz; try simp only [QQ, Qax] at hb26
 have hke : k = v.its.length := by have := hb26; first | omega | (simp at this; omega)
 refine wp_cond_false (Hz.ev (x := .tmp 18) rfl) ?_
 refine wp_exit ?_
 refine hK3 _ _ ?_; clear hK3
 refine regS Hz (.move rfl <| .assign rfl <| .nil) ?_
 clear Hz Az; intro Az Hz
 refine wp_ret ?_
 try dsimp only [Exit.then, Exit.inBlock]
 refine (ret1 (fn := Tryd.f15) Hz rfl rfl ?_)
 have m52 := m24.freezeR 9 rfl; clear m24
 rw [hke, List.take_length] at m52
 rw [hke, List.take_length]
 exact ⟨_, _, by rw [List.length_map], by have h9 := m52.outF (i := 9) rfl; rw [List.length_map] at h9; rw [List.map_map]; exact h9, m52.below⟩
theorem streams_same (v : StrV) (pa pb : Option Addr) (na nb ca cb : Nat) (w0 : World) (h1 : Rd (fun _ => True) w0 (.slice pa na ca) (.l 2 (v.its.map itD))) (h2 : Rd (fun _ => True) w0 (.slice pb nb cb) (.l 2 (v.its.map itD))) (hl : v.its.length ≤ 1000000) :
   Calls Tryd.prog 13 #[.agg #[.int .i64 v.bl, .int .i64 v.sz, .int .i64 v.fr, .int .i64 v.to, .slice pa na ca], .agg #[.int .i64 v.bl, .int .i64 v.sz, .int .i64 v.fr, .int .i64 v.to, .slice pb nb cb]] w0 fun e w' => e = .returned (.bool true) ∧ Below w0.heap.size w0 w' := by
 refine ent2 Tryd.func13 rfl Tryd.ntmps13 fun Az Hz => ?_
 have m0 := MemOk.start (fun _ => False) w0
 refine zsr fun K0 hK0 => ?_
 refine wpList_plain rfl (fun K hK => ?_)
 refine e_box Hz m0 20 (cs := [_, _, _, _, _]) rfl rfl rfl ?_
 clear Hz Az m0; intro g1 Az w2 Hz m2 hB2 hg2
 clear hB2 hg2
 refine hK _ _ ?_; clear hK
 refine wpList_plain rfl (fun K hK => ?_)
 refine e_box Hz m2 21 (cs := [_, _, _, _, _]) rfl rfl rfl ?_
 clear Hz Az m2; intro g3 Az w4 Hz m4 hB4 hg4
 clear hB4 hg4
 refine hK _ _ ?_; clear hK
 refine goCh Hz (.assign rfl .nil) ?_
 clear Hz Az; intro Az Hz
 refine znl (hK0 _ _ ?_); clear hK0
 refine zsr fun K1 hK1 => ?_
 refine goCh Hz (.fa 0 rfl U35 <| .lb m4 20 U3 rfl rfl rfl <| .fa 0 rfl U35 <| .lb m4 21 U3 rfl rfl rfl <| .eql rfl rfl <| .move rfl <| .nil) ?_
 clear Hz Az; intro Az Hz
 refine bool_cases Hz (t := 10) rfl ?_ ?_
 rotate_left
 · intro hb _; exact absurd hb (by simp)
 clear Hz; intro _ Hz
 refine goCh Hz (.faZ 1 rfl U35 <| .loadB1Z m4 (i := 20) rfl rfl rfl U3 rfl <| .faZ 1 rfl U35 <| .loadB1Z m4 (i := 21) rfl rfl rfl U3 rfl <| .eqlZ rfl rfl <| .pickT rfl rfl <| .move rfl <| .nil) ?_
 clear Hz Az; intro Az Hz
 refine bool_cases Hz (t := 17) rfl ?_ ?_
 rotate_left
 · intro hb _; exact absurd hb (by simp)
 clear Hz; intro _ Hz
 refine goCh Hz (.faZ 2 rfl U35 <| .loadB1Z m4 (i := 20) rfl rfl rfl U2 rfl <| .faZ 2 rfl U35 <| .loadB1Z m4 (i := 21) rfl rfl rfl U2 rfl <| .eqlZ rfl rfl <| .pickT rfl rfl <| .move rfl <| .nil) ?_
 clear Hz Az; intro Az Hz
 refine bool_cases Hz (t := 24) rfl ?_ ?_
 rotate_left
 · intro hb _; exact absurd hb (by simp)
 clear Hz; intro _ Hz
 refine goCh Hz (.faZ 3 rfl U35 <| .loadB1Z m4 (i := 20) rfl rfl rfl U2 rfl <| .faZ 3 rfl U35 <| .loadB1Z m4 (i := 21) rfl rfl rfl U2 rfl <| .eqlZ rfl rfl <| .pickT rfl rfl <| .move rfl <| .nil) ?_
 clear Hz Az; intro Az Hz
 refine bool_cases Hz (t := 31) rfl ?_ ?_
 rotate_left
 · intro hb _; exact absurd hb (by simp)
 clear Hz; intro _ Hz
 refine goCh Hz (.faZ 4 rfl U35 <| .loadB1Z m4 (i := 20) rfl rfl rfl U33 rfl <| .faZ 4 rfl U35 <| .loadB1Z m4 (i := 21) rfl rfl rfl U33 rfl <| .nil) ?_
 clear Hz Az; intro Az Hz
 refine st_ge Hz rfl rfl rfl rfl (fun K hK => ?_)
 refine e_call Hz Tryd.func26 rfl rfl rfl rfl (sitems_any v.its _ _ _ _ _ _ _ ((h1.now' m4 rfl).any) ((h2.now' m4 rfl).any) hl) ?_
 rintro e w47 ⟨rfl, hb47⟩
 have m48 := m4.later hb47
 clear m4
 clear hb47
 refine ⟨_, rfl, ?_⟩; clear Hz Az; intro Az Hz
 refine hK _ _ ?_; clear hK
 refine goCh Hz (.pickT rfl rfl <| .assign rfl <| .nil) ?_
 clear Hz Az; intro Az Hz
 refine znl (hK1 _ _ ?_); clear hK1
 refine wp_ret ?_
 try dsimp only [Exit.then, Exit.inBlock]
 refine (ret1 (fn := Tryd.f13) Hz rfl rfl ?_)
 exact ⟨rfl, m48.below⟩
theorem decode_none (w0 : World) :
   Calls Tryd.prog 17 #[.slice none 0 0] w0 fun e w' => e = .returned (.tuple #[.slice none 0 0, .int .i64 0, .int .i64 38]) ∧ Below w0.heap.size w0 w' := by
 refine ent1 Tryd.func17 rfl Tryd.ntmps17 fun Az Hz => ?_
 have m0 := MemOk.start (fun _ => False) w0
 refine regS Hz (.assign rfl <| .assign rfl <| .assign rfl <| .nil) ?_
 clear Hz Az; intro Az Hz
 refine regS Hz (.assign rfl <| .nil) ?_
 clear Hz Az; intro Az Hz
 refine wp_seq_k (fun K0 hK0 => ?_)
 refine regS Hz (.move rfl <| .len rfl U40 <| .move rfl <| .nil) ?_
 clear Hz Az; intro Az Hz
 refine wp_block ?_
 refine wp_loop_ghost (fun g a w => g = 0 ∧ Has 45 [(5, .slice none 0 0), (12, .int .i64 0), (13, .int .i64 0)] a ∧ MemOk (cn w0) w0 [] w) (0) ?_ ?_
 · exact ⟨rfl, Hz.only [5, 12, 13], m0.only []⟩
 clear Hz m0
 rintro g Az w8 ⟨hg, Hz, m8⟩
 refine regS Hz (.lss rfl rfl <| .nil) ?_
 clear Hz Az; intro Az Hz
 refine wp_seq_k (fun K1 hK1 => ?_)
 refine bool_cases Hz (t := 14) rfl ?_ ?_
 · intro hb _; exact absurd hb (by simp)
 clear Hz; intro _ Hz
 refine wp_cond_false (Hz.ev (x := .tmp 14) rfl) ?_
 refine wp_exit ?_
 refine hK0 _ _ ?_; clear hK0
 refine wp_seq_k (fun K2 hK2 => ?_)
 refine zsr fun K3 hK3 => ?_
 refine goCh Hz (.move rfl .nil) ?_
 clear Hz Az; intro Az Hz
 refine wpList_plain rfl (fun K hK => ?_)
 refine e_call Hz Tryd.func35 rfl rfl rfl rfl (broken_any [] none 0 0 _ (.l0 _ _ _) (by simp) (by simp)) ?_
 rintro e w13 ⟨kb, rfl, hkb, _, _, hb13⟩
 obtain rfl : kb = 0 := by simpa using hkb
 have m14 := m8.later hb13
 clear m8
 clear hb13
 refine ⟨_, rfl, ?_⟩; clear Hz Az; intro Az Hz
 refine hK _ _ ?_; clear hK
 refine goCh Hz (.assign rfl .nil) ?_
 clear Hz Az; intro Az Hz
 refine znl (hK3 _ _ ?_); clear hK3
 refine zsr fun K4 hK4 => ?_
 refine goCh Hz (.move rfl <| .len rfl U25 <| .eql rfl rfl <| .move rfl <| .nil) ?_
 clear Hz Az; intro Az Hz
 refine bool_cases Hz (t := 37) rfl ?_ ?_
 rotate_left
 · intro hb _; exact absurd hb (by simp)
 clear Hz; intro _ Hz
 refine goCh Hz (.sk <| .sk <| .sk <| .sk <| .pickT rfl rfl <| .nil) ?_
 clear Hz Az; intro Az Hz
 refine znl (hK4 _ _ ?_); clear hK4
 refine wp_cond_true (Hz.ev (x := .tmp 42) rfl) ?_
 replace Hz : Has 45 [(5, _), (12, _), (13, _), (10, _)] Az := Hz.only [5, 12, 13, 10]
 refine regS Hz (.move rfl <| .assign rfl <| .assign rfl <| .assign rfl <| .nil) ?_
 clear Hz Az; intro Az Hz
 refine wp_ret ?_
 try dsimp only [Exit.then, Exit.inBlock]
 refine (ret3 (fn := Tryd.f17) Hz rfl rfl rfl rfl ?_)
 exact ⟨rfl, m14.below⟩
end Go.Proofs.YtflcgpajodfkoaaDoor.K
