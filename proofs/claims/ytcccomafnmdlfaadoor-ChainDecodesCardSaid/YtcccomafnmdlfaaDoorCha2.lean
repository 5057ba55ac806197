/- chain: which streams follow one another, which are a chain; Merge, All, Blocks. -/
import Derived.Test.YtcccomafnmdlfaaDoorCha1
namespace Go.Proofs.YtcccomafnmdlfaaDoor.K
open Go.ChangeShapes Go.WideShapes Go.ChangeAt Go.RowKit
set_option linter.unusedVariables false
set_option linter.unusedSimpArgs false
theorem fl38cmn : flatS Tryd.prog 38 [.int .i64 0, .int .i64 0, .int .i64 0, .int .i64 0, .slice none 0 0] = true := by kernel_rfl
def FolB (x y : StrV) : Prop := x.bl = y.bl ∧ x.sz = y.sz ∧ y.fr = x.to
def OkAt (l : List StrV) (i : Nat) : Prop := if i = 0 then (l.getD 0 s0V).fr < 0 else FolB (l.getD (i - 1) s0V) (l.getD i s0V)
def ChainOk (l : List StrV) : Prop := 0 < l.length ∧ ∀ i, i < l.length → OkAt l i
theorem kb_all {k n : Nat} (h : k = n) : k = n := h
theorem kb_eq {l : List StrV} {k : Nat} (hk : k ≤ l.length) (h : ∀ i, i < l.length → OkAt l i) (h2 : k < l.length → ¬ OkAt l k) : k = l.length := by
 rcases Nat.lt_or_ge k l.length with h8 | h8
 · exact absurd (h k h8) (h2 h8)
 omega
def sndD (e : PI) : List D := [.ns .u8 e.2]
set_option maxRecDepth 100000
set_option maxHeartbeats 4000000
theorem full_gen (bl sz fr to : Int) (pi : Option Addr) (ni ci : Nat) (w0 : World) :
   Calls Tryd.prog 31 #[.agg #[.int .i64 bl, .int .i64 sz, .int .i64 fr, .int .i64 to, .slice pi ni ci]] w0 fun e w' => e = .returned (.bool (decide (fr < 0))) ∧ Below w0.heap.size w0 w' := by
 refine ent1 Tryd.func31 rfl Tryd.ntmps31 fun Az Hz => ?_
 have m0 := MemOk.start (fun _ => False) w0
 refine zsr fun K0 hK0 => ?_
 refine plz (e_box Hz m0 20 (cs := [_, _, _, _, _]) rfl rfl rfl fun g1 Az w2 Hz m2 _ _ => ?_)
 refine gz hK0 Hz (.assign rfl .nil) fun Az Hz => ?_
 refine regS Hz (.fa 2 rfl U38 <| .lb m2 20 U2 rfl rfl rfl <| .lss rfl rfl <| .assign rfl .nil) fun Az Hz => ?_
 refine rt1 Hz ?_
 exact ⟨rfl, m2.below⟩
theorem follows_any (x y : StrV) (pa pb : Option Addr) (na nb ca cb : Nat) (w0 : World) (h1 : Rd (fun _ => True) w0 (.slice pa na ca) (.l 2 (x.its.map itD))) (h2 : Rd (fun _ => True) w0 (.slice pb nb cb) (.l 2 (y.its.map itD))) (hsx : StreamOk x.bl x.sz x.fr x.to x.its) (hsy : StreamOk y.bl y.sz y.fr y.to y.its) :
   Calls Tryd.prog 14 #[.agg #[.int .i64 x.bl, .int .i64 x.sz, .int .i64 x.fr, .int .i64 x.to, .slice pa na ca], .agg #[.int .i64 y.bl, .int .i64 y.sz, .int .i64 y.fr, .int .i64 y.to, .slice pb nb cb]] w0 fun e w' => ∃ b : Bool, e = .returned (.bool b) ∧ (b = true ↔ FolB x y) ∧ Below w0.heap.size w0 w' := by
 obtain rfl : na = x.its.length := by obtain ⟨pq, cq, hv, _⟩ := h1.l_shape; injection hv with _ e2 _; rw [List.length_map] at e2; exact e2
 obtain rfl : nb = y.its.length := by obtain ⟨pq, cq, hv, _⟩ := h2.l_shape; injection hv with _ e2 _; rw [List.length_map] at e2; exact e2
 refine ent2 Tryd.func14 rfl Tryd.ntmps14 fun Az Hz => ?_
 have m0 := MemOk.start (fun _ => False) w0
 refine zsr fun K0 hK0 => ?_
 refine plz (e_box Hz m0 20 (cs := [_, _, _, _, _]) rfl rfl rfl fun g1 Az w2 Hz m2 _ _ => ?_)
 refine plz (e_box Hz m2 21 (cs := [_, _, _, _, _]) rfl rfl rfl fun g3 Az w4 Hz m4 _ _ => ?_)
 refine gz hK0 Hz (.assign rfl .nil) fun Az Hz => ?_
 refine zsr fun K1 hK1 => ?_
 refine goCh Hz (.loadBR m4 (i := 20) rfl rfl U38 rfl fct2 (by simp) (by dsimp only [List.drop, List.take] <;> rfl) .nil) fun Az Hz => ?_
 refine plz (ecb Hz Tryd.func28 rfl m4 (sright_yes x.bl x.sz x.fr x.to x.its _ _ _ _ ((h1.now' m4 rfl).any) hsx) fun Az w8 Hz m9 => ?_)
 refine goCh Hz (.move rfl <| .loadBRZ m9 (i := 21) rfl rfl U38 rfl fct2 (by simp) (by dsimp only [List.drop, List.take] <;> rfl) .nil) fun Az Hz => ?_
 refine stz Hz (ecb Hz Tryd.func28 rfl m9 (sright_yes y.bl y.sz y.fr y.to y.its _ _ _ _ ((h2.now' m9 rfl).any) hsy) fun Az w13 Hz m14 => ?_)
 refine goCh Hz (.pickT rfl rfl <| .move rfl <| .faZ 0 rfl U38 <| .loadB1Z m14 (i := 20) rfl rfl rfl U3 rfl <| .faZ 0 rfl U38 <| .loadB1Z m14 (i := 21) rfl rfl rfl U3 rfl <| .eqlZ rfl rfl <| .pickT rfl rfl <| .move rfl .nil) fun Az Hz => ?_
 refine bc Hz 18 ?_ ?_
 ·
  intro hb25 Hz; try simp only [QQ, Qax] at hb25
  have hbl := hb25
  refine goCh Hz (.faZ 1 rfl U38 <| .loadB1Z m14 (i := 20) rfl rfl rfl U3 rfl <| .faZ 1 rfl U38 <| .loadB1Z m14 (i := 21) rfl rfl rfl U3 rfl <| .eqlZ rfl rfl <| .pickT rfl rfl <| .move rfl .nil) fun Az Hz => ?_
  refine bc Hz 25 ?_ ?_
  ·
   intro hb33 Hz; try simp only [QQ, Qax] at hb33
   have hsz := hb33
   refine gz hK1 Hz (.faZ 2 rfl U38 <| .loadB1Z m14 (i := 21) rfl rfl rfl U2 rfl <| .faZ 3 rfl U38 <| .loadB1Z m14 (i := 20) rfl rfl rfl U2 rfl <| .eqlZ rfl rfl <| .pickT rfl rfl <| .assign rfl <| .nil) fun Az Hz => ?_
   refine rt1 Hz ?_
   exact ⟨_, rfl, by first | exact ⟨fun h => Bool.noConfusion h, fun h => absurd h.1 hbl⟩ | exact ⟨fun h => Bool.noConfusion h, fun h => absurd h.2.1 hsz⟩ | exact ⟨fun h => ⟨hbl, hsz, by simpa using h⟩, fun h => by simpa using h.2.2⟩, m14.below⟩
  intro hb33 Hz; try simp only [QQ, Qax] at hb33
  have hsz := hb33
  refine gz hK1 Hz (.sk <| .sk <| .sk <| .sk <| .sk <| .pickF rfl rfl <| .assign rfl <| .nil) fun Az Hz => ?_
  refine rt1 Hz ?_
  exact ⟨_, rfl, by first | exact ⟨fun h => Bool.noConfusion h, fun h => absurd h.1 hbl⟩ | exact ⟨fun h => Bool.noConfusion h, fun h => absurd h.2.1 hsz⟩ | exact ⟨fun h => ⟨hbl, hsz, by simpa using h⟩, fun h => by simpa using h.2.2⟩, m14.below⟩
 intro hb25 Hz; try simp only [QQ, Qax] at hb25
 have hbl := hb25
 refine gz hK1 Hz (.sk <| .sk <| .sk <| .sk <| .sk <| .pickF rfl rfl <| .move rfl <| .sk <| .sk <| .sk <| .sk <| .sk <| .pickF rfl rfl <| .assign rfl <| .nil) fun Az Hz => ?_
 refine rt1 Hz ?_
 exact ⟨_, rfl, by first | exact ⟨fun h => Bool.noConfusion h, fun h => absurd h.1 hbl⟩ | exact ⟨fun h => Bool.noConfusion h, fun h => absurd h.2.1 hsz⟩ | exact ⟨fun h => ⟨hbl, hsz, by simpa using h⟩, fun h => by simpa using h.2.2⟩, m14.below⟩
theorem broken_any (l : List StrV) (p : Option Addr) (nn c : Nat) (w0 : World) (h1 : Rd (fun _ => True) w0 (.slice p nn c) (.l 5 (l.map strD))) (hl : l.length ≤ 1000) (hs : ∀ s ∈ l, StreamOk s.bl s.sz s.fr s.to s.its) :
   Calls Tryd.prog 24 #[.slice p nn c] w0 fun e w' => ∃ k : Nat, e = .returned (.int .i64 k) ∧ k ≤ l.length ∧ (∀ i, i < k → OkAt l i) ∧ (k < l.length → ¬ OkAt l k) ∧ Below w0.heap.size w0 w' := by
 obtain rfl : nn = l.length := by obtain ⟨pq, cq, hv, _⟩ := h1.l_shape; injection hv with _ e2 _; rw [List.length_map] at e2; exact e2
 refine ent1 Tryd.func24 rfl Tryd.ntmps24 fun Az Hz => ?_
 have m0 := MemOk.start (fun _ => False) w0
 refine regS Hz (.assign rfl .nil) fun Az Hz => ?_
 refine wsk fun K0 hK0 => ?_
 refine regS Hz (.move rfl <| .len rfl U26 <| .move rfl .nil) fun Az Hz => ?_
 refine wp_block ?_
 refine wp_loop_ghost (fun g a w => ∃ (k : Nat), k ≤ l.length ∧ g = l.length - k ∧ (∀ i, i < k → OkAt l i) ∧ Has 39 [(0, .slice p l.length c), (5, .int .i64 l.length), (6, .int .i64 k)] a ∧ MemOk (cn w0) w0 [] w) (l.length) ?_ ?_
 · exact ⟨0, Nat.zero_le _, rfl, fun i hi => by omega, Hz.only [0, 5, 6], m0.only []⟩
 clear Hz m0
 rintro g Az w5 ⟨k, hkl, hg, hall, Hz, m5⟩
 refine regS Hz (.lss rfl rfl .nil) fun Az Hz => ?_
 refine wsk fun K1 hK1 => ?_
 refine bc Hz 7 ?_ ?_
 ·
  intro hb7 Hz; try simp only [QQ, Qax] at hb7
  have hk : k < l.length := by have := hb7; first | omega | (simp at this; omega)
  refine wct Hz ?_
  refine zss (hK1 _ _ ?_)
  refine wsk fun K2 hK2 => ?_
  refine wp_block ?_
  refine regS Hz (.move rfl <| .assign rfl .nil) fun Az Hz => ?_
  refine wsk fun K3 hK3 => ?_
  rcases Nat.eq_zero_or_pos k with hk0 | hk0
  ·
   obtain ⟨v0, hes0⟩ : ∃ e, l[0]? = some e := ⟨_, List.getElem?_eq_getElem (by omega)⟩
   obtain ⟨gx11, ox11, vx11, hp11, hl11, hR11, hrg11⟩ := h1.extA (0) (r := [.v (.int .i64 v0.bl), .v (.int .i64 v0.sz), .v (.int .i64 v0.fr), .v (.int .i64 v0.to), .l 2 (v0.its.map itD)]) (strD_get hes0)
   revert Hz
   cases hp11
   rcases hR11 with _ | ⟨hd11_0, _ | ⟨hd11_1, _ | ⟨hd11_2, _ | ⟨hd11_3, _ | ⟨hd11_4, _ | _⟩⟩⟩⟩⟩
   obtain rfl := hd11_0.v_out
   clear hd11_0
   obtain rfl := hd11_1.v_out
   clear hd11_1
   obtain rfl := hd11_2.v_out
   clear hd11_2
   obtain rfl := hd11_3.v_out
   clear hd11_3
   obtain ⟨p12, c12, hv12, hw12⟩ := hd11_4.l_shape; subst hv12
   intro Hz
   have m13 : MemOk _ _ [] _ := m5.only []; clear m5
   refine region_p 26 (B := []) (m13.to trivial) m13 (by kernel_rfl) (fun w14 hP14 m14 => ?_); clear m13
   refine goA hP14 [0, 1, 2] 3 0 7 Hz (m14.to trivial) (.move rfl <| .eql rfl rfl <| .move rfl .nil) fun Az Hz => ?_
   refine bc Hz 11 ?_ ?_
   rotate_left
   · intro hb _; exact absurd hb (by simp; omega)
   clear Hz; intro _ Hz
   refine goR hP14 [3, 4, 5] [5] 3 7 63 Hz (m14.to trivial) (.move rfl <| .p (fun _ _ h => y_idx h rfl rfl U26 fct2 (0) rfl (by omega)) <| .loadAt (fun _ h => (hrg11 h rfl)) rfl U38 rfl fct2 .nil) fun Az Hz => ?_
   refine stepE_only 6 rfl (by kernel_rfl) (wantedG Hz rfl rfl rfl rfl) (fun K hK => ?_)
   refine e_call Hz Tryd.func31 rfl rfl rfl rfl (full_gen _ _ _ _ _ _ _ _) ?_
   rintro e w22 ⟨rfl, hb22⟩
   have m23 := m14.later hb22
   refine ⟨_, rfl, ?_⟩; intro Az Hz
   refine hK _ _ (m23.to trivial) ?_; clear hK K
   refine goA hP14 [7, 8, 9] 3 127 1023 Hz (m23.to trivial) (.not rfl <| .pickT rfl rfl <| .move rfl .nil) fun Az Hz => ?_
   refine bc Hz 18 ?_ ?_
   ·
    intro hb28 Hz; try simp only [QQ, Qax] at hb28
    have hno9 : ¬ OkAt l k := by rw [hk0]; unfold OkAt; rw [if_pos rfl, List.getD, hes0]; simpa using hb28
    refine goA hP14 [10, 11, 12, 13, 14, 15, 16, 17, 18, 19, 20, 21, 22, 23, 24, 25] 16 1023 67108863 Hz (m23.to trivial) (.s <| .s <| .s <| .u <| .u <| .u <| .u <| .u <| .u <| .u <| .u <| .u <| .u <| .u <| .s <| .pickT rfl rfl .nil) fun Az Hz => ?_
    refine wpAnyE_done (by kernel_rfl) ?_ _
    refine hK3 _ _ ?_
    refine wct Hz ?_
    replace Hz := Hz.oz [0, 5, 6, 3]
    refine regS Hz (.move rfl <| .assign rfl .nil) fun Az Hz => ?_
    refine rt1 Hz ?_
    first | exact ⟨k, rfl, by omega, hall, fun _ => hno9, m23.below⟩ | exact ⟨l.length, rfl, Nat.le_refl _, by rw [← hke]; exact hall, fun h => by omega, m23.below⟩
   intro hb28 Hz; try simp only [QQ, Qax] at hb28
   have hok9 : OkAt l k := by rw [hk0]; unfold OkAt; rw [if_pos rfl, List.getD, hes0]; simpa using hb28
   refine goA hP14 [10, 11, 12] 3 1023 8191 Hz (m23.to trivial) (.move rfl <| .gtr rfl rfl <| .move rfl .nil) fun Az Hz => ?_
   refine bc Hz 21 ?_ ?_
   · intro hb _; exact absurd hb (by simp; omega)
   clear Hz; intro _ Hz
   refine goA hP14 [13, 14, 15, 16, 17, 18, 19, 20, 21, 22, 23, 24, 25] 13 8191 67108863 Hz (m23.to trivial) (.s <| .s <| .s <| .s <| .s <| .s <| .s <| .s <| .s <| .s <| .s <| .pickF rfl rfl <| .pickF rfl rfl .nil) fun Az Hz => ?_
   refine wpAnyE_done (by kernel_rfl) ?_ _
   refine hK3 _ _ ?_
   refine wcf Hz ?_
   refine zss (hK2 _ _ ?_)
   replace Hz := Hz.oz [0, 5, 6]
   refine wp_region_lit ?_
   refine goCh Hz (.inc (k + 1) <| .move rfl .nil) fun Az Hz => ?_
   refine wpList_nil ?_
   show ∃ n', n' < _ ∧ _
   exact ⟨l.length - (k + 1), by omega, k + 1, by omega, rfl, fun i hi => by rcases Nat.lt_or_ge i k with h9 | h9; (exact hall i h9); (obtain rfl : i = k := by omega); (exact hok9), Hz.only [0, 5, 6], m23.only []⟩
  obtain ⟨v1, hes1⟩ : ∃ e, l[k - 1]? = some e := ⟨_, List.getElem?_eq_getElem (by omega)⟩
  obtain ⟨v2, hes2⟩ : ∃ e, l[k]? = some e := ⟨_, List.getElem?_eq_getElem hk⟩
  obtain ⟨gx69, ox69, vx69, hp69, hl69, hR69, hrg69⟩ := h1.extA ((k - 1)) (r := [.v (.int .i64 v1.bl), .v (.int .i64 v1.sz), .v (.int .i64 v1.fr), .v (.int .i64 v1.to), .l 2 (v1.its.map itD)]) (strD_get hes1)
  revert Hz
  cases hp69
  rcases hR69 with _ | ⟨hd69_0, _ | ⟨hd69_1, _ | ⟨hd69_2, _ | ⟨hd69_3, _ | ⟨hd69_4, _ | _⟩⟩⟩⟩⟩
  obtain rfl := hd69_0.v_out
  clear hd69_0
  obtain rfl := hd69_1.v_out
  clear hd69_1
  obtain rfl := hd69_2.v_out
  clear hd69_2
  obtain rfl := hd69_3.v_out
  clear hd69_3
  obtain ⟨p70, c70, hv70, hw70⟩ := hd69_4.l_shape; subst hv70
  intro Hz
  obtain ⟨gx72, ox72, vx72, hp72, hl72, hR72, hrg72⟩ := h1.extA (k) (r := [.v (.int .i64 v2.bl), .v (.int .i64 v2.sz), .v (.int .i64 v2.fr), .v (.int .i64 v2.to), .l 2 (v2.its.map itD)]) (strD_get hes2)
  revert Hz
  cases hp72
  rcases hR72 with _ | ⟨hd72_0, _ | ⟨hd72_1, _ | ⟨hd72_2, _ | ⟨hd72_3, _ | ⟨hd72_4, _ | _⟩⟩⟩⟩⟩
  obtain rfl := hd72_0.v_out
  clear hd72_0
  obtain rfl := hd72_1.v_out
  clear hd72_1
  obtain rfl := hd72_2.v_out
  clear hd72_2
  obtain rfl := hd72_3.v_out
  clear hd72_3
  obtain ⟨p73, c73, hv73, hw73⟩ := hd72_4.l_shape; subst hv73
  intro Hz
  have m74 : MemOk _ _ [] _ := m5.only []; clear m5
  refine region_p 26 (B := []) (m74.to trivial) m74 (by kernel_rfl) (fun w75 hP75 m75 => ?_); clear m74
  refine goA hP75 [0, 1, 2] 3 0 7 Hz (m75.to trivial) (.move rfl <| .eql rfl rfl <| .move rfl .nil) fun Az Hz => ?_
  refine bc Hz 11 ?_ ?_
  · intro hb _; exact absurd hb (by simp; omega)
  clear Hz; intro _ Hz
  refine goA hP75 [3, 4, 5, 6, 7, 8, 9, 10, 11, 12] 10 7 8191 Hz (m75.to trivial) (.s <| .s <| .s <| .s <| .s <| .pickF rfl rfl <| .move rfl <| .move rfl <| .gtr rfl rfl <| .move rfl .nil) fun Az Hz => ?_
  refine bc Hz 21 ?_ ?_
  rotate_left
  · intro hb _; exact absurd hb (by simp; omega)
  clear Hz; intro _ Hz
  refine goR hP75 [13, 14, 15, 16, 17, 18, 19, 20, 21] [17, 21] 9 8191 4194303 Hz (m75.to trivial) (.move rfl <| .move rfl <| .sub rfl rfl (r := (k : Int) - 1) (IntWalk.i64_in _ (by omega)) <| .p (fun _ _ h => y_idx h rfl rfl U26 fct2 ((k - 1)) (by omega) (by omega)) <| .loadAt (fun _ h => (hrg69 h rfl)) rfl U38 rfl fct2 <| .move rfl <| .move rfl <| .p (fun _ _ h => y_idx h rfl rfl U26 fct2 (k) rfl (by omega)) <| .loadAt (fun _ h => (hrg72 h rfl)) rfl U38 rfl fct2 .nil) fun Az Hz => ?_
  refine stepE_only 22 rfl (by kernel_rfl) (wantedG Hz rfl rfl rfl rfl) (fun K hK => ?_)
  refine e_call Hz Tryd.func14 rfl rfl rfl rfl (follows_any v1 v2 _ _ _ _ _ _ _ ((hd69_4.now' m75 rfl).any) ((hd72_4.now' m75 rfl).any) (hs _ (List.mem_of_getElem? hes1)) (hs _ (List.mem_of_getElem? hes2))) ?_
  rintro e w100 ⟨fb, rfl, hfb, hb100⟩
  have m101 := m75.later hb100
  refine ⟨_, rfl, ?_⟩; intro Az Hz
  refine hK _ _ (m101.to trivial) ?_; clear hK K
  refine goA hP75 [23, 24, 25] 3 8388607 67108863 Hz (m101.to trivial) (.not rfl <| .pickT rfl rfl <| .pickF rfl rfl .nil) fun Az Hz => ?_
  refine wpAnyE_done (by kernel_rfl) ?_ _
  refine hK3 _ _ ?_
  refine bc Hz 34 ?_ ?_
  ·
   intro hb106 Hz; try simp only [QQ, Qax] at hb106
   have hno9 : ¬ OkAt l k := by unfold OkAt; rw [if_neg (by omega), List.getD, hes1, List.getD, hes2]; intro h9; have h8 := hfb.2 h9; have h7 := hb106; rw [h8] at h7; simp at h7
   refine wct Hz ?_
   replace Hz := Hz.oz [0, 5, 6, 3]
   refine regS Hz (.move rfl <| .assign rfl .nil) fun Az Hz => ?_
   refine rt1 Hz ?_
   first | exact ⟨k, rfl, by omega, hall, fun _ => hno9, m101.below⟩ | exact ⟨l.length, rfl, Nat.le_refl _, by rw [← hke]; exact hall, fun h => by omega, m101.below⟩
  intro hb106 Hz; try simp only [QQ, Qax] at hb106
  have hok9 : OkAt l k := by unfold OkAt; rw [if_neg (by omega), List.getD, hes1, List.getD, hes2]; exact hfb.1 (by simpa using hb106)
  refine wcf Hz ?_
  refine zss (hK2 _ _ ?_)
  replace Hz := Hz.oz [0, 5, 6]
  refine wp_region_lit ?_
  refine goCh Hz (.inc (k + 1) <| .move rfl .nil) fun Az Hz => ?_
  refine wpList_nil ?_
  show ∃ n', n' < _ ∧ _
  exact ⟨l.length - (k + 1), by omega, k + 1, by omega, rfl, fun i hi => by rcases Nat.lt_or_ge i k with h9 | h9; (exact hall i h9); (obtain rfl : i = k := by omega); (exact hok9), Hz.only [0, 5, 6], m101.only []⟩
 intro hb7 Hz; try simp only [QQ, Qax] at hb7
 have hke : k = l.length := by have := hb7; first | omega | (simp at this; omega)
 refine wcf Hz ?_
 refine wp_exit ?_
 refine hK0 _ _ ?_
 refine regS Hz (.move rfl <| .len rfl U26 <| .assign rfl .nil) fun Az Hz => ?_
 refine rt1 Hz ?_
 first | exact ⟨k, rfl, by omega, hall, fun _ => hno9, m5.below⟩ | exact ⟨l.length, rfl, Nat.le_refl _, by rw [← hke]; exact hall, fun h => by omega, m5.below⟩
theorem cright_any (l : List StrV) (p : Option Addr) (nn c : Nat) (w0 : World) (h1 : Rd (fun _ => True) w0 (.slice p nn c) (.l 5 (l.map strD))) (hl : l.length ≤ 1000) (hs : ∀ s ∈ l, StreamOk s.bl s.sz s.fr s.to s.its) :
   Calls Tryd.prog 13 #[.slice p nn c] w0 fun e w' => ∃ b : Bool, e = .returned (.bool b) ∧ (b = true ↔ ChainOk l) ∧ Below w0.heap.size w0 w' := by
 obtain rfl : nn = l.length := by obtain ⟨pq, cq, hv, _⟩ := h1.l_shape; injection hv with _ e2 _; rw [List.length_map] at e2; exact e2
 refine ent1 Tryd.func13 rfl Tryd.ntmps13 fun Az Hz => ?_
 have m0 := MemOk.start (fun _ => False) w0
 refine regS Hz (.assign rfl .nil) fun Az Hz => ?_
 refine zsr fun K0 hK0 => ?_
 refine goCh Hz (.move rfl <| .len rfl U26 <| .gtr rfl rfl <| .move rfl .nil) fun Az Hz => ?_
 refine bc Hz 6 ?_ ?_
 ·
  intro hb10 Hz; try simp only [QQ, Qax] at hb10
  have hl0 : 0 < l.length := by have := hb10; first | omega | (simp at this; omega)
  obtain ⟨v0, hes0⟩ : ∃ e, l[0]? = some e := ⟨_, List.getElem?_eq_getElem hl0⟩
  refine goCh Hz (.moveZ rfl .nil) fun Az Hz => ?_
  obtain ⟨gx12, ox12, vx12, hp12, hl12, hR12, hrg12⟩ := h1.extA (0) (r := [.v (.int .i64 v0.bl), .v (.int .i64 v0.sz), .v (.int .i64 v0.fr), .v (.int .i64 v0.to), .l 2 (v0.its.map itD)]) (strD_get hes0)
  revert Hz
  cases hp12
  rcases hR12 with _ | ⟨hd12_0, _ | ⟨hd12_1, _ | ⟨hd12_2, _ | ⟨hd12_3, _ | ⟨hd12_4, _ | _⟩⟩⟩⟩⟩
  obtain rfl := hd12_0.v_out
  clear hd12_0
  obtain rfl := hd12_1.v_out
  clear hd12_1
  obtain rfl := hd12_2.v_out
  clear hd12_2
  obtain rfl := hd12_3.v_out
  clear hd12_3
  obtain ⟨p13, c13, hv13, hw13⟩ := hd12_4.l_shape; subst hv13
  intro Hz
  refine goCh Hz (.g rfl rfl rfl rfl (fun _ h => y_idx h rfl rfl U26 fct2 (0) rfl (by omega)) <| .loadAtZ (hrg12 m0 rfl) rfl U38 rfl fct2 .nil) fun Az Hz => ?_
  refine stz Hz (ecb Hz Tryd.func28 rfl m0 (sright_yes v0.bl v0.sz v0.fr v0.to v0.its _ _ _ _ ((hd12_4.now' m0 rfl).any) (hs _ (List.mem_of_getElem? hes0))) fun Az w16 Hz m17 => ?_)
  refine goCh Hz (.pickT rfl rfl <| .move rfl <| .moveZ rfl .nil) fun Az Hz => ?_
  refine stz Hz (ecl Hz Tryd.func24 rfl (broken_any l _ _ _ _ ((h1.now' m17 rfl).any) hl hs) ?_)
  rintro e w22 ⟨kb, rfl, hkb, hk1, hk2, hb22⟩
  have m23 := m17.later hb22
  refine ⟨_, rfl, ?_⟩; intro Az Hz
  refine gz hK0 Hz (.moveZ rfl <| .lenZ rfl U26 <| .eqlZ rfl rfl <| .pickT rfl rfl <| .assign rfl <| .nil) fun Az Hz => ?_
  refine rt1 Hz ?_
  first | exact ⟨_, rfl, ⟨fun h => Bool.noConfusion h, fun h => absurd h.1 hl0⟩, m23.below⟩ | exact ⟨_, rfl, ⟨fun h => ⟨hl0, (kb_all (k := kb) (n := l.length) (by first | (simp at h; exact h) | (simp at h; omega))) ▸ hk1⟩, fun h => by rw [kb_eq hkb h.2 hk2]; simp⟩, m23.below⟩
 intro hb10 Hz; try simp only [QQ, Qax] at hb10
 have hl0 : ¬ 0 < l.length := by have := hb10; first | omega | (simp at this; omega)
 refine gz hK0 Hz (.sk <| .sk <| .sk <| .sk <| .pickF rfl rfl <| .move rfl <| .sk <| .sk <| .sk <| .sk <| .sk <| .pickF rfl rfl <| .assign rfl <| .nil) fun Az Hz => ?_
 refine rt1 Hz ?_
 first | exact ⟨_, rfl, ⟨fun h => Bool.noConfusion h, fun h => absurd h.1 hl0⟩, m0.below⟩ | exact ⟨_, rfl, ⟨fun h => ⟨hl0, (kb_all (k := kb) (n := l.length) (by first | (simp at h; exact h) | (simp at h; omega))) ▸ hk1⟩, fun h => by rw [kb_eq hkb h.2 hk2]; simp⟩, m0.below⟩
theorem all_yes (l : List StrV) (p : Option Addr) (nn c : Nat) (w0 : World) (h1 : Rd (fun _ => True) w0 (.slice p nn c) (.l 5 (l.map strD))) (hl : l.length ≤ 1000) (hs : ∀ s ∈ l, StreamOk s.bl s.sz s.fr s.to s.its) (hC : ChainOk l) (ht : totL l ≤ 1000000) (hok : ∀ s ∈ l, ItsOk s.its) :
   Calls Tryd.prog 11 #[.slice p nn c] w0 fun e w' => ∃ (s : StrV) (p : Option Addr) (c : Nat), Ev l s ∧ s.its.length ≤ totL l ∧ ItsOk s.its ∧ e = .returned (.tuple #[.agg #[.int .i64 s.bl, .int .i64 s.sz, .int .i64 s.fr, .int .i64 s.to, .slice p s.its.length c], .int .i64 0]) ∧ Rd (New w0) w' (.slice p s.its.length c) (.l 2 (s.its.map itD)) ∧ Below w0.heap.size w0 w' := by
 obtain rfl : nn = l.length := by obtain ⟨pq, cq, hv, _⟩ := h1.l_shape; injection hv with _ e2 _; rw [List.length_map] at e2; exact e2
 refine ent1 Tryd.func11 rfl Tryd.ntmps11 fun Az Hz => ?_
 have m0 := MemOk.start (fun _ => False) w0
 refine zsr fun K0 hK0 => ?_
 refine plz (e_alloc Hz m0 20 fct17 rfl fun g1 Az w2 Hz m2 _ _ => ?_)
 refine gz hK0 Hz (.assign rfl .nil) fun Az Hz => ?_
 refine wsk fun K1 hK1 => ?_
 refine regS Hz (.move rfl <| .len rfl U26 <| .move rfl .nil) fun Az Hz => ?_
 refine wp_block ?_
 refine wp_loop_ghost (fun g a w => ∃ (k B2 : Nat), k ≤ l.length ∧ g = l.length - k ∧ Has 23 [(0, .slice p l.length c), (2, .pointer (some ⟨B2, 0, none⟩)), (3, .int .i64 0), (6, .slice p l.length c), (7, .int .i64 l.length), (8, .int .i64 k)] a ∧ MemOk (cn w0) w0 [(2, .box B2 38 [.int .i64 0, .int .i64 0, .int .i64 0, .int .i64 0, .slice none 0 0])] w) (l.length) ?_ ?_
 · exact ⟨0, _, Nat.zero_le _, rfl, Hz.only [0, 2, 3, 6, 7, 8], m2.ren [(2, 20)] (by decide)⟩
 clear Hz m2
 rintro g Az w7 ⟨k, B2, hkl, hg, Hz, m7⟩
 refine regS Hz (.lss rfl rfl .nil) fun Az Hz => ?_
 refine wsk fun K2 hK2 => ?_
 refine bc Hz 9 ?_ ?_
 ·
  intro hb9 Hz; try simp only [QQ, Qax] at hb9
  have hk : k < l.length := by have := hb9; first | omega | (simp at this; omega)
  obtain ⟨vk, hes⟩ : ∃ e, l[k]? = some e := ⟨_, List.getElem?_eq_getElem hk⟩
  refine wct Hz ?_
  refine zss (hK2 _ _ ?_)
  refine wsk fun K3 hK3 => ?_
  refine wp_block ?_
  refine zsr fun K4 hK4 => ?_
  obtain ⟨gx11, ox11, vx11, hp11, hl11, hR11, hrg11⟩ := h1.extA (k) (r := [.v (.int .i64 vk.bl), .v (.int .i64 vk.sz), .v (.int .i64 vk.fr), .v (.int .i64 vk.to), .l 2 (vk.its.map itD)]) (strD_get hes)
  revert Hz
  cases hp11
  rcases hR11 with _ | ⟨hd11_0, _ | ⟨hd11_1, _ | ⟨hd11_2, _ | ⟨hd11_3, _ | ⟨hd11_4, _ | _⟩⟩⟩⟩⟩
  obtain rfl := hd11_0.v_out
  clear hd11_0
  obtain rfl := hd11_1.v_out
  clear hd11_1
  obtain rfl := hd11_2.v_out
  clear hd11_2
  obtain rfl := hd11_3.v_out
  clear hd11_3
  obtain ⟨p12, c12, hv12, hw12⟩ := hd11_4.l_shape; subst hv12
  intro Hz
  refine goCh Hz (.c rfl (fun _ h => y_idx h rfl rfl U26 fct2 (k) rfl hk) <| .loadAt (hrg11 m7 rfl) rfl U38 rfl fct2 .nil) fun Az Hz => ?_
  refine plz (e_alloc Hz m7 101 fct17 rfl fun g15 Az w16 Hz m16 _ _ => ?_)
  refine plz (stw Hz m16 101 fct2 fun w17 m17 _ => ?_)
  refine znl (hK4 _ _ ?_)
  refine zsr fun K5 hK5 => ?_
  refine goCh Hz (.loadBR m17 (i := 101) rfl rfl U38 rfl fct2 (by simp) (by dsimp only [List.drop, List.take] <;> rfl) .nil) fun Az Hz => ?_
  refine plz (ecb Hz Tryd.func28 rfl m17 (sright_yes vk.bl vk.sz vk.fr vk.to vk.its _ _ _ _ ((hd11_4.now' m17 rfl).any) (hs _ (List.mem_of_getElem? hes))) fun Az w20 Hz m21 => ?_)
  refine gz hK5 Hz (.not rfl .nil) fun Az Hz => ?_
  refine wcf Hz ?_
  refine zss (hK3 _ _ ?_)
  replace Hz := Hz.oz [0, 2, 3, 6, 7, 8]
  refine wp_region_lit ?_
  refine goCh Hz (.inc (k + 1) <| .move rfl .nil) fun Az Hz => ?_
  refine wpList_nil ?_
  show ∃ n', n' < _ ∧ _
  exact ⟨l.length - (k + 1), by omega, k + 1, _, by omega, rfl, Hz.only [0, 2, 3, 6, 7, 8], m21.ren [(2, 2)] (by decide)⟩
 intro hb9 Hz; try simp only [QQ, Qax] at hb9
 refine wcf Hz ?_
 refine wp_exit ?_
 refine hK1 _ _ ?_
 refine wsk fun K6 hK6 => ?_
 refine zsr fun K7 hK7 => ?_
 refine goCh Hz (.move rfl .nil) fun Az Hz => ?_
 refine plz (ecl Hz Tryd.func13 rfl (cright_any l _ _ _ _ ((h1.now' m7 rfl).any) hl hs) ?_)
 rintro e w29 ⟨rb, rfl, hrb, hb29⟩
 revert Hz
 obtain rfl : rb = true := hrb.2 hC
 intro Hz
 have m30 := m7.later hb29
 refine ⟨_, rfl, ?_⟩; intro Az Hz
 refine gz hK7 Hz (.not rfl .nil) fun Az Hz => ?_
 refine wcf Hz ?_
 refine zss (hK6 _ _ ?_)
 refine zsr fun K8 hK8 => ?_
 refine goCh Hz (.move rfl .nil) fun Az Hz => ?_
 refine plz (ecl Hz Tryd.func30 rfl (all_any l.length l _ _ _ _ ((h1.now' m30 rfl).any) hC.1 (Nat.le_refl _) hl ht hok) ?_)
 rintro e w35 ⟨sv, p35, c35, hE, hsl, hso, rfl, hd35, hb35⟩
 have m36 := m30.callF 100 rfl hb35 hd35
 refine ⟨_, rfl, ?_⟩; intro Az Hz
 refine plz (stw Hz m36 2 fct2 fun w38 m38 _ => ?_)
 refine gz hK8 Hz (.assign rfl .nil) fun Az Hz => ?_
 refine rtd (retCT (fn := Tryd.f11) Hz m38 (i := 2) rfl rfl rfl rfl U38 rfl fct2 ?_)
 exact ⟨sv, _, _, hE, hsl, hso, rfl, m38.outF (i := 100) rfl, m38.below⟩
theorem merge_yes (x y : StrV) (pa pb : Option Addr) (na nb ca cb : Nat) (w0 : World) (h1 : Rd (fun _ => True) w0 (.slice pa na ca) (.l 2 (x.its.map itD))) (h2 : Rd (fun _ => True) w0 (.slice pb nb cb) (.l 2 (y.its.map itD))) (hsx : StreamOk x.bl x.sz x.fr x.to x.its) (hsy : StreamOk y.bl y.sz y.fr y.to y.its) (hoa : ItsOk x.its) (hob : ItsOk y.its) (hC : FolB x y) :
   Calls Tryd.prog 10 #[.agg #[.int .i64 x.bl, .int .i64 x.sz, .int .i64 x.fr, .int .i64 x.to, .slice pa na ca], .agg #[.int .i64 y.bl, .int .i64 y.sz, .int .i64 y.fr, .int .i64 y.to, .slice pb nb cb]] w0 fun e w' => ∃ p c, e = .returned (.tuple #[.agg #[.int .i64 (mergeV x y).bl, .int .i64 (mergeV x y).sz, .int .i64 (mergeV x y).fr, .int .i64 (mergeV x y).to, .slice p (mergeV x y).its.length c], .int .i64 0]) ∧ Rd (New w0) w' (.slice p (mergeV x y).its.length c) (.l 2 ((mergeV x y).its.map itD)) ∧ Below w0.heap.size w0 w' := by
 obtain rfl : na = x.its.length := by obtain ⟨pq, cq, hv, _⟩ := h1.l_shape; injection hv with _ e2 _; rw [List.length_map] at e2; exact e2
 obtain rfl : nb = y.its.length := by obtain ⟨pq, cq, hv, _⟩ := h2.l_shape; injection hv with _ e2 _; rw [List.length_map] at e2; exact e2
 refine ent2 Tryd.func10 rfl Tryd.ntmps10 fun Az Hz => ?_
 have m0 := MemOk.start (fun _ => False) w0
 refine zsr fun K0 hK0 => ?_
 refine plz (e_box Hz m0 20 (cs := [_, _, _, _, _]) rfl rfl rfl fun g1 Az w2 Hz m2 _ _ => ?_)
 refine plz (e_box Hz m2 21 (cs := [_, _, _, _, _]) rfl rfl rfl fun g3 Az w4 Hz m4 _ _ => ?_)
 refine plz (e_alloc Hz m4 22 fct17 rfl fun g5 Az w6 Hz m6 _ _ => ?_)
 refine gz hK0 Hz (.assign rfl .nil) fun Az Hz => ?_
 refine wsk fun K1 hK1 => ?_
 refine zsr fun K2 hK2 => ?_
 refine goCh Hz (.loadBR m6 (i := 20) rfl rfl U38 rfl fct2 (by simp) (by dsimp only [List.drop, List.take] <;> rfl) .nil) fun Az Hz => ?_
 refine plz (ecb Hz Tryd.func28 rfl m6 (sright_yes x.bl x.sz x.fr x.to x.its _ _ _ _ ((h1.now' m6 rfl).any) hsx) fun Az w10 Hz m11 => ?_)
 refine goCh Hz (.not rfl <| .move rfl <| .loadBRZ m11 (i := 21) rfl rfl U38 rfl fct2 (by simp) (by dsimp only [List.drop, List.take] <;> rfl) .nil) fun Az Hz => ?_
 refine stz Hz (ecb Hz Tryd.func28 rfl m11 (sright_yes y.bl y.sz y.fr y.to y.its _ _ _ _ ((h2.now' m11 rfl).any) hsy) fun Az w16 Hz m17 => ?_)
 refine gz hK2 Hz (.notZ rfl <| .pickF rfl rfl <| .nil) fun Az Hz => ?_
 refine wcf Hz ?_
 refine zss (hK1 _ _ ?_)
 refine wsk fun K3 hK3 => ?_
 replace Hz := Hz.oz [2, 3, 4, 5]
 refine zsr fun K4 hK4 => ?_
 refine goCh Hz (.loadBR m17 (i := 20) rfl rfl U38 rfl fct2 (by simp) (by dsimp only [List.drop, List.take] <;> rfl) <| .loadBR m17 (i := 21) rfl rfl U38 rfl fct2 (by simp) (by dsimp only [List.drop, List.take] <;> rfl) .nil) fun Az Hz => ?_
 refine plz (ecl Hz Tryd.func14 rfl (follows_any x y _ _ _ _ _ _ _ ((h1.now' m17 rfl).any) ((h2.now' m17 rfl).any) hsx hsy) ?_)
 rintro e w26 ⟨fb, rfl, hfb, hb26⟩
 revert Hz
 obtain rfl : fb = true := hfb.2 hC
 intro Hz
 have m27 := m17.later hb26
 refine ⟨_, rfl, ?_⟩; intro Az Hz
 refine gz hK4 Hz (.not rfl .nil) fun Az Hz => ?_
 refine wcf Hz ?_
 refine zss (hK3 _ _ ?_)
 refine zsr fun K5 hK5 => ?_
 refine goCh Hz (.loadBR m27 (i := 20) rfl rfl U38 rfl fct2 (by simp) (by dsimp only [List.drop, List.take] <;> rfl) <| .loadBR m27 (i := 21) rfl rfl U38 rfl fct2 (by simp) (by dsimp only [List.drop, List.take] <;> rfl) .nil) fun Az Hz => ?_
 refine plz (ecl Hz Tryd.func29 rfl (merge_any x y _ _ _ _ _ _ _ ((h1.now' m27 rfl).any) ((h2.now' m27 rfl).any) (by have := hsx.len; have := hsy.len; omega) hoa hob) ?_)
 rintro e w34 ⟨p34, c34, rfl, hd34, hb34⟩
 have m35 := m27.callF 23 rfl hb34 hd34
 refine ⟨_, rfl, ?_⟩; intro Az Hz
 refine plz (stw Hz m35 22 fct2 fun w37 m37 _ => ?_)
 refine gz hK5 Hz (.assign rfl .nil) fun Az Hz => ?_
 refine rtd (retCT (fn := Tryd.f10) Hz m37 (i := 22) rfl rfl rfl rfl U38 rfl fct2 ?_)
 exact ⟨_, _, rfl, m37.outF (i := 23) rfl, m37.below⟩
theorem merge_no (x y : StrV) (pa pb : Option Addr) (na nb ca cb : Nat) (w0 : World) (h1 : Rd (fun _ => True) w0 (.slice pa na ca) (.l 2 (x.its.map itD))) (h2 : Rd (fun _ => True) w0 (.slice pb nb cb) (.l 2 (y.its.map itD))) (hsx : StreamOk x.bl x.sz x.fr x.to x.its) (hsy : StreamOk y.bl y.sz y.fr y.to y.its) (hC : ¬ FolB x y) :
   Calls Tryd.prog 10 #[.agg #[.int .i64 x.bl, .int .i64 x.sz, .int .i64 x.fr, .int .i64 x.to, .slice pa na ca], .agg #[.int .i64 y.bl, .int .i64 y.sz, .int .i64 y.fr, .int .i64 y.to, .slice pb nb cb]] w0 fun e w' => e = .returned (.tuple #[.agg #[.int .i64 0, .int .i64 0, .int .i64 0, .int .i64 0, .slice none 0 0], .int .i64 38]) ∧ Below w0.heap.size w0 w' := by
 obtain rfl : na = x.its.length := by obtain ⟨pq, cq, hv, _⟩ := h1.l_shape; injection hv with _ e2 _; rw [List.length_map] at e2; exact e2
 obtain rfl : nb = y.its.length := by obtain ⟨pq, cq, hv, _⟩ := h2.l_shape; injection hv with _ e2 _; rw [List.length_map] at e2; exact e2
 refine ent2 Tryd.func10 rfl Tryd.ntmps10 fun Az Hz => ?_
 have m0 := MemOk.start (fun _ => False) w0
 refine zsr fun K0 hK0 => ?_
 refine plz (e_box Hz m0 20 (cs := [_, _, _, _, _]) rfl rfl rfl fun g1 Az w2 Hz m2 _ _ => ?_)
 refine plz (e_box Hz m2 21 (cs := [_, _, _, _, _]) rfl rfl rfl fun g3 Az w4 Hz m4 _ _ => ?_)
 refine plz (e_alloc Hz m4 22 fct17 rfl fun g5 Az w6 Hz m6 _ _ => ?_)
 refine gz hK0 Hz (.assign rfl .nil) fun Az Hz => ?_
 refine wsk fun K1 hK1 => ?_
 refine zsr fun K2 hK2 => ?_
 refine goCh Hz (.loadBR m6 (i := 20) rfl rfl U38 rfl fct2 (by simp) (by dsimp only [List.drop, List.take] <;> rfl) .nil) fun Az Hz => ?_
 refine plz (ecb Hz Tryd.func28 rfl m6 (sright_yes x.bl x.sz x.fr x.to x.its _ _ _ _ ((h1.now' m6 rfl).any) hsx) fun Az w10 Hz m11 => ?_)
 refine goCh Hz (.not rfl <| .move rfl <| .loadBRZ m11 (i := 21) rfl rfl U38 rfl fct2 (by simp) (by dsimp only [List.drop, List.take] <;> rfl) .nil) fun Az Hz => ?_
 refine stz Hz (ecb Hz Tryd.func28 rfl m11 (sright_yes y.bl y.sz y.fr y.to y.its _ _ _ _ ((h2.now' m11 rfl).any) hsy) fun Az w16 Hz m17 => ?_)
 refine gz hK2 Hz (.notZ rfl <| .pickF rfl rfl <| .nil) fun Az Hz => ?_
 refine wcf Hz ?_
 refine zss (hK1 _ _ ?_)
 refine wsk fun K3 hK3 => ?_
 replace Hz := Hz.oz [2, 3, 4, 5]
 refine zsr fun K4 hK4 => ?_
 refine goCh Hz (.loadBR m17 (i := 20) rfl rfl U38 rfl fct2 (by simp) (by dsimp only [List.drop, List.take] <;> rfl) <| .loadBR m17 (i := 21) rfl rfl U38 rfl fct2 (by simp) (by dsimp only [List.drop, List.take] <;> rfl) .nil) fun Az Hz => ?_
 refine plz (ecl Hz Tryd.func14 rfl (follows_any x y _ _ _ _ _ _ _ ((h1.now' m17 rfl).any) ((h2.now' m17 rfl).any) hsx hsy) ?_)
 rintro e w26 ⟨fb, rfl, hfb, hb26⟩
 obtain rfl : fb = false := by cases fb; rfl; exact absurd (hfb.1 rfl) hC
 have m27 := m17.later hb26
 refine ⟨_, rfl, ?_⟩; intro Az Hz
 refine gz hK4 Hz (.not rfl .nil) fun Az Hz => ?_
 refine wct Hz ?_
 refine zsr fun K5 hK5 => ?_
 refine goCh Hz (.build rfl fct17 fl38cmn rfl (by dsimp only [setL, List.set] <;> rfl) .nil) fun Az Hz => ?_
 refine plz (stw Hz m27 22 fct2 fun w32 m32 _ => ?_)
 refine gz hK5 Hz (.assign rfl .nil) fun Az Hz => ?_
 refine rtd (retCT (fn := Tryd.f10) Hz m32 (i := 22) rfl rfl rfl rfl U38 rfl fct2 ?_)
 exact ⟨rfl, m32.below⟩
theorem blocks_yes (v : StrV) (p : Option Addr) (nn c : Nat) (w0 : World) (h1 : Rd (fun _ => True) w0 (.slice p nn c) (.l 2 (v.its.map itD))) (hs : StreamOk v.bl v.sz v.fr v.to v.its) (hok : ItsOk v.its) (hf : v.fr < 0) :
   Calls Tryd.prog 12 #[.agg #[.int .i64 v.bl, .int .i64 v.sz, .int .i64 v.fr, .int .i64 v.to, .slice p nn c]] w0 fun e w' => ∃ p c, e = .returned (.slice p v.its.length c) ∧ Rd (New w0) w' (.slice p v.its.length c) (.l 1 ((v.its.map Prod.snd).map bD)) ∧ Below w0.heap.size w0 w' := by
 obtain rfl : nn = v.its.length := by obtain ⟨pq, cq, hv, _⟩ := h1.l_shape; injection hv with _ e2 _; rw [List.length_map] at e2; exact e2
 refine ent1 Tryd.func12 rfl Tryd.ntmps12 fun Az Hz => ?_
 have m0 := MemOk.start (fun _ => False) w0
 have hlen := hs.len
 refine zsr fun K0 hK0 => ?_
 refine plz (e_box Hz m0 20 (cs := [_, _, _, _, _]) rfl rfl rfl fun g1 Az w2 Hz m2 _ _ => ?_)
 refine gz hK0 Hz (.assign rfl .nil) fun Az Hz => ?_
 refine wsk fun K1 hK1 => ?_
 refine zsr fun K2 hK2 => ?_
 refine goCh Hz (.loadBR m2 (i := 20) rfl rfl U38 rfl fct2 (by simp) (by dsimp only [List.drop, List.take] <;> rfl) .nil) fun Az Hz => ?_
 refine plz (ecb Hz Tryd.func31 rfl m2 (full_gen _ _ _ _ _ _ _ _) fun Az w6 Hz m7 => ?_)
 refine goCh Hz (.not rfl <| .move rfl .nil) fun Az Hz => ?_
 refine bc Hz 9 ?_ ?_
 · intro hb _; exact absurd hb (by simp; omega)
 clear Hz; intro _ Hz
 refine goCh Hz (.loadBRZ m7 (i := 20) rfl rfl U38 rfl fct2 (by simp) (by dsimp only [List.drop, List.take] <;> rfl) .nil) fun Az Hz => ?_
 refine stz Hz (ecb Hz Tryd.func28 rfl m7 (sright_yes v.bl v.sz v.fr v.to v.its _ _ _ _ ((h1.now' m7 rfl).any) hs) fun Az w13 Hz m14 => ?_)
 refine gz hK2 Hz (.notZ rfl <| .pickF rfl rfl <| .nil) fun Az Hz => ?_
 refine wcf Hz ?_
 refine zss (hK1 _ _ ?_)
 replace Hz := Hz.oz [1, 2]
 refine regS Hz (.assign rfl .nil) fun Az Hz => ?_
 refine wsk fun K3 hK3 => ?_
 refine regS Hz (.fa 4 rfl U38 <| .lb m14 20 U36 rfl rfl rfl <| .len rfl U36 <| .move rfl .nil) fun Az Hz => ?_
 refine wp_block ?_
 refine wp_loop_ghost (fun g a w => ∃ (k B1 : Nat) (p1 : Option Addr) (c1 : Nat), k ≤ v.its.length ∧ g = v.its.length - k ∧ Has 29 [(1, .pointer (some ⟨B1, 0, none⟩)), (3, .slice p1 ((v.its.take k).map sndD).length c1), (15, .slice p v.its.length c), (16, .int .i64 v.its.length), (17, .int .i64 k)] a ∧ MemOk (cn w0) w0 [(9, .row (.slice p1 ((v.its.take k).map sndD).length c1) 22 1 ((v.its.take k).map sndD))] w) (v.its.length) ?_ ?_
 · have mz := m14.nilR 9 22 1
   exact ⟨0, _, _, _, Nat.zero_le _, rfl, Hz.only [1, 3, 15, 16, 17], mz.only [9]⟩
 clear Hz m14
 rintro g Az w24 ⟨k, B1, p1, c1, hkl, hg, Hz, m24⟩
 refine regS Hz (.lss rfl rfl .nil) fun Az Hz => ?_
 refine wsk fun K4 hK4 => ?_
 refine bc Hz 18 ?_ ?_
 ·
  intro hb26 Hz; try simp only [QQ, Qax] at hb26
  have hk : k < v.its.length := by have := hb26; first | omega | (simp at this; omega)
  obtain ⟨⟨xb, xd⟩, hes⟩ : ∃ e, v.its[k]? = some e := ⟨_, List.getElem?_eq_getElem hk⟩
  refine wct Hz ?_
  refine zss (hK4 _ _ ?_)
  refine wsk fun K5 hK5 => ?_
  refine wp_block ?_
  refine zsr fun K6 hK6 => ?_
  obtain ⟨gx28, ox28, vx28, hp28, hl28, hR28, hrg28⟩ := h1.extA (k) (r := [.v (.int .i64 xb), .ns .u8 xd]) (itD_get hes)
  revert Hz
  cases hp28
  rcases hR28 with _ | ⟨hd28_0, _ | ⟨hd28_1, _ | _⟩⟩
  obtain rfl := hd28_0.v_out
  clear hd28_0
  obtain ⟨p29, c29, hv29, hw29⟩ := hd28_1.ns_shape; subst hv29
  intro Hz
  refine goCh Hz (.c rfl (fun _ h => y_idx h rfl rfl U36 fct1 (k) rfl hk) <| .loadAt (hrg28 m24 rfl) rfl U48 rfl fct1 .nil) fun Az Hz => ?_
  refine plz (e_alloc Hz m24 101 fct3 rfl fun g32 Az w33 Hz m33 _ _ => ?_)
  refine plz (stw Hz m33 101 fct1 fun w34 m34 _ => ?_)
  refine znl (hK6 _ _ ?_)
  refine wp_region_lit ?_
  refine goCh Hz (.move rfl <| .fa 1 rfl U48 <| .lb m34 101 U22 rfl rfl rfl .nil) fun Az Hz => ?_
  refine plz (ecl Hz Tryd.func32 rfl (plainB_any xd _ _ _ ((hd28_1.now' m34 rfl).any) (hok _ (List.mem_of_getElem? hes))) ?_)
  rintro e w38 ⟨p38, c38, rfl, hd38, hb38⟩
  have m39 := m34.callF 102 rfl hb38 hd38
  refine ⟨_, rfl, ?_⟩; intro Az Hz
  refine plz (e_litR Hz m39 103 (mm := 1) rfl (.cons rfl rfl (.cons (m39.rd (i := 102) rfl) .nil) .nil) U23 fct5 rfl rfl rfl rfl rfl fun g41 Az w42 Hz m42 => ?_)
  have m44 := m42.freezeR 103 rfl
  refine plz (e_appR Hz m44 9 rfl rfl rfl (m44.rd (i := 103) rfl) U23 fct5 rfl rfl (by decide) (by simp; omega) rfl fun p43 c43 Az w45 Hz m45 => ?_)
  refine gz hK5 Hz (.assign rfl .nil) fun Az Hz => ?_
  replace Hz := Hz.oz [1, 3, 15, 16, 17]
  refine wp_region_lit ?_
  refine goCh Hz (.inc (k + 1) <| .move rfl .nil) fun Az Hz => ?_
  refine wpList_nil ?_
  show ∃ n', n' < _ ∧ _
  have hE : ((v.its.take k).map sndD) ++ [[D.ns .u8 xd]] = ((v.its.take (k + 1)).map sndD) := by rw [take_snoc hes, List.map_append]; rfl
  rw [hE] at m45 Hz
  exact ⟨v.its.length - (k + 1), by omega, k + 1, _, _, _, by omega, rfl, Hz.only [1, 3, 15, 16, 17], m45.ren [(9, 9)] (by decide)⟩
 intro hb26 Hz; try simp only [QQ, Qax] at hb26
 have hke : k = v.its.length := by have := hb26; first | omega | (simp at this; omega)
 refine wcf Hz ?_
 refine wp_exit ?_
 refine hK3 _ _ ?_
 refine regS Hz (.move rfl <| .assign rfl .nil) fun Az Hz => ?_
 refine rt1 Hz ?_
 have m52 := m24.freezeR 9 rfl
 rw [hke, List.take_length] at m52
 rw [hke, List.take_length]
 exact ⟨_, _, by rw [List.length_map], by have h9 := m52.outF (i := 9) rfl; rw [List.length_map] at h9; rw [List.map_map]; exact h9, m52.below⟩
theorem streams_same (v : StrV) (pa pb : Option Addr) (na nb ca cb : Nat) (w0 : World) (h1 : Rd (fun _ => True) w0 (.slice pa na ca) (.l 2 (v.its.map itD))) (h2 : Rd (fun _ => True) w0 (.slice pb nb cb) (.l 2 (v.its.map itD))) (hl : v.its.length ≤ 1000000) :
   Calls Tryd.prog 9 #[.agg #[.int .i64 v.bl, .int .i64 v.sz, .int .i64 v.fr, .int .i64 v.to, .slice pa na ca], .agg #[.int .i64 v.bl, .int .i64 v.sz, .int .i64 v.fr, .int .i64 v.to, .slice pb nb cb]] w0 fun e w' => e = .returned (.bool true) ∧ Below w0.heap.size w0 w' := by
 refine ent2 Tryd.func9 rfl Tryd.ntmps9 fun Az Hz => ?_
 have m0 := MemOk.start (fun _ => False) w0
 refine zsr fun K0 hK0 => ?_
 refine plz (e_box Hz m0 20 (cs := [_, _, _, _, _]) rfl rfl rfl fun g1 Az w2 Hz m2 _ _ => ?_)
 refine plz (e_box Hz m2 21 (cs := [_, _, _, _, _]) rfl rfl rfl fun g3 Az w4 Hz m4 _ _ => ?_)
 refine gz hK0 Hz (.assign rfl .nil) fun Az Hz => ?_
 refine zsr fun K1 hK1 => ?_
 refine goCh Hz (.fa 0 rfl U38 <| .lb m4 20 U3 rfl rfl rfl <| .fa 0 rfl U38 <| .lb m4 21 U3 rfl rfl rfl <| .eql rfl rfl <| .move rfl .nil) fun Az Hz => ?_
 refine bc Hz 10 ?_ ?_
 rotate_left
 · intro hb _; exact absurd hb (by simp)
 clear Hz; intro _ Hz
 refine goCh Hz (.faZ 1 rfl U38 <| .loadB1Z m4 (i := 20) rfl rfl rfl U3 rfl <| .faZ 1 rfl U38 <| .loadB1Z m4 (i := 21) rfl rfl rfl U3 rfl <| .eqlZ rfl rfl <| .pickT rfl rfl <| .move rfl .nil) fun Az Hz => ?_
 refine bc Hz 17 ?_ ?_
 rotate_left
 · intro hb _; exact absurd hb (by simp)
 clear Hz; intro _ Hz
 refine goCh Hz (.faZ 2 rfl U38 <| .loadB1Z m4 (i := 20) rfl rfl rfl U2 rfl <| .faZ 2 rfl U38 <| .loadB1Z m4 (i := 21) rfl rfl rfl U2 rfl <| .eqlZ rfl rfl <| .pickT rfl rfl <| .move rfl .nil) fun Az Hz => ?_
 refine bc Hz 24 ?_ ?_
 rotate_left
 · intro hb _; exact absurd hb (by simp)
 clear Hz; intro _ Hz
 refine goCh Hz (.faZ 3 rfl U38 <| .loadB1Z m4 (i := 20) rfl rfl rfl U2 rfl <| .faZ 3 rfl U38 <| .loadB1Z m4 (i := 21) rfl rfl rfl U2 rfl <| .eqlZ rfl rfl <| .pickT rfl rfl <| .move rfl .nil) fun Az Hz => ?_
 refine bc Hz 31 ?_ ?_
 rotate_left
 · intro hb _; exact absurd hb (by simp)
 clear Hz; intro _ Hz
 refine goCh Hz (.faZ 4 rfl U38 <| .loadB1Z m4 (i := 20) rfl rfl rfl U36 rfl <| .faZ 4 rfl U38 <| .loadB1Z m4 (i := 21) rfl rfl rfl U36 rfl .nil) fun Az Hz => ?_
 refine stz Hz (ecb Hz Tryd.func27 rfl m4 (sitems_any v.its _ _ _ _ _ _ _ ((h1.now' m4 rfl).any) ((h2.now' m4 rfl).any) hl) fun Az w47 Hz m48 => ?_)
 refine gz hK1 Hz (.pickT rfl rfl <| .assign rfl <| .nil) fun Az Hz => ?_
 refine rt1 Hz ?_
 exact ⟨rfl, m48.below⟩
theorem decode_none (w0 : World) :
   Calls Tryd.prog 7 #[.slice none 0 0] w0 fun e w' => e = .returned (.tuple #[.slice none 0 0, .int .i64 0, .int .i64 38]) ∧ Below w0.heap.size w0 w' := by
 refine ent1 Tryd.func7 rfl Tryd.ntmps7 fun Az Hz => ?_
 have m0 := MemOk.start (fun _ => False) w0
 refine regS Hz (.assign rfl <| .assign rfl <| .assign rfl .nil) fun Az Hz => ?_
 refine regS Hz (.assign rfl .nil) fun Az Hz => ?_
 refine wsk fun K0 hK0 => ?_
 refine regS Hz (.move rfl <| .len rfl U23 <| .move rfl .nil) fun Az Hz => ?_
 refine wp_block ?_
 refine wp_loop_ghost (fun g a w => g = 0 ∧ Has 45 [(5, .slice none 0 0), (12, .int .i64 0), (13, .int .i64 0)] a ∧ MemOk (cn w0) w0 [] w) (0) ?_ ?_
 · exact ⟨rfl, Hz.only [5, 12, 13], m0.only []⟩
 clear Hz m0
 rintro g Az w8 ⟨hg, Hz, m8⟩
 refine regS Hz (.lss rfl rfl .nil) fun Az Hz => ?_
 refine wsk fun K1 hK1 => ?_
 refine bc Hz 14 ?_ ?_
 · intro hb _; exact absurd hb (by simp)
 clear Hz; intro _ Hz
 refine wcf Hz ?_
 refine wp_exit ?_
 refine hK0 _ _ ?_
 refine wsk fun K2 hK2 => ?_
 refine zsr fun K3 hK3 => ?_
 refine goCh Hz (.move rfl .nil) fun Az Hz => ?_
 refine plz (ecl Hz Tryd.func24 rfl (broken_any [] none 0 0 _ (.l0 _ _ _) (by simp) (by simp)) ?_)
 rintro e w13 ⟨kb, rfl, hkb, _, _, hb13⟩
 have m14 := m8.later hb13
 refine ⟨_, rfl, ?_⟩; intro Az Hz
 refine gz hK3 Hz (.assign rfl .nil) fun Az Hz => ?_
 refine zsr fun K4 hK4 => ?_
 refine goCh Hz (.move rfl <| .len rfl U26 <| .eql rfl rfl <| .move rfl .nil) fun Az Hz => ?_
 refine bc Hz 37 ?_ ?_
 rotate_left
 · intro hb _; exact absurd hb (by simp)
 clear Hz; intro _ Hz
 refine gz hK4 Hz (.sk <| .sk <| .sk <| .sk <| .pickT rfl rfl <| .nil) fun Az Hz => ?_
 refine wct Hz ?_
 replace Hz := Hz.oz [5, 12, 13, 10]
 refine regS Hz (.move rfl <| .assign rfl <| .assign rfl <| .assign rfl .nil) fun Az Hz => ?_
 refine rt3 Hz ?_
 revert Hz
 obtain rfl : kb = 0 := Nat.le_zero.1 hkb
 intro Hz
 exact ⟨rfl, m14.below⟩
end Go.Proofs.YtcccomafnmdlfaaDoor.K
