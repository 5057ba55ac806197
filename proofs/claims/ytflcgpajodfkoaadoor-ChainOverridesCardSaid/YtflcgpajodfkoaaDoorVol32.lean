/- A machine's volumes: which are right and small; find; Do of any kind. -/
import Derived.Test.YtflcgpajodfkoaaDoorVol30
import Derived.Test.YtflcgpajodfkoaaDoorVol18
import Derived.Test.YtflcgpajodfkoaaDoorG2
namespace Go.Proofs.YtflcgpajodfkoaaDoor.K
open Go.ChangeShapes Go.WideShapes Go.ChangeAt Go.RowKit
set_option linter.unusedVariables false
set_option linter.unusedSimpArgs false
structure VolV where
 vo : Int
 bl : Int
 sz : Int
 pe : Int
 place : List Int
 to : Int
 ne : Int
 hi : Bool
 fl : Int
 pins : List Int
 ws : List PWr
def volD (x : VolV) : List D := [.v (.int .i64 x.vo), .v (.int .i64 x.bl), .v (.int .i64 x.sz), .v (.int .i64 x.pe), .ns .i64 x.place, .v (.int .i64 x.to), .v (.int .i64 x.ne), .v (.bool x.hi), .v (.int .i64 x.fl), .ns .i64 x.pins, .l 2 (x.ws.map wrD)]
theorem volD_get {L : List VolV} {k : Nat} {x : VolV} (h : L[k]? = some x) : (L.map volD)[k]? = some [.v (.int .i64 x.vo), .v (.int .i64 x.bl), .v (.int .i64 x.sz), .v (.int .i64 x.pe), .ns .i64 x.place, .v (.int .i64 x.to), .v (.int .i64 x.ne), .v (.bool x.hi), .v (.int .i64 x.fl), .ns .i64 x.pins, .l 2 (x.ws.map wrD)] := by simp [h, volD]
def WBy (ws : List PWr) : Prop := ∀ e ∈ ws, ∀ x ∈ e.2, BytesL x.2
theorem WBy.snoc {ws : List PWr} {s : Int} {it : List PI} (h : WBy ws) (hi : ∀ e ∈ it, BytesL e.2) : WBy (ws ++ [(s, it)]) := fun e he => by
 rcases List.mem_append.1 he with h1 | h1
 · exact h e h1
 rw [List.mem_singleton.1 h1]; exact hi
theorem doR_by {bl sz to ne fl : Int} {hi : Bool} {pins : List Int} {ws : List PWr} {kd at0 ix : Int} {it : List PI} {ne' fl' e9 : Int} {hi' : Bool} {ws' : List PWr} (h : doR bl sz to ne fl hi pins ws kd at0 ix it = (ne', hi', fl', ws', e9)) (hw : WBy ws) (hb : ∀ e ∈ it, BytesL e.2) : WBy ws' := by
 unfold doR putR pruneR takeR publishR wrR at h
 repeat' split at h
 all_goals (simp only [Prod.mk.injEq] at h; obtain ⟨-, -, -, rfl, -⟩ := h; first | exact hw | exact hw.snoc hb)
def VolS (n : Nat) (x : VolV) : Prop := VolR x.vo x.bl x.sz x.pe x.to x.ne x.fl x.hi x.place x.pins x.ws ∧ (x.hi = true → x.pins = []) ∧ x.pins.length ≤ n ∧ x.ws.length ≤ n ∧ WBy x.ws
theorem VolS.up {n m : Nat} {x : VolV} (h : VolS n x) (hm : n ≤ m) : VolS m x := ⟨h.1, h.2.1, by have := h.2.2.1; omega, by have := h.2.2.2.1; omega, h.2.2.2.2⟩
def MacS (n : Nat) (L : List VolV) : Prop := L.length ≤ n ∧ ∀ x ∈ L, VolS n x
theorem MacS.set {n : Nat} {L : List VolV} {x : VolV} (h : MacS n L) (hx : VolS (n + 1) x) (k : Nat) : MacS (n + 1) (L.set k x) := ⟨by rw [List.length_set]; have := h.1; omega, fun y hy => by
 rcases List.mem_or_eq_of_mem_set hy with hy | rfl
 · exact (h.2 y hy).up (by omega)
 exact hx⟩
theorem MacS.ins {n : Nat} {L : List VolV} {x : VolV} (h : MacS n L) (hx : VolS (n + 1) x) (k : Nat) : MacS (n + 1) (L.take k ++ [x] ++ L.drop k) := ⟨by simp only [List.length_append, List.length_take, List.length_drop, List.length_singleton]; have := h.1; omega, fun y hy => by
 rcases List.mem_append.1 hy with hy | hy
 · rcases List.mem_append.1 hy with hy | hy
   · exact (h.2 y (List.mem_of_mem_take hy)).up (by omega)
   rw [List.mem_singleton.1 hy]; exact hx
 exact (h.2 y (List.mem_of_mem_drop hy)).up (by omega)⟩
theorem MacS.up {n m : Nat} {L : List VolV} (h : MacS n L) (hm : n ≤ m) : MacS m L := ⟨by have := h.1; omega, fun x hx => (h.2 x hx).up hm⟩
set_option maxRecDepth 100000
set_option maxHeartbeats 4000000
theorem rfind (X : Cx) (B : Nat) (L : List VolV) (p : Option Addr) (c : Nat) (vo : Int) (w0 : World) (hl : L.length ≤ 1000000) (m0 : MemOk X w0 [(1, .box B 82 [.slice p (L.map volD).length c]), (2, .dat (.slice p (L.map volD).length c) (.l 11 (L.map volD)))] w0) :
   Calls Tryd.prog 57 #[.pointer (some ⟨B, 0, none⟩), .int .i64 vo] w0 fun e w' => ∃ j : Int, e = .returned (.int .i64 j) ∧ -1 ≤ j ∧ j < L.length ∧ MemOk X w0 [(1, .box B 82 [.slice p (L.map volD).length c]), (2, .dat (.slice p (L.map volD).length c) (.l 11 (L.map volD)))] w' := by
 refine ent2 Tryd.func57 rfl Tryd.ntmps57 fun Az Hz => ?_
 refine regS Hz (.assign rfl <| .nil) ?_
 clear Hz Az; intro Az Hz
 refine wp_seq_k (fun K0 hK0 => ?_)
 refine regS Hz (.assign rfl <| .nil) ?_
 clear Hz Az; intro Az Hz
 refine wp_block ?_
 refine wp_loop_ghost (fun g a w => ∃ (k : Nat), k ≤ L.length ∧ g = L.length - k ∧ Has 26 [(0, .pointer (some ⟨B, 0, none⟩)), (1, .int .i64 vo), (5, .int .i64 k)] a ∧ MemOk X w0 [(1, .box B 82 [.slice p (L.map volD).length c]), (2, .dat (.slice p (L.map volD).length c) (.l 11 (L.map volD)))] w) (L.length) ?_ ?_
 · exact ⟨0, Nat.zero_le _, rfl, Hz.only [0, 1, 5], m0.only [1, 2]⟩
 clear Hz m0
 rintro g Az w3 ⟨k, hkl, hg, Hz, m3⟩
 refine wp_seq_k (fun K1 hK1 => ?_)
 refine regS Hz (.move rfl <| .move rfl <| .nilCheck rfl <| .fa 0 rfl U82 <| .lb m3 1 U80 rfl rfl rfl <| .len rfl U80 <| .lss rfl rfl <| .nil) ?_
 clear Hz Az; intro Az Hz
 refine bool_cases Hz (t := 12) rfl ?_ ?_
 ·
  clear Hz; intro hb11 Hz; try simp only [QQ, Qax] at hb11
  have hk : k < L.length := by have := hb11; simp at this; omega
  obtain ⟨x, hes⟩ : ∃ x, L[k]? = some x := ⟨_, List.getElem?_eq_getElem (by simpa using hk)⟩
  refine wp_cond_true (Hz.ev (x := .tmp 12) rfl) ?_
  refine zss (hK1 _ _ ?_); clear hK1
  refine wp_seq_k (fun K2 hK2 => ?_)
  refine wp_block ?_
  replace Hz : Has 26 [(0, _), (1, _), (5, _)] Az := Hz.only [0, 1, 5]
  refine zsr fun K3 hK3 => ?_
  refine goCh Hz (.move rfl <| .nilCheck rfl <| .fa 0 rfl U82 <| .lb m3 1 U80 rfl rfl rfl <| .move rfl <| .nil) ?_
  clear Hz Az; intro Az Hz
  obtain ⟨b24, o24, vs24, hp24, hR24, ho24, m24⟩ := m3.openR (i := 2) rfl (k) (r := [.v (.int .i64 x.vo), .v (.int .i64 x.bl), .v (.int .i64 x.sz), .v (.int .i64 x.pe), .ns .i64 x.place, .v (.int .i64 x.to), .v (.int .i64 x.ne), .v (.bool x.hi), .v (.int .i64 x.fl), .ns .i64 x.pins, .l 2 (x.ws.map wrD)]) (volD_get hes) 100 rfl
  cases hp24; clear m3 ho24
  rcases hR24 with _ | ⟨hd24_0, _ | ⟨hd24_1, _ | ⟨hd24_2, _ | ⟨hd24_3, _ | ⟨hd24_4, _ | ⟨hd24_5, _ | ⟨hd24_6, _ | ⟨hd24_7, _ | ⟨hd24_8, _ | ⟨hd24_9, _ | ⟨hd24_10, _ | _⟩⟩⟩⟩⟩⟩⟩⟩⟩⟩⟩
  obtain rfl := hd24_0.v_out
  clear hd24_0
  obtain rfl := hd24_1.v_out
  clear hd24_1
  obtain rfl := hd24_2.v_out
  clear hd24_2
  obtain rfl := hd24_3.v_out
  clear hd24_3
  obtain ⟨p25, c25, hv25, hc25⟩ := hd24_4.ns_shape; subst hv25
  have m25 := m24.dat 101 rfl (hd24_4.cast (fun _ h => (free_add rfl h))); clear m24 hd24_4
  obtain rfl := hd24_5.v_out
  clear hd24_5
  obtain rfl := hd24_6.v_out
  clear hd24_6
  obtain rfl := hd24_7.v_out
  clear hd24_7
  obtain rfl := hd24_8.v_out
  clear hd24_8
  obtain ⟨p26, c26, hv26, hc26⟩ := hd24_9.ns_shape; subst hv26
  have m26 := m25.dat 102 rfl (hd24_9.cast (fun _ h => (free_add rfl (free_add rfl h)))); clear m25 hd24_9
  obtain ⟨p27, c27, hv27, hc27⟩ := hd24_10.l_shape; subst hv27
  have m27 := m26.dat 103 rfl (hd24_10.cast (fun _ h => (free_add rfl (free_add rfl (free_add rfl h))))); clear m26 hd24_10
  refine goCh Hz (.c rfl (fun _ h => y_idx h rfl rfl U80 fct10 (k) rfl (by simpa using hk)) <| .fieldAddrQ 0 rfl U30 rfl (s := 0) (by kernel_rfl) rfl <| .loadC0 m27 (i := 100) rfl rfl U3 rfl <| .move rfl <| .eql rfl rfl <| .nil) ?_
  clear Hz Az; intro Az Hz
  refine znl (hK3 _ _ ?_); clear hK3
  refine bool_cases Hz (t := 24) rfl ?_ ?_
  ·
   clear Hz; intro hb33 Hz; try simp only [QQ, Qax] at hb33
   refine wp_cond_true (Hz.ev (x := .tmp 24) rfl) ?_
   replace Hz : Has 26 [(0, _), (1, _), (5, _)] Az := Hz.only [0, 1, 5]
   refine regS Hz (.move rfl <| .assign rfl <| .nil) ?_
   clear Hz Az; intro Az Hz
   refine wp_ret ?_
   try dsimp only [Exit.then, Exit.inBlock]
   refine (ret1 (fn := Tryd.f57) Hz rfl rfl ?_)
   first | exact ⟨k, rfl, by omega, by omega, m27.only [1, 2]⟩ | exact ⟨-1, rfl, by omega, by omega, m27.only [1, 2]⟩
  clear Hz; intro hb33 Hz; try simp only [QQ, Qax] at hb33
  refine wp_cond_false (Hz.ev (x := .tmp 24) rfl) ?_
  refine zss (hK2 _ _ ?_); clear hK2
  replace Hz : Has 26 [(0, _), (1, _), (5, _)] Az := Hz.only [0, 1, 5]
  refine wp_region_lit ?_
  refine goCh Hz (.move rfl <| .add rfl rfl (r := ((k + 1 : Nat) : Int)) (by rw [IntWalk.i64_in _ (by omega)]; omega) <| .assign rfl <| .nil) ?_
  clear Hz Az; intro Az Hz
  refine wpList_nil ?_
  show ∃ n', n' < _ ∧ _
  exact ⟨L.length - (k + 1), by omega, k + 1, by omega, rfl, Hz.only [0, 1, 5], m27.only [1, 2]⟩
 clear Hz; intro hb11 Hz; try simp only [QQ, Qax] at hb11
 refine wp_cond_false (Hz.ev (x := .tmp 12) rfl) ?_
 refine wp_exit ?_
 refine hK0 _ _ ?_; clear hK0
 replace Hz : Has 26 [(0, _), (1, _), (5, _)] Az := Hz.only [0, 1, 5]
 refine regS Hz (.assign rfl <| .nil) ?_
 clear Hz Az; intro Az Hz
 refine wp_ret ?_
 try dsimp only [Exit.then, Exit.inBlock]
 refine (ret1 (fn := Tryd.f57) Hz rfl rfl ?_)
 first | exact ⟨k, rfl, by omega, by omega, m3.only [1, 2]⟩ | exact ⟨-1, rfl, by omega, by omega, m3.only [1, 2]⟩
theorem rDoAny (X : Cx) (x : VolV) (n : Nat) (hx : VolS n x) (hn : n ≤ 800000) (items : List (Int × List Int)) (pp pn pw : Option Addr) (cp cn9 cw : Nat) (pi : Option Addr) (ci : Nat) (kd v1 v2 v3 v4 v5 at0 ix : Int) (q1 : Option Addr) (n1 c1 : Nat) (w0 : World) (hil : items.length ≤ 1000000) (hio : ItsOk items) (hiy : ∀ e ∈ items, BytesL e.2) (m0 : MemOk X w0 [(1, .dat (.slice pp x.place.length cp) (.ns .i64 x.place)), (2, .dat (.slice pn x.pins.length cn9) (.ns .i64 x.pins)), (3, .dat (.slice pw (x.ws.map wrD).length cw) (.l 2 (x.ws.map wrD))), (4, .dat (.slice pi (items.map itD).length ci) (.l 2 (items.map itD)))] w0) :
   Calls Tryd.prog 64 #[.agg #[.int .i64 x.vo, .int .i64 x.bl, .int .i64 x.sz, .int .i64 x.pe, .slice pp x.place.length cp, .int .i64 x.to, .int .i64 x.ne, .bool x.hi, .int .i64 x.fl, .slice pn x.pins.length cn9, .slice pw (x.ws.map wrD).length cw], .agg #[.int .i64 kd, .int .i64 v1, .int .i64 v2, .int .i64 v3, .int .i64 v4, .slice q1 n1 c1, .int .i64 v5, .int .i64 at0, .int .i64 ix, .slice pi (items.map itD).length ci]] w0 fun e w' => ∃ (y : VolV) (e9 rl rf rn : Int) (p1 p2 p3 : Option Addr) (d1 d2 d3 : Nat), e = .returned (.tuple #[.agg #[.int .i64 y.vo, .int .i64 y.bl, .int .i64 y.sz, .int .i64 y.pe, .slice p1 y.place.length d1, .int .i64 y.to, .int .i64 y.ne, .bool y.hi, .int .i64 y.fl, .slice p2 y.pins.length d2, .slice p3 (y.ws.map wrD).length d3], .agg #[.int .i64 e9, .int .i64 rl, .int .i64 rf, .int .i64 rn, .slice none 0 0]]) ∧ y.vo = x.vo ∧ VolS (n + 1) y ∧ MemOk X w0 [(1, .dat (.slice p1 y.place.length d1) (.ns .i64 y.place)), (2, .dat (.slice p2 y.pins.length d2) (.ns .i64 y.pins)), (3, .dat (.slice p3 (y.ws.map wrD).length d3) (.l 2 (y.ws.map wrD)))] w' := by
 obtain ⟨h1, h2, h3, h4, h5⟩ := hx
 obtain ⟨vo, bl, sz, pe, place, to, ne, hi, fl, pins, ws⟩ := x
 simp only at *
 have hI : (items.map itD).length = items.length := List.length_map ..
 rw [hI] at m0 ⊢
 have hne : -1000000000000000 ≤ ne ∧ ne ≤ 1000000000000000 := by
   obtain ⟨⟨a1, a2, a3, a4, a5, a6, a7, a8, a9, a10, a11⟩, b1, b2, b3⟩ := h1
   omega
 by_cases k4 : kd = 4
 · subst k4
   refine (rDo4 X vo bl sz pe to ne fl hi place pins ws pp pn pw cp cn9 cw v1 v2 v3 v4 v5 at0 ix q1 n1 c1 pi items.length ci w0 (by omega) h1.sorted (m0.only [1, 2, 3])).mono ?_
   rintro e w' ⟨pins', e9, rl, rf, rn, p2, d2, rfl, hd, hr, m⟩
   obtain ⟨g1, g2, g3⟩ := h1.pin h2 hd
   exact ⟨⟨vo, bl, sz, pe, place, to, ne, hi, fl, pins', ws⟩, e9, rl, rf, rn, _, _, _, _, _, _, rfl, rfl, ⟨g1, g2, by simp only; omega, by simp only; omega, h5⟩, m.ren [(1, 1), (2, 6), (3, 3)] (by decide)⟩
 by_cases k5 : kd = 5
 · subst k5
   refine (rDo5 X vo bl sz pe to ne fl hi place pins ws pp pn pw cp cn9 cw v1 v2 v3 v4 v5 at0 ix q1 n1 c1 pi items.length ci w0 (by omega) (m0.only [1, 2, 3])).mono ?_
   rintro e w' ⟨pins', e9, rl, rf, rn, p2, d2, rfl, hd, hr, m⟩
   obtain ⟨g1, g2, g3⟩ := h1.unpin h2 hd
   exact ⟨⟨vo, bl, sz, pe, place, to, ne, hi, fl, pins', ws⟩, e9, rl, rf, rn, _, _, _, _, _, _, rfl, rfl, ⟨g1, g2, by simp only; omega, by simp only; omega, h5⟩, m.ren [(1, 1), (2, 6), (3, 3)] (by decide)⟩
 refine (rDo X vo bl sz pe to ne fl hi place pins ws items pp pn pw cp cn9 cw pi ci kd v1 v2 v3 v4 v5 at0 ix q1 n1 c1 w0 k4 k5 hne (by omega) (by omega) hil hio m0).mono ?_
 rintro e w' ⟨ne', hi', fl', ws', e9, rl, rf, rn, p3, d3, rfl, hd, hr, m⟩
 obtain ⟨g1, g2, g3⟩ := h1.do h2 hd
 exact ⟨⟨vo, bl, sz, pe, place, to, ne', hi', fl', pins, ws'⟩, e9, rl, rf, rn, _, _, _, _, _, _, rfl, rfl, ⟨g1, g2, by simp only; omega, by simp only; omega, doR_by hd h5 hiy⟩, m.ren [(1, 1), (2, 2), (3, 7)] (by decide)⟩
end Go.Proofs.YtflcgpajodfkoaaDoor.K
