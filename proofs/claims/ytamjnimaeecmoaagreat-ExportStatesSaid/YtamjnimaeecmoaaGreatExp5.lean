/- export: known. -/
import Derived.Test.YtamjnimaeecmoaaGreatExp3
import Derived.Test.YtamjnimaeecmoaaGreatExp4
namespace Go.Proofs.YtamjnimaeecmoaaGreat.K
open Go.ChangeShapes Go.WideShapes Go.ChangeAt Go.RowKit
set_option linter.unusedVariables false
set_option linter.unusedSimpArgs false
theorem fl33ega : flatS Tryz.prog 33 [.int .i64 0, .int .i64 0, .int .i64 0, .int .i64 0, .slice none 0 0, .int .i64 0, .int .i64 0, .bool false, .int .i64 0, .slice none 0 0, .slice none 0 0] = true := by kernel_rfl
theorem retCTT {P : Program} {n : Nat} {T : List (Nat × Value)} {a : Act} {w w0 : World} {X : Cx} {M : Mm} (ha : Has n T a) (m : MemOk X w0 M w) {fn : Func} {t s r : Tmp} {ty : TypeId} {td : TypeDesc} {i g : Nat} {e : TypeId} {cs : List Value} {u v : Value} {R : Ending → World → Prop} (hr : fn.results = #[.cell t ty, .tmp s, .tmp r]) (hv : lk T t = some (.pointer (some ⟨g, 0, none⟩))) (hu2 : lk T s = some u) (hu3 : lk T r = some v) (hm : lk M i = some (.box g e cs)) (hu : P.underlying ty = some td) (hd : td.isRow = true) (hs : (P.info? ty).map (·.size) = some cs.length) (h : R (.returned (.tuple #[.agg cs.toArray, u, v])) w) : bodyPost P fn R .ret a w :=
 ⟨ha.d, _, by
   have h1 := ha.h t _ hv
   have h2 := ha.h s _ hu2
   have h3 := ha.h r _ hu3
   rw [Array.getD_eq_getD_getElem?] at h1 h2 h3
   simp [results, hr, h1, h2, h3, asAddr, run_loadBox m hm hu hd hs], h⟩
def allL (y : VolV) (j : Nat) : List (Nat × Nat) := (List.range j).map fun k => (k, y.ws.length)
theorem allL_len (y : VolV) (j : Nat) : (allL y j).length = j := by unfold allL; rw [List.length_map, List.length_range]
theorem allL_snoc (y : VolV) (j : Nat) : allL y (j + 1) = allL y j ++ [(j, y.ws.length)] := by unfold allL; rw [List.range_succ, List.map_append]; rfl
theorem allL_mem {y : VolV} {j k : Nat} (h : k < j) : (k, y.ws.length) ∈ allL y j := List.mem_map.2 ⟨k, List.mem_range.2 h, rfl⟩
theorem allL_of {y : VolV} {j : Nat} {x : Nat × Nat} (h : x ∈ allL y j) : x.1 < j ∧ x.2 = y.ws.length := by
 obtain ⟨k, hk, rfl⟩ := List.mem_map.1 h
 exact ⟨List.mem_range.1 hk, rfl⟩
theorem allL_lo {y : VolV} : ∀ x ∈ allL y y.place.length, x.1 < y.place.length ∧ x.2 ≤ y.ws.length := fun x hx => ⟨(allL_of hx).1, Nat.le_of_eq (allL_of hx).2⟩
theorem allL_le {y : VolV} {j : Nat} : ∀ x ∈ allL y j, x.2 = y.ws.length := fun x hx => (allL_of hx).2
theorem allL_ne {y : VolV} {j : Nat} (h : 0 < j) : allL y j ≠ [] := by
 intro e
 have := allL_len y j
 rw [e] at this
 simp at this
 omega
theorem efull_n (X : Cx) (y : VolV) (n : Nat) (hS : VolS n y) (hn : n ≤ 1000) (pp pn pw : Option Addr) (cp nn9 cn9 cw : Nat) (L : List (Nat × Nat)) (pl : Option Addr) (nl cl : Nat) (t9 : Int) (w0 : World) (hL : L.length ≤ 1000000) (hLo : ∀ x ∈ L, x.1 < y.place.length ∧ x.2 ≤ y.ws.length) (hall : L = [] ∨ (L ≠ [] ∧ (y.fl ≤ t9 → t9 ≤ (y.ws.length : Int) → ∀ k, k < y.place.length → ∃ m, (k, m) ∈ L ∧ min y.fl (m : Int) ≤ t9 ∧ t9 ≤ (m : Int)))) (m0 : MemOk X w0 [(3, .dat (.slice pw (y.ws.map wrD).length cw) (.l 2 (y.ws.map wrD))), (4, .dat (.slice pl nl cl) (.l 7 (L.map (ckD y))))] w0) :
   Calls Tryz.prog 14 #[.agg #[.int .i64 y.vo, .int .i64 y.bl, .int .i64 y.sz, .int .i64 y.pe, .slice pp y.place.length cp, .int .i64 y.to, .int .i64 y.ne, .bool y.hi, .int .i64 y.fl, .slice pn nn9 cn9, .slice pw (y.ws.map wrD).length cw], .slice pl nl cl, .int .i64 t9] w0 fun e w' => ∃ (e9 bl sz fr8 t8 : Int) (its : List (Int × List Int)) (p9 : Option Addr) (c9 : Nat), FullE y L t9 e9 bl sz fr8 t8 its ∧ e = .returned (.tuple #[.agg #[.int .i64 bl, .int .i64 sz, .int .i64 fr8, .int .i64 t8, .slice p9 (its.map itD).length c9], .int .i64 e9]) ∧ MemOk X w0 [(3, .dat (.slice pw (y.ws.map wrD).length cw) (.l 2 (y.ws.map wrD))), (4, .dat (.slice pl nl cl) (.l 7 (L.map (ckD y)))), (9, .dat (.slice p9 (its.map itD).length c9) (.l 2 (its.map itD)))] w' := by
 obtain rfl : nl = L.length := nnOf (m0.rd (i := 4) rfl)
 exact efull_x X y n hS hn pp pn pw cp nn9 cn9 cw L pl cl t9 w0 hL hLo hall m0
theorem esince_n (X : Cx) (y : VolV) (n : Nat) (hS : VolS n y) (hn : n ≤ 1000) (pp pn pw : Option Addr) (cp nn9 cn9 cw : Nat) (L : List (Nat × Nat)) (pl : Option Addr) (nl cl : Nat) (fr t9 : Int) (w0 : World) (hL : L.length ≤ 1000000) (hLo : ∀ x ∈ L, x.1 < y.place.length ∧ x.2 ≤ y.ws.length) (hall : L = [] ∨ (L ≠ [] ∧ (∀ x ∈ L, x.2 = y.ws.length) ∧ (∀ k, k < y.place.length → (k, y.ws.length) ∈ L))) (m0 : MemOk X w0 [(3, .dat (.slice pw (y.ws.map wrD).length cw) (.l 2 (y.ws.map wrD))), (4, .dat (.slice pl nl cl) (.l 7 (L.map (ckD y))))] w0) :
   Calls Tryz.prog 17 #[.agg #[.int .i64 y.vo, .int .i64 y.bl, .int .i64 y.sz, .int .i64 y.pe, .slice pp y.place.length cp, .int .i64 y.to, .int .i64 y.ne, .bool y.hi, .int .i64 y.fl, .slice pn nn9 cn9, .slice pw (y.ws.map wrD).length cw], .slice pl nl cl, .int .i64 fr, .int .i64 t9] w0 fun e w' => ∃ (e9 bl sz fr8 t8 : Int) (its : List (Int × List Int)) (p9 : Option Addr) (c9 : Nat), SinceE y L fr t9 e9 bl sz fr8 t8 its ∧ e = .returned (.tuple #[.agg #[.int .i64 bl, .int .i64 sz, .int .i64 fr8, .int .i64 t8, .slice p9 (its.map itD).length c9], .int .i64 e9]) ∧ MemOk X w0 [(3, .dat (.slice pw (y.ws.map wrD).length cw) (.l 2 (y.ws.map wrD))), (4, .dat (.slice pl nl cl) (.l 7 (L.map (ckD y)))), (9, .dat (.slice p9 (its.map itD).length c9) (.l 2 (its.map itD)))] w' := by
 obtain rfl : nl = L.length := nnOf (m0.rd (i := 4) rfl)
 exact esince_x X y n hS hn pp pn pw cp nn9 cn9 cw L pl cl fr t9 w0 hL hLo hall m0
theorem epick_n (X : Cx) (y : VolV) (n : Nat) (hS : VolS n y) (hn : n ≤ 1000) (pp pn pw : Option Addr) (cp nn9 cn9 cw : Nat) (L : List (Nat × Nat)) (pl : Option Addr) (nl cl : Nat) (k : Nat) (a9 b9 : Int) (w0 : World) (hL : L.length ≤ 1000000) (hLo : ∀ x ∈ L, x.1 < y.place.length ∧ x.2 ≤ y.ws.length) (hk : k < y.place.length) (hin : ∃ m, (k, m) ∈ L ∧ min y.fl (m : Int) ≤ a9 ∧ b9 ≤ (m : Int)) (m0 : MemOk X w0 [(3, .dat (.slice pw (y.ws.map wrD).length cw) (.l 2 (y.ws.map wrD))), (4, .dat (.slice pl nl cl) (.l 7 (L.map (ckD y))))] w0) :
   Calls Tryz.prog 19 #[.agg #[.int .i64 y.vo, .int .i64 y.bl, .int .i64 y.sz, .int .i64 y.pe, .slice pp y.place.length cp, .int .i64 y.to, .int .i64 y.ne, .bool y.hi, .int .i64 y.fl, .slice pn nn9 cn9, .slice pw (y.ws.map wrD).length cw], .slice pl nl cl, .int .i64 (k : Int), .int .i64 a9, .int .i64 b9] w0 fun e w' => ∃ (m : Nat) (p9 : Option Addr) (c9 : Nat), PkOk y k a9 b9 (k, m) ∧ (k, m) ∈ L ∧ e = .returned (.tuple #[.agg #[.int .i64 y.vo, .int .i64 (k : Int), .int .i64 (cnY y k : Int), .int .i64 y.sz, .int .i64 (m : Int), .int .i64 (min y.fl (m : Int)), .slice p9 (cnY y k) c9], .bool true]) ∧ MemOk X w0 [(3, .dat (.slice pw (y.ws.map wrD).length cw) (.l 2 (y.ws.map wrD))), (4, .dat (.slice pl nl cl) (.l 7 (L.map (ckD y)))), (9, .dat (.slice p9 (cnY y k) c9) (.l 1 ((chN y (fnY y k) (cnY y k) m).map hD)))] w' := by
 obtain rfl : nl = L.length := nnOf (m0.rd (i := 4) rfl)
 exact epick_yes X y n hS hn pp pn pw cp nn9 cn9 cw L pl cl k a9 b9 w0 hL hLo hk hin m0
theorem eall_ck (X : Cx) (y : VolV) (n : Nat) (hS : VolS n y) (hn : n ≤ 1000) (pp pn pw : Option Addr) (cp nn9 cn9 cw : Nat) (k : Nat) (mark : Int) (w0 : World) (hk : k < y.place.length) (hmk : (y.ws.length : Int) ≤ mark) (m0 : MemOk X w0 [(3, .dat (.slice pw (y.ws.map wrD).length cw) (.l 2 (y.ws.map wrD)))] w0) :
   Calls Tryz.prog 12 #[.agg #[.int .i64 y.vo, .int .i64 y.bl, .int .i64 y.sz, .int .i64 y.pe, .slice pp y.place.length cp, .int .i64 y.to, .int .i64 y.ne, .bool y.hi, .int .i64 y.fl, .slice pn nn9 cn9, .slice pw (y.ws.map wrD).length cw], .int .i64 (k : Int), .int .i64 mark] w0 fun e w' => ∃ (pc : Option Addr) (cc : Nat), e = .returned (.agg #[.int .i64 y.vo, .int .i64 (k : Int), .int .i64 (cnY y k : Int), .int .i64 y.sz, .int .i64 (y.ws.length : Int), .int .i64 (min y.fl (y.ws.length : Int)), .slice pc (cnY y k) cc]) ∧ MemOk X w0 [(3, .dat (.slice pw (y.ws.map wrD).length cw) (.l 2 (y.ws.map wrD))), (9, .dat (.slice pc (cnY y k) cc) (.l 1 ((chN y (fnY y k) (cnY y k) y.ws.length).map hD)))] w' := by
 have h := zchunk_x X y k (fnY y k) (cnY y k) (ckY hS hk) (hS.f hn) hS.1.its.1 pp pn pw cp nn9 cn9 cw mark w0 m0
 refine h.mono fun e w' h9 => ?_
 obtain ⟨m, pc, cc, h1, h2, h3, h4⟩ := h9
 obtain rfl : m = y.ws.length := by omega
 exact ⟨pc, cc, h3, h4⟩
set_option maxRecDepth 100000
set_option maxHeartbeats 4000000
theorem r21right_ge (bl sz fr to : Int) (its : List (Int × List Int)) (pi : Option Addr) (ni ci : Nat) (w0 : World) (h1 : Rd (fun _ => True) w0 (.slice pi ni ci) (.l 2 (its.map itD))) (hs : StreamOk bl sz fr to its) (hfr : 0 ≤ fr) :
   Calls Tryz.prog 26 #[.agg #[.int .i64 bl, .int .i64 sz, .int .i64 fr, .int .i64 to, .slice pi ni ci]] w0 fun e w' => e = .returned (.bool true) ∧ Below w0.heap.size w0 w' := by
 obtain rfl : ni = its.length := by obtain ⟨pq, cq, hv, _⟩ := h1.l_shape; injection hv with _ e2 _; rw [List.length_map] at e2; exact e2
 refine ent1 Tryz.func26 rfl Tryz.ntmps26 fun Az Hz => ?_
 have m0 := MemOk.start (fun _ => False) w0
 have hil : its.length ≤ 256 := hs.len
 obtain ⟨hb9, hz9, hf9, ht9, hft9, hl9, hi9, hle9⟩ := hs
 refine zsr fun K0 hK0 => ?_
 refine plz (e_box Hz m0 20 (cs := [_, _, _, _, _]) rfl rfl rfl fun g1 Az w2 Hz m2 _ _ => ?_)
 refine gz hK0 Hz (.assign rfl .nil) fun Az Hz => ?_
 refine wsk fun K1 hK1 => ?_
 refine zsr fun K2 hK2 => ?_
 refine goCh Hz (.fa 0 rfl U42 <| .lb m2 20 U3 rfl rfl rfl <| .lss rfl rfl <| .move rfl .nil) fun Az Hz => ?_
 refine bc Hz 8 ?_ ?_
 · intro hb _; exact absurd hb (by first | (simp; done) | (simp; omega))
 clear Hz; intro _ Hz
 refine goCh Hz (.faZ 0 rfl U42 <| .loadB1Z m2 (i := 20) rfl rfl rfl U3 rfl <| .gtrZ rfl rfl <| .pickF rfl rfl <| .move rfl .nil) fun Az Hz => ?_
 refine bc Hz 13 ?_ ?_
 · intro hb _; exact absurd hb (by first | (simp; done) | (simp; omega))
 clear Hz; intro _ Hz
 refine goCh Hz (.faZ 1 rfl U42 <| .loadB1Z m2 (i := 20) rfl rfl rfl U3 rfl <| .lssZ rfl rfl <| .pickF rfl rfl <| .move rfl .nil) fun Az Hz => ?_
 refine bc Hz 18 ?_ ?_
 · intro hb _; exact absurd hb (by first | (simp; done) | (simp; omega))
 clear Hz; intro _ Hz
 refine goCh Hz (.faZ 1 rfl U42 <| .loadB1Z m2 (i := 20) rfl rfl rfl U3 rfl <| .gtrZ rfl rfl <| .pickF rfl rfl <| .move rfl .nil) fun Az Hz => ?_
 refine bc Hz 23 ?_ ?_
 · intro hb _; exact absurd hb (by first | (simp; done) | (simp; omega))
 clear Hz; intro _ Hz
 refine goCh Hz (.faZ 2 rfl U42 <| .loadB1Z m2 (i := 20) rfl rfl rfl U2 rfl <| .lssZ rfl rfl <| .pickF rfl rfl <| .move rfl .nil) fun Az Hz => ?_
 refine bc Hz 28 ?_ ?_
 · intro hb _; exact absurd hb (by first | (simp; done) | (simp; omega))
 clear Hz; intro _ Hz
 refine goCh Hz (.faZ 3 rfl U42 <| .loadB1Z m2 (i := 20) rfl rfl rfl U2 rfl <| .lssZ rfl rfl <| .pickF rfl rfl <| .move rfl .nil) fun Az Hz => ?_
 refine bc Hz 33 ?_ ?_
 · intro hb _; exact absurd hb (by first | (simp; done) | (simp; omega))
 clear Hz; intro _ Hz
 refine goCh Hz (.faZ 3 rfl U42 <| .loadB1Z m2 (i := 20) rfl rfl rfl U2 rfl <| .gtrZ rfl rfl <| .pickF rfl rfl <| .move rfl .nil) fun Az Hz => ?_
 refine bc Hz 38 ?_ ?_
 · intro hb _; exact absurd hb (by first | (simp; done) | (simp; omega))
 clear Hz; intro _ Hz
 refine goCh Hz (.faZ 3 rfl U42 <| .loadB1Z m2 (i := 20) rfl rfl rfl U2 rfl <| .faZ 2 rfl U42 <| .loadB1Z m2 (i := 20) rfl rfl rfl U2 rfl <| .lssZ rfl rfl <| .pickF rfl rfl <| .move rfl .nil) fun Az Hz => ?_
 refine bc Hz 45 ?_ ?_
 · intro hb _; exact absurd hb (by first | (simp; done) | (simp; omega))
 clear Hz; intro _ Hz
 refine goCh Hz (.faZ 2 rfl U42 <| .loadB1Z m2 (i := 20) rfl rfl rfl U2 rfl <| .lssZ rfl rfl <| .moveZ rfl .nil) fun Az Hz => ?_
 refine bc Hz 49 ?_ ?_
 · intro hb _; exact absurd hb (by first | (simp; done) | (simp; omega))
 clear Hz; intro _ Hz
 refine gz hK2 Hz (.sk <| .sk <| .sk <| .sk <| .sk <| .sk <| .pickFZ rfl rfl <| .pickF rfl rfl <| .nil) fun Az Hz => ?_
 refine wcf Hz ?_
 refine zss (hK1 _ _ ?_)
 replace Hz := Hz.oz [1, 2]
 refine regS Hz (.assign rfl .nil) fun Az Hz => ?_
 refine wsk fun K3 hK3 => ?_
 refine regS Hz (.assign rfl .nil) fun Az Hz => ?_
 refine wp_block ?_
 refine wp_loop_ghost (fun g a w => ∃ (k B : Nat), k ≤ its.length ∧ g = its.length - k ∧ Has 102 [(1, .pointer (some ⟨B, 0, none⟩)), (3, .int .i64 (lastB its k)), (4, .int .i64 k)] a ∧ MemOk (cn w0) w0 [(9, .box B 42 [.int .i64 bl, .int .i64 sz, .int .i64 fr, .int .i64 to, .slice pi its.length ci])] w) (its.length) ?_ ?_
 · exact ⟨0, _, Nat.zero_le _, rfl, Hz.only [1, 3, 4], m2.ren [(9, 20)] (by decide)⟩
 clear Hz m2
 rintro g Az w73 ⟨k, B, hkl, hg, Hz, m73⟩
 refine wsk fun K4 hK4 => ?_
 refine regS Hz (.move rfl <| .fa 4 rfl U42 <| .lb m73 9 U40 rfl rfl rfl <| .len rfl U40 <| .lss rfl rfl .nil) fun Az Hz => ?_
 refine bc Hz 62 ?_ ?_
 ·
  intro hb79 Hz; try simp only [QQ, Qax] at hb79
  have hk : k < its.length := by have := hb79; first | omega | (simp at this; omega)
  obtain ⟨⟨xb, xd⟩, hes⟩ : ∃ e, its[k]? = some e := ⟨_, List.getElem?_eq_getElem hk⟩
  obtain ⟨hx1, hx2, hx3⟩ := hi9 k _ hes
  dsimp only at hx1 hx2 hx3
  refine wct Hz ?_
  refine zss (hK4 _ _ ?_)
  refine wsk fun K5 hK5 => ?_
  refine wp_block ?_
  refine wsk fun K6 hK6 => ?_
  refine wsk fun K7 hK7 => ?_
  obtain ⟨gx81, ox81, vx81, hp81, hl81, hR81, hrg81⟩ := h1.extA (k) (r := [.v (.int .i64 xb), .ns .u8 xd]) (itD_get hes)
  revert Hz
  cases hp81
  rcases hR81 with _ | ⟨hd81_0, _ | ⟨hd81_1, _ | _⟩⟩
  obtain rfl := hd81_0.v_out
  clear hd81_0
  obtain ⟨p82, c82, hv82, hw82⟩ := hd81_1.ns_shape; subst hv82
  intro Hz
  obtain ⟨gx84, ox84, vx84, hp84, hl84, hR84, hrg84⟩ := h1.extA (k) (r := [.v (.int .i64 xb), .ns .u8 xd]) (itD_get hes)
  revert Hz
  cases hp84
  rcases hR84 with _ | ⟨hd84_0, _ | ⟨hd84_1, _ | _⟩⟩
  obtain rfl := hd84_0.v_out
  clear hd84_0
  obtain ⟨p85, c85, hv85, hw85⟩ := hd84_1.ns_shape; subst hv85
  intro Hz
  obtain ⟨gx87, ox87, vx87, hp87, hl87, hR87, hrg87⟩ := h1.extA (k) (r := [.v (.int .i64 xb), .ns .u8 xd]) (itD_get hes)
  revert Hz
  cases hp87
  rcases hR87 with _ | ⟨hd87_0, _ | ⟨hd87_1, _ | _⟩⟩
  obtain rfl := hd87_0.v_out
  clear hd87_0
  obtain ⟨p88, c88, hv88, hw88⟩ := hd87_1.ns_shape; subst hv88
  intro Hz
  have m89 := m73.oz [9]
  refine region_p 31 (B := [(9, _)]) (m89.to ⟨il, trivial⟩) m89 (by kernel_rfl) (fun w90 hP90 m90 => ?_); clear m89
  refine goR hP90 [0, 1, 2, 3, 4, 5, 6, 7, 8] [1, 5] 9 0 511 Hz (m90.to ⟨il, trivial⟩) (.fa 4 rfl U42 <| .lb hh 9 U40 rfl rfl rfl <| .move rfl <| .p (fun _ _ h_ => y_idx h_ rfl rfl U40 fct16 (k) rfl hk) <| .fieldAddrQ 0 rfl U111 rfl (s := 0) (by kernel_rfl) rfl <| .loadAt1 (fun _ h_ => (hrg81 h_ rfl)) (q := 0) rfl rfl rfl U3 rfl <| .move rfl <| .leq rfl rfl <| .move rfl .nil) fun Az Hz => ?_
  refine bc Hz 73 ?_ ?_
  · intro hb _; exact absurd hb (by first | (simp; done) | (simp; omega))
  clear Hz; intro _ Hz
  refine goR hP90 [9, 10, 11, 12, 13, 14, 15, 16, 17, 18, 19] [10, 14, 16] 11 511 1048575 Hz (m90.to ⟨il, trivial⟩) (.fa 4 rfl U42 <| .lb hh 9 U40 rfl rfl rfl <| .move rfl <| .p (fun _ _ h_ => y_idx h_ rfl rfl U40 fct16 (k) rfl hk) <| .fieldAddrQ 0 rfl U111 rfl (s := 0) (by kernel_rfl) rfl <| .loadAt1 (fun _ h_ => (hrg84 h_ rfl)) (q := 0) rfl rfl rfl U3 rfl <| .fa 0 rfl U42 <| .lb hh 9 U3 rfl rfl rfl <| .geq rfl rfl <| .pickF rfl rfl <| .move rfl .nil) fun Az Hz => ?_
  refine bc Hz 84 ?_ ?_
  · intro hb _; exact absurd hb (by first | (simp; done) | (simp; omega))
  clear Hz; intro _ Hz
  refine goR hP90 [20, 21, 22, 23, 24, 25, 26, 27, 28, 29, 30] [21, 25, 28] 11 1048575 2147483647 Hz (m90.to ⟨il, trivial⟩) (.fa 4 rfl U42 <| .lb hh 9 U40 rfl rfl rfl <| .move rfl <| .p (fun _ _ h_ => y_idx h_ rfl rfl U40 fct16 (k) rfl hk) <| .fieldAddrQ 1 rfl U111 rfl (s := 0) (by kernel_rfl) rfl <| .loadAt1 (fun _ h_ => (hrg87 h_ rfl)) (q := 1) rfl rfl rfl U22 rfl <| .len rfl U22 <| .fa 1 rfl U42 <| .lb hh 9 U3 rfl rfl rfl <| .neq rfl rfl <| .pickF rfl rfl .nil) fun Az Hz => ?_
  refine wpAnyE_done (by kernel_rfl) ?_ _
  refine hK7 _ _ ?_
  refine bc Hz 95 ?_ ?_
  · intro hb _; exact absurd hb (by first | (simp; done) | (simp; omega))
  clear Hz; intro _ Hz
  refine wcf Hz ?_
  refine zss (hK6 _ _ ?_)
  replace Hz := Hz.oz [1, 3, 4]
  refine wp_region_lit ?_
  refine goCh Hz (.fa 4 rfl U42 <| .lb m90 9 U40 rfl rfl rfl <| .move rfl .nil) fun Az Hz => ?_
  obtain ⟨gx129, ox129, vx129, hp129, hl129, hR129, hrg129⟩ := h1.extA (k) (r := [.v (.int .i64 xb), .ns .u8 xd]) (itD_get hes)
  revert Hz
  cases hp129
  rcases hR129 with _ | ⟨hd129_0, _ | ⟨hd129_1, _ | _⟩⟩
  obtain rfl := hd129_0.v_out
  clear hd129_0
  obtain ⟨p130, c130, hv130, hw130⟩ := hd129_1.ns_shape; subst hv130
  intro Hz
  refine gz hK5 Hz (.c rfl (fun _ h_ => y_idx h_ rfl rfl U40 fct16 (k) rfl hk) <| .fieldAddrQ 0 rfl U111 rfl (s := 0) (by kernel_rfl) rfl <| .loadAt1 (hrg129 m90 rfl) (q := 0) rfl rfl rfl U3 rfl <| .assign rfl <| .nil) fun Az Hz => ?_
  replace Hz := Hz.oz [1, 3, 4]
  refine wp_region_lit ?_
  refine goCh Hz (.move rfl <| .inc (k + 1) <| .assign rfl .nil) fun Az Hz => ?_
  refine wpList_nil ?_
  show ∃ n', n' < _ ∧ _
  have hlb : xb = lastB its (k + 1) := (lastB_next hes).symm
  rw [hlb] at Hz
  exact ⟨its.length - (k + 1), by omega, k + 1, _, by omega, rfl, Hz.only [1, 3, 4], m90.ren [(9, 9)] (by decide)⟩
 intro hb79 Hz; try simp only [QQ, Qax] at hb79
 refine wcf Hz ?_
 refine wp_exit ?_
 refine hK3 _ _ ?_
 refine regS Hz (.assign rfl .nil) fun Az Hz => ?_
 refine rt1 Hz ?_
 exact ⟨by first | rfl | (simp; done) | (simp; omega), m73.below⟩
theorem elongest_nil (v : Int) (w0 : World) : Calls Tryz.prog 51 #[.pointer none, .int .i64 v] w0 fun e w' => e = .returned (.tuple #[.agg #[.int .i64 0, .int .i64 0, .int .i64 0, .int .i64 0, .slice none 0 0, .int .i64 0, .int .i64 0, .bool false, .int .i64 0, .slice none 0 0, .slice none 0 0], .bool false]) ∧ Below w0.heap.size w0 w' := by
 refine ent2 Tryz.func51 rfl Tryz.ntmps51 fun Az Hz => ?_
 have m0 := MemOk.start (fun _ => False) w0
 refine zsr fun K0 hK0 => ?_
 refine plz (e_alloc Hz m0 20 fct2 rfl fun g1 Az w2 Hz m2 _ _ => ?_)
 refine gz hK0 Hz (.assign rfl .nil) fun Az Hz => ?_
 refine zsr fun K1 hK1 => ?_
 refine plz (e_alloc Hz m2 21 fct2 rfl fun g4 Az w5 Hz m5 _ _ => ?_)
 refine znl (hK1 _ _ ?_)
 refine regS Hz (.assign rfl .nil) fun Az Hz => ?_
 refine wsk fun K2 hK2 => ?_
 refine regS Hz (.move rfl <| .eqlP rfl rfl U112 .nil) fun Az Hz => ?_
 refine bc Hz 14 ?_ ?_
 rotate_left
 · intro hb _; exact absurd hb (by simp)
 clear Hz; intro _ Hz
 refine wct Hz ?_
 refine zsr fun K3 hK3 => ?_
 refine goCh Hz (.loadBR m5 (i := 21) rfl rfl U33 rfl fct1 (by simp) (by dsimp only [List.drop, List.take] <;> rfl) .nil) fun Az Hz => ?_
 refine plz (stw Hz m5 20 fct1 fun w12 m12 _ => ?_)
 refine gz hK3 Hz (.assign rfl .nil) fun Az Hz => ?_
 refine rtd (retCT (fn := Tryz.f51) Hz m12 (i := 20) rfl rfl rfl rfl U33 rfl fct1 ?_)
 exact ⟨rfl, m12.below⟩
theorem egather_nil (v : Int) (w0 : World) : Calls Tryz.prog 27 #[.pointer none, .int .i64 v] w0 fun e w' => e = .returned (.tuple #[.agg #[.int .i64 0, .int .i64 0, .int .i64 0, .int .i64 0, .slice none 0 0, .int .i64 0, .int .i64 0, .bool false, .int .i64 0, .slice none 0 0, .slice none 0 0], .slice none 0 0, .int .i64 28]) ∧ Below w0.heap.size w0 w' := by
 refine ent2 Tryz.func27 rfl Tryz.ntmps27 fun Az Hz => ?_
 have m0 := MemOk.start (fun _ => False) w0
 refine zsr fun K0 hK0 => ?_
 refine plz (e_alloc Hz m0 20 fct2 rfl fun g1 Az w2 Hz m2 _ _ => ?_)
 refine gz hK0 Hz (.assign rfl <| .assign rfl <| .nil) fun Az Hz => ?_
 refine zsr fun K1 hK1 => ?_
 refine goCh Hz (.move rfl <| .move rfl .nil) fun Az Hz => ?_
 refine plz (ecb Hz Tryz.func51 rfl m2 (elongest_nil _ _) fun Az w9 Hz m10 => ?_)
 refine goCh Hz (.move rfl <| .extract rfl rfl <| .extract rfl rfl .nil) fun Az Hz => ?_
 refine plz (e_alloc Hz m10 21 fct2 rfl fun g15 Az w16 Hz m16 _ _ => ?_)
 refine plz (stw Hz m16 21 fct1 fun w17 m17 _ => ?_)
 refine gz hK1 Hz (.assign rfl .nil) fun Az Hz => ?_
 refine wsk fun K2 hK2 => ?_
 replace Hz := Hz.oz [0, 1, 4, 5, 6, 7, 8]
 refine regS Hz (.move rfl <| .not rfl .nil) fun Az Hz => ?_
 refine wct Hz ?_
 refine zsr fun K3 hK3 => ?_
 refine goCh Hz (.build rfl fct2 fl33ega rfl (by dsimp only [setL, List.set] <;> rfl) .nil) fun Az Hz => ?_
 refine plz (stw Hz m17 20 fct1 fun w24 m24 _ => ?_)
 refine gz hK3 Hz (.assign rfl <| .assign rfl <| .nil) fun Az Hz => ?_
 refine rtd (retCTT (fn := Tryz.f27) Hz m24 (i := 20) rfl rfl rfl rfl rfl U33 rfl fct1 ?_)
 exact ⟨rfl, m24.below⟩
theorem eknown_x (w0 : World) : Calls Tryz.prog 8 #[] w0 fun e w' => e = .returned (.bool true) ∧ Below w0.heap.size w0 w' := by
 refine ent0 Tryz.func8 rfl Tryz.ntmps8 fun Az Hz => ?_
 have m0 := MemOk.start (fun _ => False) w0
 refine regS Hz (.assign rfl .nil) fun Az Hz => ?_
 refine zsr fun K0 hK0 => ?_
 refine plz (e_litN Hz m0 70 (k := .u8) rfl rfl U22 fct19 rfl rfl rfl rfl fun g2 Az w3 Hz m3 => ?_)
 have m4 := m3.freezeN 70 rfl
 refine plz (ecl Hz Tryz.func10 rfl (svol_k [0, 2, 1, 1] rfl _ _ _ ((m4.rd (i := 70) rfl).any)) ?_)
 rintro e w5 ⟨y, p15, p25, p35, d15, d25, d35, rfl, hS, hyh, hyw, hyf, hd5, he5, hf5, hb5⟩
 have m6 := m4.callF3 71 72 73 rfl rfl rfl hb5 hd5 he5 hf5
 clear hb5 hd5 he5 hf5
 obtain ⟨n, hn4⟩ : ∃ n : Nat, n = 4 := ⟨_, rfl⟩
 rw [← hn4] at hS
 have hn : n ≤ 1000 := by omega
 have hF := hS.f hn
 have hpp := place_pos hS
 have hpt := place_top hS
 have hy0 : y.ws.length = 0 := by rw [hyw]; rfl
 have hyb := hF.bl
 refine ⟨_, rfl, ?_⟩; intro Az Hz
 refine plz (e_alloc Hz m6 74 fct2 rfl fun g8 Az w9 Hz m9 _ _ => ?_)
 refine plz (stw Hz m9 74 fct1 fun w10 m10 _ => ?_)
 refine znl (hK0 _ _ ?_)
 refine regS Hz (.assign rfl .nil) fun Az Hz => ?_
 refine wsk fun K1 hK1 => ?_
 refine regS Hz (.assign rfl .nil) fun Az Hz => ?_
 refine wp_block ?_
 refine wp_loop_ghost (fun g a w => ∃ (i BV : Nat) (p1 p2 p3 : Option Addr) (d1 d2 d3 : Nat) (p9 : Option Addr) (c9 : Nat), i ≤ y.place.length ∧ g = y.place.length - i ∧ Has 88 [(1, .pointer (some ⟨BV, 0, none⟩)), (2, .slice p9 ((allL y i).map (ckD y)).length c9), (3, .int .i64 (i : Int))] a ∧ MemOk (cn w0) w0 [(20, .box BV 33 [.int .i64 y.vo, .int .i64 y.bl, .int .i64 y.sz, .int .i64 y.pe, .slice p1 y.place.length d1, .int .i64 y.to, .int .i64 y.ne, .bool y.hi, .int .i64 y.fl, .slice p2 y.pins.length d2, .slice p3 (y.ws.map wrD).length d3]), (21, .dat (.slice p1 y.place.length d1) (.ns .i64 y.place)), (22, .dat (.slice p2 y.pins.length d2) (.ns .i64 y.pins)), (23, .dat (.slice p3 (y.ws.map wrD).length d3) (.l 2 (y.ws.map wrD))), (9, .row (.slice p9 ((allL y i).map (ckD y)).length c9) 28 7 ((allL y i).map (ckD y)))] w) (y.place.length) ?_ ?_
 · have mz := m10.nilR 9 28 7
   exact ⟨0, _, _, _, _, _, _, _, _, _, Nat.zero_le _, rfl, Hz.only [1, 2, 3], mz.ren [(20, 74), (21, 71), (22, 72), (23, 73), (9, 9)] (by decide)⟩
 clear Hz m10
 rintro g Az w13 ⟨i, BV, p1, p2, p3, d1, d2, d3, p9, c9, hil, hg, Hz, m13⟩
 refine wsk fun K2 hK2 => ?_
 refine regS Hz (.move rfl <| .fa 4 rfl U33 <| .lb m13 20 U29 rfl rfl rfl <| .len rfl U29 <| .lss rfl rfl .nil) fun Az Hz => ?_
 refine bc Hz 21 ?_ ?_
 ·
  intro hb19 Hz; try simp only [QQ, Qax] at hb19
  have hi : i < y.place.length := by have := hb19; first | omega | (simp at this; omega) | (simp at this; exact this)
  refine wct Hz ?_
  refine zss (hK2 _ _ ?_)
  refine wsk fun K3 hK3 => ?_
  refine wp_block ?_
  refine wp_region_lit ?_
  refine goCh Hz (.move rfl <| .loadBR m13 (i := 20) rfl rfl U33 rfl fct1 (by simp) (by dsimp only [List.drop, List.take] <;> rfl) <| .move rfl .nil) fun Az Hz => ?_
  refine plz (ecl Hz Tryz.func12 rfl (eall_ck _ y n hS hn _ _ _ _ _ _ _ i 9 _ hi (by omega) (m13.into [(3, 23)] (by decide) rfl)) ?_)
  rintro e w23 ⟨p23, c23, rfl, hm23⟩
  have mx23 := m13.back hm23 [(23, 3), (100, 9)] (by decide); clear hm23 m13
  have m23 := mx23.oz [23, 100, 9, 20, 21, 22]
  refine ⟨_, rfl, ?_⟩; intro Az Hz
  refine plz (e_litR Hz m23 101 (mm := 7) rfl (.cons rfl rfl (.cons (.v _) (.cons (.v _) (.cons (.v _) (.cons (.v _) (.cons (.v _) (.cons (.v _) (.cons (m23.rd (i := 100) rfl) .nil))))))) .nil) U23 fct34 rfl rfl rfl rfl rfl fun g25 Az w26 Hz m26 => ?_)
  have m28 := m26.freezeR 101 rfl
  refine plz (e_appR Hz m28 9 rfl rfl rfl (m28.rd (i := 101) rfl) U23 fct34 rfl rfl (by decide) (by have h9 := allL_len y i; simp at h9 ⊢; omega) rfl fun p27 c27 Az w29 Hz m29 => ?_)
  refine gz hK3 Hz (.assign rfl .nil) fun Az Hz => ?_
  replace Hz := Hz.oz [1, 2, 3]
  refine wp_region_lit ?_
  refine goCh Hz (.move rfl <| .inc (i + 1) <| .assign rfl .nil) fun Az Hz => ?_
  refine wpList_nil ?_
  show ∃ n', n' < _ ∧ _
  have hE : ((allL y i).map (ckD y)) ++ [[D.v (.int .i64 y.vo), .v (.int .i64 (i : Int)), .v (.int .i64 (cnY y i : Int)), .v (.int .i64 y.sz), .v (.int .i64 (y.ws.length : Int)), .v (.int .i64 (min y.fl (y.ws.length : Int))), .l 1 ((chN y (fnY y i) (cnY y i) y.ws.length).map hD)]] = ((allL y (i + 1)).map (ckD y)) := by rw [allL_snoc, List.map_append]; rfl
  rw [hE] at m29 Hz
  exact ⟨y.place.length - (i + 1), by omega, i + 1, _, _, _, _, _, _, _, _, _, by omega, rfl, Hz.only [1, 2, 3], m29.ren [(20, 20), (21, 21), (22, 22), (23, 23), (9, 9)] (by decide)⟩
 intro hb19 Hz; try simp only [QQ, Qax] at hb19
 obtain rfl : i = y.place.length := by have := hb19; first | omega | (simp at this; omega) | (simp at this; exact this)
 refine wcf Hz ?_
 refine wp_exit ?_
 refine hK1 _ _ ?_
 refine zsr fun K4 hK4 => ?_
 refine goCh Hz (.loadBR m13 (i := 20) rfl rfl U33 rfl fct1 (by simp) (by dsimp only [List.drop, List.take] <;> rfl) <| .move rfl .nil) fun Az Hz => ?_
 have m39 := m13.freezeR 9 rfl
 refine plz (ecl Hz Tryz.func14 rfl (efull_n _ y n hS hn _ _ _ _ _ _ _ (allL y y.place.length) _ _ _ 0 _ (by rw [allL_len]; omega) allL_lo (.inr ⟨allL_ne hpp, fun h1 h2 k hk => ⟨_, allL_mem hk, by omega, by omega⟩⟩) (m39.into [(3, 23), (4, 9)] (by decide) rfl)) ?_)
 rintro e w40 ⟨ea, bla, sza, fra, ta, itsa, p40, c40, hEa, rfl, hm40⟩
 have mx40 := m39.back hm40 [(23, 3), (9, 4), (100, 9)] (by decide); clear hm40 m39
 have m40 := mx40.oz [23, 9, 100, 20, 21, 22]
 refine ⟨_, rfl, ?_⟩; intro Az Hz
 have hra : ea = 0 ∧ fra = -1 ∧ (itsa.length : Int) = y.bl := by
   rcases hEa with ⟨h1, -⟩ | ⟨-, h1, -⟩ | ⟨-, -, h1, -⟩ | ⟨-, -, -, h1, -⟩ | ⟨-, -, -, -, h1, -, -, h2, -, h3⟩
   · rw [hyh] at h1; cases h1
   · omega
   · omega
   · exact absurd h1 (allL_ne hpp)
   exact ⟨h1, h2, by rw [h3, wholeI_len]; omega⟩
 have hil9 := hra.2.2
 refine goCh Hz (.move rfl <| .extract rfl rfl <| .extract rfl rfl .nil) fun Az Hz => ?_
 refine plz (e_alloc Hz m40 101 fct38 rfl fun g45 Az w46 Hz m46 _ _ => ?_)
 refine plz (stw Hz m46 101 fct37 fun w47 m47 _ => ?_)
 refine gz hK4 Hz (.assign rfl .nil) fun Az Hz => ?_
 replace Hz := Hz.oz [1, 2, 3, 4, 5]
 refine zsr fun K5 hK5 => ?_
 refine goCh Hz (.loadBR m47 (i := 20) rfl rfl U33 rfl fct1 (by simp) (by dsimp only [List.drop, List.take] <;> rfl) <| .move rfl .nil) fun Az Hz => ?_
 refine plz (ecl Hz Tryz.func14 rfl (efull_n _ y n hS hn _ _ _ _ _ _ _ (allL y y.place.length) _ _ _ 9 _ (by rw [allL_len]; omega) allL_lo (.inr ⟨allL_ne hpp, fun h1 h2 k hk => ⟨_, allL_mem hk, by omega, by omega⟩⟩) (m47.into [(3, 23), (4, 9)] (by decide) rfl)) ?_)
 rintro e w54 ⟨eb, blb, szb, frb, tb, itsb, p54, c54, hEb, rfl, hm54⟩
 have mx54 := m47.back hm54 [(23, 3), (9, 4), (102, 9)] (by decide); clear hm54 m47
 have m54 := mx54.oz [23, 9, 102, 20, 21, 22, 100, 101]
 refine ⟨_, rfl, ?_⟩; intro Az Hz
 have hrb : eb = 31 := by
   rcases hEb with ⟨h1, -⟩ | ⟨-, h1, -⟩ | ⟨-, -, -, h1⟩ | ⟨-, -, h1, -⟩ | ⟨-, -, h1, -⟩
   · rw [hyh] at h1; cases h1
   · omega
   · exact h1
   · omega
   omega
 refine goCh Hz (.move rfl <| .extract rfl rfl <| .extract rfl rfl .nil) fun Az Hz => ?_
 refine plz (e_alloc Hz m54 103 fct38 rfl fun g59 Az w60 Hz m60 _ _ => ?_)
 refine plz (stw Hz m60 103 fct37 fun w61 m61 _ => ?_)
 refine gz hK5 Hz (.assign rfl .nil) fun Az Hz => ?_
 replace Hz := Hz.oz [1, 2, 3, 4, 5, 7]
 refine zsr fun K6 hK6 => ?_
 refine goCh Hz (.loadBR m61 (i := 20) rfl rfl U33 rfl fct1 (by simp) (by dsimp only [List.drop, List.take] <;> rfl) .nil) fun Az Hz => ?_
 have m66 := m61.dat 104 rfl (Rd.l0 none 0 7)
 refine plz (ecl Hz Tryz.func14 rfl (efull_n _ y n hS hn _ _ _ _ _ _ _ [] _ _ _ 0 _ (by simp) (fun x hx => by cases hx) (.inl rfl) (m66.into [(3, 23), (4, 104)] (by decide) rfl)) ?_)
 rintro e w67 ⟨ec, blc, szc, frc, tc, itsc, p67, c67, hEc, rfl, hm67⟩
 have mx67 := m66.back hm67 [(23, 3), (104, 4), (105, 9)] (by decide); clear hm67 m66
 have m67 := mx67.oz [23, 104, 105, 9, 20, 21, 22, 100, 101, 102, 103]
 refine ⟨_, rfl, ?_⟩; intro Az Hz
 have hrc : ec = 32 := by
   rcases hEc with ⟨h1, -⟩ | ⟨-, h1, -⟩ | ⟨-, -, h1, -⟩ | ⟨-, -, -, -, h1⟩ | ⟨-, -, -, h1, -⟩
   · rw [hyh] at h1; cases h1
   · omega
   · omega
   · exact h1
   exact absurd rfl h1
 refine goCh Hz (.move rfl <| .extract rfl rfl <| .extract rfl rfl .nil) fun Az Hz => ?_
 refine plz (e_alloc Hz m67 106 fct38 rfl fun g72 Az w73 Hz m73 _ _ => ?_)
 refine plz (stw Hz m73 106 fct37 fun w74 m74 _ => ?_)
 refine gz hK6 Hz (.assign rfl .nil) fun Az Hz => ?_
 replace Hz := Hz.oz [1, 2, 3, 4, 5, 7, 9]
 refine zsr fun K7 hK7 => ?_
 refine plz (ecb Hz Tryz.func27 rfl m74 (egather_nil _ _) fun Az w77 Hz m78 => ?_)
 refine goCh Hz (.move rfl <| .extract rfl rfl <| .extract rfl rfl <| .extract rfl rfl .nil) fun Az Hz => ?_
 refine plz (e_alloc Hz m78 107 fct2 rfl fun g84 Az w85 Hz m85 _ _ => ?_)
 refine plz (stw Hz m85 107 fct1 fun w86 m86 _ => ?_)
 refine gz hK7 Hz (.assign rfl <| .assign rfl <| .nil) fun Az Hz => ?_
 replace Hz := Hz.oz [1, 2, 3, 4, 5, 7, 9, 12]
 refine zsr fun K8 hK8 => ?_
 refine goCh Hz (.loadBR m86 (i := 20) rfl rfl U33 rfl fct1 (by simp) (by dsimp only [List.drop, List.take] <;> rfl) <| .move rfl .nil) fun Az Hz => ?_
 refine plz (ecl Hz Tryz.func19 rfl (epick_n _ y n hS hn _ _ _ _ _ _ _ (allL y y.place.length) _ _ _ 0 0 0 _ (by rw [allL_len]; omega) allL_lo hpp ⟨_, allL_mem hpp, by omega, by omega⟩ (m86.into [(3, 23), (4, 9)] (by decide) rfl)) ?_)
 rintro e w94 ⟨m9, p94, c94, -, -, rfl, hm94⟩
 have mx94 := m86.back hm94 [(23, 3), (9, 4), (108, 9)] (by decide); clear hm94 m86
 have m94 := mx94.oz [23, 9, 108, 20, 21, 22, 100, 101, 102, 103, 104, 105, 106, 107]
 refine ⟨_, rfl, ?_⟩; intro Az Hz
 refine goCh Hz (.move rfl <| .extract rfl rfl <| .extract rfl rfl .nil) fun Az Hz => ?_
 refine plz (e_alloc Hz m94 109 fct17 rfl fun g99 Az w100 Hz m100 _ _ => ?_)
 refine plz (stw Hz m100 109 fct12 fun w101 m101 _ => ?_)
 refine gz hK8 Hz (.assign rfl .nil) fun Az Hz => ?_
 replace Hz := Hz.oz [1, 2, 3, 4, 5, 7, 9, 12, 14]
 refine zsr fun K9 hK9 => ?_
 refine goCh Hz (.move rfl <| .eql rfl rfl <| .move rfl .nil) fun Az Hz => ?_
 refine bc Hz 60 ?_ ?_
 rotate_left
 · intro hb _; exact absurd hb (by first | (simp; done) | (simp; omega) | (simp [hra.1, hra.2.1, hrb, hrc]; done) | (simp [hra.1, hra.2.1, hrb, hrc]; omega))
 clear Hz; intro _ Hz
 refine goCh Hz (.faZ 2 rfl U42 <| .loadB1Z m101 (i := 101) rfl rfl rfl U2 rfl <| .eqlZ rfl rfl <| .pickT rfl rfl <| .move rfl .nil) fun Az Hz => ?_
 refine bc Hz 65 ?_ ?_
 rotate_left
 · intro hb _; exact absurd hb (by first | (simp; done) | (simp; omega) | (simp [hra.1, hra.2.1, hrb, hrc]; done) | (simp [hra.1, hra.2.1, hrb, hrc]; omega))
 clear Hz; intro _ Hz
 refine goCh Hz (.faZ 4 rfl U42 <| .loadB1Z m101 (i := 101) rfl rfl rfl U40 rfl <| .lenZ rfl U40 <| .faZ 1 rfl U33 <| .loadB1Z m101 (i := 20) rfl rfl rfl U3 rfl <| .eqlZ rfl rfl <| .pickT rfl rfl <| .move rfl .nil) fun Az Hz => ?_
 refine bc Hz 73 ?_ ?_
 rotate_left
 · intro hb _; exact absurd hb (by first | (simp; done) | (simp; omega) | (simp [hra.1, hra.2.1, hrb, hrc]; done) | (simp [hra.1, hra.2.1, hrb, hrc]; omega))
 clear Hz; intro _ Hz
 refine goCh Hz (.moveZ rfl <| .eqlZ rfl rfl <| .pickT rfl rfl <| .move rfl .nil) fun Az Hz => ?_
 refine bc Hz 77 ?_ ?_
 rotate_left
 · intro hb _; exact absurd hb (by first | (simp; done) | (simp; omega) | (simp [hra.1, hra.2.1, hrb, hrc]; done) | (simp [hra.1, hra.2.1, hrb, hrc]; omega))
 clear Hz; intro _ Hz
 refine goCh Hz (.moveZ rfl <| .eqlZ rfl rfl <| .pickT rfl rfl <| .move rfl .nil) fun Az Hz => ?_
 refine bc Hz 81 ?_ ?_
 rotate_left
 · intro hb _; exact absurd hb (by first | (simp; done) | (simp; omega) | (simp [hra.1, hra.2.1, hrb, hrc]; done) | (simp [hra.1, hra.2.1, hrb, hrc]; omega))
 clear Hz; intro _ Hz
 refine goCh Hz (.moveZ rfl <| .eqlZ rfl rfl <| .pickT rfl rfl <| .move rfl .nil) fun Az Hz => ?_
 refine bc Hz 85 ?_ ?_
 rotate_left
 · intro hb _; exact absurd hb (by first | (simp; done) | (simp; omega) | (simp [hra.1, hra.2.1, hrb, hrc]; done) | (simp [hra.1, hra.2.1, hrb, hrc]; omega))
 clear Hz; intro _ Hz
 refine gz hK9 Hz (.moveZ rfl <| .pickT rfl rfl <| .assign rfl <| .nil) fun Az Hz => ?_
 refine rt1 Hz ?_
 exact ⟨by (first | rfl | simp), m101.below⟩
end Go.Proofs.YtamjnimaeecmoaaGreat.K
