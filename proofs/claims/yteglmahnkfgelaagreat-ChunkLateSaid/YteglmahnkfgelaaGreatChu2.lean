/- hist: Right, Prune, Add, At; parts: copies of chunks. -/
import Derived.Test.YteglmahnkfgelaaGreatChu1
namespace Go.Proofs.YteglmahnkfgelaaGreat.K
open Go.ChangeShapes Go.WideShapes Go.ChangeAt Go.RowKit
set_option linter.unusedVariables false
set_option linter.unusedSimpArgs false
theorem fl110had : flatS Tryz.prog 110 [.int .i64 0, .slice none 0 0] = true := by kernel_rfl
def hD (h : List Ver) : List D := [.l 2 (h.map itD)]
theorem nnOf {S : Nat → Prop} {w : World} {p : Option Addr} {nn c mm : Nat} {α : Type} {f : α → List D} {es : List α} (h : Rd S w (.slice p nn c) (.l mm (es.map f))) : nn = es.length := by
 obtain ⟨pq, cq, hv, _⟩ := h.l_shape
 injection hv with _ e2 _
 rw [List.length_map] at e2
 exact e2
theorem hD_get {A : List (List Ver)} {k : Nat} {h : List Ver} (e : A[k]? = some h) : (A.map hD)[k]? = some [.l 2 (h.map itD)] := by simp [e, hD]
def HsOk (H : List (List Ver)) : Prop := ∀ h ∈ H, h.length ≤ 1000000 ∧ ∀ v ∈ h, v.2.length ≤ 1000000
def RPre (h : List Ver) (k : Nat) : Prop := ∀ j, j < k → (1 ≤ (h.getD j v0).1 ∧ (h.getD j v0).1 ≤ 1099511627776) ∧ (0 < j → (h.getD (j - 1) v0).1 < (h.getD j v0).1)
theorem RPre.snoc {h : List Ver} {k : Nat} {xs : Int} {xd : List Int} (hp : RPre h k) (hes : h[k]? = some (xs, xd)) (ht : 1 ≤ xs ∧ xs ≤ 1099511627776) (hz : 0 < k → (h.getD (k - 1) v0).1 < xs) : RPre h (k + 1) := fun j hj => by
 rcases Nat.lt_or_ge j k with h1 | h1
 · exact hp j h1
 obtain rfl : j = k := by omega
 rw [show (h.getD j v0).1 = xs by rw [List.getD, hes]; rfl]
 exact ⟨ht, hz⟩
theorem RPre.rise {h : List Ver} (hp : RPre h h.length) : Rise h := by
 unfold Rise
 rw [List.pairwise_iff_getElem]
 intro i j hi hj hij
 have step : ∀ q, i + q < h.length → 0 < q → (h.getD i v0).1 < (h.getD (i + q) v0).1 := by
   intro q
   induction q with
   | zero => intro _ h0; omega
   | succ q ih =>
     intro hq _
     have h1 := (hp (i + (q + 1)) hq).2 (by omega)
     rw [show i + (q + 1) - 1 = i + q by omega] at h1
     rcases Nat.eq_zero_or_pos q with h0 | h0
     · subst h0; simpa using h1
     have := ih (by omega) h0; omega
 have h1 := step (j - i) (by omega) (by omega)
 rw [show i + (j - i) = j by omega, List.getD, List.getD, List.getElem?_eq_getElem hi, List.getElem?_eq_getElem hj] at h1
 exact h1
section
variable {P : Program} {n : Nat} {T : List (Nat × Value)} {a : Act} {w : World} {d : Option Tmp} {tt : TypeId} {pos : String} {af : Array Edge} {gd : Option (Nat × Bool)}
theorem y_sliceLm (h : Has n T a) {t e : TypeId} {x y : Operand} {p : Option Addr} {l c l2 : Nat} {k : IntKind} {q : Int} (j : Nat) (hx : evT T x = some (.slice p l c)) (hy : evT T y = some (.int k q)) (hu : P.underlying t = some (.slice e)) {s : Nat} (hs : (P.info? e).map (·.size) = some s) (hq : q = j) (h1 : j ≤ l) (hl : l - j = l2) : Yl P a w ⟨d, .slice t x (some y) none none, tt, pos, af, gd⟩ (.slice (if c = j then p else p.map (·.add (j * s))) l2 (c - j)) := by
 subst hl
 exact y_sliceLn h j hx hy hu hs hq h1
end
set_option maxRecDepth 100000
set_option maxHeartbeats 4000000
theorem growV_any_inf : (Tryz.prog.info? 110).map (fun i => (i.zero, i.size, i.bytes)) = some (some (.agg #[.int .i64 0, .slice none 0 0]), 2, 32) := by kernel_rfl
theorem growV_any (n : Nat) (w : World) (hn : n ≤ 100000000) :
   Calls Tryz.prog 122 #[.slice none 0 0, .int .i64 n] w fun e w' => ∃ p c, e = .returned (.slice p 0 c) ∧ w'.ownsRow w.heap.size 110 2 (.slice p 0 c) 0 [] ∧ Below w.heap.size w w' := by
 by_cases h0 : n = 0
 · subst h0
   go_enter Tryz.func122, Tryz.ntmps122
   go_wp2
   go_ret
   exact ⟨_, _, rfl, World.ownsRow_nil _ _ _ _, Below.refl _ _⟩
 obtain ⟨i0, hi, hz0, hz1, hz2⟩ := info_parts growV_any_inf
 have hbn : n * i0.bytes ≤ 140737488355328 := by rw [hz2]; omega
 obtain ⟨z, hz⟩ : ∃ z : Value, (.agg #[.int .i64 0, .slice none 0 0]) = z := ⟨_, rfl⟩
 have hzc : z.cells.size = 2 := by rw [← hz]; rfl
 rw [hz] at hz0
 have hrz : ∀ ty, (Builtin.append_ #[94, 3] ty #[.slice none 0 0, .int .i64 (n : Int)]).run Tryz.prog w =
     .ok (.slice (some ⟨w.heap.size, 0, none⟩) n (grownCap w n 0 110)) (w.drew.alloc (.cells (#[] ++ Builtin.zeroCells z.cells n ++ Builtin.zeroCells z.cells (grownCap w n 0 110 - n)) 110)) := fun ty => by
   have h := Lib.run_append_grow_zeros w 94 3 ty 110 i0 z .i64 .i64 U94 U3 hi hz0 none 0 0 [] (run_firstCells_none w.drew i0.size 0 0 0) n (by omega) (by omega) (by omega) (by omega) (by omega)
     (by rw [Nat.zero_add]; exact growslice_fits (by omega) hbn)
   rw [Nat.zero_add] at h
   exact h
 have hG := grownCap_ge w n 0 110
 have hM := grownCap_le_maxLen w n 0 110 (by unfold maxLen; omega)
 generalize grownCap w n 0 110 = G at hrz hG hM
 have hown : (w.drew.alloc (.cells (#[] ++ Builtin.zeroCells z.cells n ++ Builtin.zeroCells z.cells (G - n)) 110)).ownsRow w.heap.size 110 2 (.slice (some ⟨w.heap.size, 0, none⟩) 0 G) 0 [] := by
   refine World.ownsRow_made w.drew _ G (Nat.le_refl _) hM ?_
   simp [size_zeroCells, hzc]
   omega
 have hbel : Below w.heap.size w (w.drew.alloc (.cells (#[] ++ Builtin.zeroCells z.cells n ++ Builtin.zeroCells z.cells (G - n)) 110)) := ((Below.refl _ w).drew).alloc (Nat.le_refl _) _
 generalize (w.drew.alloc (.cells (#[] ++ Builtin.zeroCells z.cells n ++ Builtin.zeroCells z.cells (G - n)) 110)) = W' at hrz hown hbel
 have HO := Lib.hid hown
 have HB := Lib.hid hbel
 clear hown hbel hi hz0 hz1 hz2 hz hzc
 unfold maxLen at hM
 go_enter Tryz.func122, Tryz.ntmps122
 go_wp2_with (at_builtin; refine Lib.wpList_append_run _ rfl _ _ _ _ rfl _ _ rfl rfl _ _ (hrz _) ?_)
 all_goals (go_ret; exact ⟨_, _, rfl, HO.out, HB.out⟩)
theorem growH_any_inf : (Tryz.prog.info? 94).map (fun i => (i.zero, i.size, i.bytes)) = some (some (.slice none 0 0), 1, 24) := by kernel_rfl
theorem growH_any (n : Nat) (w : World) (hn : n ≤ 100000000) :
   Calls Tryz.prog 113 #[.slice none 0 0, .int .i64 n] w fun e w' => ∃ p c, e = .returned (.slice p 0 c) ∧ w'.ownsRow w.heap.size 94 1 (.slice p 0 c) 0 [] ∧ Below w.heap.size w w' := by
 by_cases h0 : n = 0
 · subst h0
   go_enter Tryz.func113, Tryz.ntmps113
   go_wp2
   go_ret
   exact ⟨_, _, rfl, World.ownsRow_nil _ _ _ _, Below.refl _ _⟩
 obtain ⟨i0, hi, hz0, hz1, hz2⟩ := info_parts growH_any_inf
 have hbn : n * i0.bytes ≤ 140737488355328 := by rw [hz2]; omega
 obtain ⟨z, hz⟩ : ∃ z : Value, (.slice none 0 0) = z := ⟨_, rfl⟩
 have hzc : z.cells.size = 1 := by rw [← hz]; rfl
 rw [hz] at hz0
 have hrz : ∀ ty, (Builtin.append_ #[37, 3] ty #[.slice none 0 0, .int .i64 (n : Int)]).run Tryz.prog w =
     .ok (.slice (some ⟨w.heap.size, 0, none⟩) n (grownCap w n 0 94)) (w.drew.alloc (.cells (#[] ++ Builtin.zeroCells z.cells n ++ Builtin.zeroCells z.cells (grownCap w n 0 94 - n)) 94)) := fun ty => by
   have h := Lib.run_append_grow_zeros w 37 3 ty 94 i0 z .i64 .i64 U37 U3 hi hz0 none 0 0 [] (run_firstCells_none w.drew i0.size 0 0 0) n (by omega) (by omega) (by omega) (by omega) (by omega)
     (by rw [Nat.zero_add]; exact growslice_fits (by omega) hbn)
   rw [Nat.zero_add] at h
   exact h
 have hG := grownCap_ge w n 0 94
 have hM := grownCap_le_maxLen w n 0 94 (by unfold maxLen; omega)
 generalize grownCap w n 0 94 = G at hrz hG hM
 have hown : (w.drew.alloc (.cells (#[] ++ Builtin.zeroCells z.cells n ++ Builtin.zeroCells z.cells (G - n)) 94)).ownsRow w.heap.size 94 1 (.slice (some ⟨w.heap.size, 0, none⟩) 0 G) 0 [] := by
   refine World.ownsRow_made w.drew _ G (Nat.le_refl _) hM ?_
   simp [size_zeroCells, hzc]
   omega
 have hbel : Below w.heap.size w (w.drew.alloc (.cells (#[] ++ Builtin.zeroCells z.cells n ++ Builtin.zeroCells z.cells (G - n)) 94)) := ((Below.refl _ w).drew).alloc (Nat.le_refl _) _
 generalize (w.drew.alloc (.cells (#[] ++ Builtin.zeroCells z.cells n ++ Builtin.zeroCells z.cells (G - n)) 94)) = W' at hrz hown hbel
 have HO := Lib.hid hown
 have HB := Lib.hid hbel
 clear hown hbel hi hz0 hz1 hz2 hz hzc
 unfold maxLen at hM
 go_enter Tryz.func113, Tryz.ntmps113
 go_wp2_with (at_builtin; refine Lib.wpList_append_run _ rfl _ _ _ _ rfl _ _ rfl rfl _ _ (hrz _) ?_)
 all_goals (go_ret; exact ⟨_, _, rfl, HO.out, HB.out⟩)
theorem hright_x (X : Cx) (h : List Ver) (p : Option Addr) (nn c : Nat) (w0 : World) (hl : h.length ≤ 1000000) (m0 : MemOk X w0 [(1, .dat (.slice p nn c) (.l 2 (h.map itD)))] w0) :
   Calls Tryz.prog 99 #[.slice p nn c] w0 fun e w' => ∃ b : Bool, e = .returned (.bool b) ∧ (b = true ↔ RPre h h.length) ∧ MemOk X w0 [(1, .dat (.slice p nn c) (.l 2 (h.map itD)))] w' := by
 obtain rfl : nn = h.length := nnOf (m0.rd (i := 1) rfl)
 refine ent1 Tryz.func99 rfl Tryz.ntmps99 fun Az Hz => ?_
 refine regS Hz (.assign rfl .nil) fun Az Hz => ?_
 refine wsk fun K0 hK0 => ?_
 refine regS Hz (.move rfl <| .len rfl U94 <| .move rfl .nil) fun Az Hz => ?_
 refine wp_block ?_
 refine wp_loop_ghost (fun g a w => ∃ (k : Nat), k ≤ h.length ∧ g = h.length - k ∧ RPre h k ∧ Has 32 [(0, .slice p h.length c), (5, .slice p h.length c), (6, .int .i64 h.length), (7, .int .i64 k)] a ∧ MemOk X w0 [(1, .dat (.slice p h.length c) (.l 2 (h.map itD)))] w) (h.length) ?_ ?_
 · exact ⟨0, Nat.zero_le _, rfl, fun j hj => by omega, Hz.only [0, 5, 6, 7], m0.only [1]⟩
 clear Hz m0
 rintro g Az w5 ⟨k, hkl, hg, hp, Hz, m5⟩
 refine regS Hz (.lss rfl rfl .nil) fun Az Hz => ?_
 refine wsk fun K1 hK1 => ?_
 refine bc Hz 8 ?_ ?_
 ·
  intro hb7 Hz; try simp only [QQ, Qax] at hb7
  have hk : k < h.length := by have := hb7; first | omega | (simp at this; omega)
  obtain ⟨⟨xs, xd⟩, hes⟩ : ∃ e, h[k]? = some e := ⟨_, List.getElem?_eq_getElem hk⟩
  obtain ⟨⟨zs, zd⟩, hes2⟩ : ∃ e, h[k - 1]? = some e := ⟨_, List.getElem?_eq_getElem (by omega)⟩
  have hz9 : (h.getD (k - 1) v0).1 = zs := by rw [List.getD, hes2]; rfl
  have hx9 : (h.getD k v0).1 = xs := by rw [List.getD, hes]; rfl
  refine wct Hz ?_
  refine zss (hK1 _ _ ?_)
  refine wsk fun K2 hK2 => ?_
  refine wp_block ?_
  refine zsr fun K3 hK3 => ?_
  refine goCh Hz (.move rfl .nil) fun Az Hz => ?_
  obtain ⟨b11, o11, vs11, hp11, hR11, ho11, m11⟩ := m5.openR (i := 1) rfl (k) (r := [.v (.int .i64 xs), .ns .u8 xd]) (itD_get hes) 100 rfl
  revert Hz
  cases hp11; clear m5 ho11
  rcases hR11 with _ | ⟨hd11_0, _ | ⟨hd11_1, _ | _⟩⟩
  obtain rfl := hd11_0.v_out
  clear hd11_0
  obtain ⟨p12, c12, hv12, hc12⟩ := hd11_1.ns_shape; subst hv12
  intro Hz
  have m12 := m11.dat 101 rfl (hd11_1.cast (fun _ h => (free_add rfl h))); clear m11 hd11_1
  refine goCh Hz (.c rfl (fun _ h_ => y_idx h_ rfl rfl U94 fct10 (k) rfl hk) <| .loadCR m12 (i := 100) rfl rfl U110 rfl fct10 .nil) fun Az Hz => ?_
  refine plz (e_alloc Hz m12 102 fct11 rfl fun g15 Az w16 Hz m16 _ _ => ?_)
  refine goCh Hz (.assign rfl .nil) fun Az Hz => ?_
  refine plz (stw Hz m16 102 fct10 fun w18 m18 _ => ?_)
  refine znl (hK3 _ _ ?_)
  refine wsk fun K4 hK4 => ?_
  obtain ⟨b19, o19, vs19, hp19, hR19, ho19, m19⟩ := m18.openR (i := 1) rfl (k - 1) (r := [.v (.int .i64 zs), .ns .u8 zd]) (itD_get hes2) 103 rfl
  revert Hz
  cases hp19; clear m18 ho19
  rcases hR19 with _ | ⟨hd19_0, _ | ⟨hd19_1, _ | _⟩⟩
  obtain rfl := hd19_0.v_out
  clear hd19_0
  obtain ⟨p20, c20, hv20, hc20⟩ := hd19_1.ns_shape; subst hv20
  intro Hz
  have m20 := m19.dat 104 rfl (hd19_1.cast (fun _ h => (free_add rfl h))); clear m19 hd19_1
  have m21 := m20.oz [1, 100, 101, 102, 103, 104]
  refine region_p 19 (B := [(1, _), (100, _), (101, _), (102, _), (103, _), (104, _)]) (m21.to ⟨il, il, il, il, il, il, trivial⟩) m21 (by kernel_rfl) (fun w22 hP22 m22 => ?_); clear m21
  refine goR hP22 [0, 1] [1] 2 0 3 Hz (m22.to ⟨il, il, il, il, il, il, trivial⟩) (.fa 0 rfl U110 <| .lb hh 102 U2 rfl rfl rfl .nil) fun Az Hz => ?_
  refine so 2 ?_
  refine ecb Hz Tryz.func94 rfl m22 (htime_x _ _) fun Az w25 Hz m26 => ?_
  refine ⟨m26.to ⟨il, il, il, il, il, il, trivial⟩, ?_⟩
  refine goA hP22 [3, 4] 2 7 31 Hz (m26.to ⟨il, il, il, il, il, il, trivial⟩) (.not rfl <| .move rfl .nil) fun Az Hz => ?_
  refine bc Hz 16 ?_ ?_
  ·
   intro hb30 Hz; try simp only [QQ, Qax] at hb30
   have htn : ¬ (1 ≤ xs ∧ xs ≤ 1099511627776) := by have := hb30; first | omega | (simp at this; omega)
   refine goA hP22 [5, 6, 7, 8, 9, 10, 11, 12, 13, 14, 15, 16, 17, 18] 14 31 524287 Hz (m26.to ⟨il, il, il, il, il, il, trivial⟩) (.s <| .s <| .s <| .u <| .u <| .u <| .u <| .u <| .u <| .u <| .u <| .u <| .s <| .pickT rfl rfl .nil) fun Az Hz => ?_
   refine wpAnyE_done (by kernel_rfl) ?_ _
   refine hK4 _ _ ?_
   refine wct Hz ?_
   replace Hz := Hz.oz [0, 5, 6, 7, 8, 16, 30]
   refine regS Hz (.assign rfl .nil) fun Az Hz => ?_
   refine rt1 Hz ?_
   exact ⟨_, rfl, iff_of_false (by simp) (fun h9 => htn (by have := (h9 k hk).1; rwa [hx9] at this)), m26.only [1]⟩
  intro hb30 Hz; try simp only [QQ, Qax] at hb30
  have htm : 1 ≤ xs ∧ xs ≤ 1099511627776 := by have := hb30; first | omega | (simp at this; omega)
  refine goA hP22 [5, 6, 7] 3 31 255 Hz (m26.to ⟨il, il, il, il, il, il, trivial⟩) (.move rfl <| .gtr rfl rfl <| .move rfl .nil) fun Az Hz => ?_
  refine bc Hz 19 ?_ ?_
  ·
   intro hb50 Hz; try simp only [QQ, Qax] at hb50
   have hk0 : 0 < k := by have := hb50; first | omega | (simp at this; omega)
   refine goR hP22 [8, 9, 10, 11, 12, 13, 14, 15, 16, 17, 18] [9, 15] 11 255 524287 Hz (m26.to ⟨il, il, il, il, il, il, trivial⟩) (.fa 0 rfl U110 <| .lb hh 102 U2 rfl rfl rfl <| .move rfl <| .move rfl <| .sub rfl rfl (r := ((k - 1 : Nat) : Int)) (by rw [IntWalk.i64_in _ (by omega)]; omega) <| .p (fun _ _ h_ => y_idx h_ rfl rfl U94 fct10 (k - 1) rfl (by omega)) <| .fieldAddrQ 0 rfl U110 rfl (s := 0) (by kernel_rfl) rfl <| .loadC0 hh (i := 103) rfl rfl U2 rfl <| .leq rfl rfl <| .pickT rfl rfl <| .pickF rfl rfl .nil) fun Az Hz => ?_
   refine wpAnyE_done (by kernel_rfl) ?_ _
   refine hK4 _ _ ?_
   refine bc Hz 30 ?_ ?_
   ·
    intro hb62 Hz; try simp only [QQ, Qax] at hb62
    have hbad : xs ≤ zs := by have := hb62; first | omega | (simp at this; omega)
    refine wct Hz ?_
    replace Hz := Hz.oz [0, 5, 6, 7, 8, 16, 30]
    refine regS Hz (.assign rfl .nil) fun Az Hz => ?_
    refine rt1 Hz ?_
    exact ⟨_, rfl, iff_of_false (by simp) (fun h9 => by have := (h9 k hk).2 hk0; omega), m26.only [1]⟩
   intro hb62 Hz; try simp only [QQ, Qax] at hb62
   have hez : 0 < k → (h.getD (k - 1) v0).1 < xs := by have := hb62; intro h9; first | omega | (simp at this; omega)
   refine wcf Hz ?_
   refine zss (hK2 _ _ ?_)
   replace Hz := Hz.oz [0, 5, 6, 7, 8, 16, 30]
   refine wp_region_lit ?_
   refine goCh Hz (.inc (k + 1) <| .move rfl .nil) fun Az Hz => ?_
   refine wpList_nil ?_
   show ∃ n', n' < _ ∧ _
   exact ⟨h.length - (k + 1), by omega, k + 1, by omega, rfl, RPre.snoc hp hes htm (fun h9 => by have := hez h9; omega), Hz.only [0, 5, 6, 7], m26.only [1]⟩
  intro hb50 Hz; try simp only [QQ, Qax] at hb50
  have hez : 0 < k → (h.getD (k - 1) v0).1 < xs := by have := hb50; intro h9; first | omega | (simp at this; omega)
  refine goA hP22 [8, 9, 10, 11, 12, 13, 14, 15, 16, 17, 18] 11 255 524287 Hz (m26.to ⟨il, il, il, il, il, il, trivial⟩) (.s <| .s <| .s <| .s <| .s <| .s <| .s <| .s <| .s <| .pickF rfl rfl <| .pickF rfl rfl .nil) fun Az Hz => ?_
  refine wpAnyE_done (by kernel_rfl) ?_ _
  refine hK4 _ _ ?_
  refine wcf Hz ?_
  refine zss (hK2 _ _ ?_)
  replace Hz := Hz.oz [0, 5, 6, 7, 8, 16, 30]
  refine wp_region_lit ?_
  refine goCh Hz (.inc (k + 1) <| .move rfl .nil) fun Az Hz => ?_
  refine wpList_nil ?_
  show ∃ n', n' < _ ∧ _
  exact ⟨h.length - (k + 1), by omega, k + 1, by omega, rfl, RPre.snoc hp hes htm (fun h9 => by have := hez h9; omega), Hz.only [0, 5, 6, 7], m26.only [1]⟩
 intro hb7 Hz; try simp only [QQ, Qax] at hb7
 revert Hz
 obtain rfl : k = h.length := by have := hb7; first | omega | (simp at this; omega)
 intro Hz
 refine wcf Hz ?_
 refine wp_exit ?_
 refine hK0 _ _ ?_
 refine regS Hz (.assign rfl .nil) fun Az Hz => ?_
 refine rt1 Hz ?_
 exact ⟨_, rfl, iff_of_true rfl hp, m5.only [1]⟩
theorem hprune_x (X : Cx) (h : List Ver) (f : Int) (p : Option Addr) (nn c : Nat) (w0 : World) (hl : h.length ≤ 1000000) (hok : ∀ v ∈ h, v.2.length ≤ 1000000) (hr : Rise h) (m0 : MemOk X w0 [(1, .dat (.slice p nn c) (.l 2 (h.map itD)))] w0) :
   Calls Tryz.prog 54 #[.slice p nn c, .int .i64 f] w0 fun e w' => ∃ (p9 : Option Addr) (c9 : Nat), e = .returned (.slice p9 (pruneF h f).length c9) ∧ MemOk X w0 [(1, .dat (.slice p nn c) (.l 2 (h.map itD))), (9, .dat (.slice p9 (pruneF h f).length c9) (.l 2 ((pruneF h f).map itD)))] w' := by
 obtain rfl : nn = h.length := nnOf (m0.rd (i := 1) rfl)
 refine ent2 Tryz.func54 rfl Tryz.ntmps54 fun Az Hz => ?_
 have hul := upN_le h f
 have hl9 : h.length - (upN h f - 1) = (h.drop (upN h f - 1)).length := by rw [List.length_drop]
 refine regS Hz (.assign rfl .nil) fun Az Hz => ?_
 refine zsr fun K0 hK0 => ?_
 refine goCh Hz (.move rfl <| .move rfl <| .move rfl .nil) fun Az Hz => ?_
 refine plz (ecl Hz Tryz.func95 rfl (upto_x _ h f _ _ _ hl hr (m0.into [(1, 1)] (by decide) rfl)) ?_)
 rintro e w8 ⟨rfl, hm8⟩
 have mx8 := m0.back hm8 [(1, 1)] (by decide); clear hm8 m0
 have m8 := mx8.oz [1]
 refine ⟨_, rfl, ?_⟩; intro Az Hz
 refine goCh Hz (.sub rfl rfl (r := (upN h f : Int) - 1) (IntWalk.i64_in _ (by omega)) <| .c rfl (fun _ h_ => y_max h_ rfl rfl (r := ((upN h f - 1 : Nat) : Int)) (by omega)) .nil) fun Az Hz => ?_
 have m12 := m8.dropR (i := 1) rfl (upN h f - 1) (by rw [List.length_map]; omega) 20 rfl
 rw [← List.map_drop, hl9] at m12
 refine goCh Hz (.c rfl (fun _ h_ => y_sliceLm h_ (upN h f - 1) rfl rfl U94 fct10 rfl (by omega) hl9) .nil) fun Az Hz => ?_
 refine plz (ecl Hz Tryz.func93 rfl (hcopied_x _ (h.drop (upN h f - 1)) _ _ _ (by rw [List.length_drop]; omega) (fun v hv => hok v (List.mem_of_mem_drop hv)) (m12.into [(1, 20)] (by decide) rfl)) ?_)
 rintro e w14 ⟨p14, c14, rfl, hm14⟩
 have mx14 := m12.back hm14 [(20, 1), (21, 9)] (by decide); clear hm14 m12
 have m14 := mx14.oz [20, 21, 1]
 refine ⟨_, rfl, ?_⟩; intro Az Hz
 refine gz hK0 Hz (.assign rfl .nil) fun Az Hz => ?_
 refine rt1 Hz ?_
 have m17 := m14.freezeR 21 rfl
 rw [List.length_map] at m17
 rw [List.length_map]
 exact ⟨_, _, rfl, m17.ren [(1, 1), (9, 21)] (by decide)⟩
theorem hadd_x (X : Cx) (h : List Ver) (s9 : Int) (d : List Int) (p pd : Option Addr) (nn c cd : Nat) (w0 : World) (hl : h.length ≤ 1000000) (hok : ∀ v ∈ h, v.2.length ≤ 1000000) (hd : d.length ≤ 1000000) (m0 : MemOk X w0 [(1, .dat (.slice p nn c) (.l 2 (h.map itD))), (2, .dat (.slice pd d.length cd) (.ns .u8 d))] w0) :
   Calls Tryz.prog 53 #[.slice p nn c, .int .i64 s9, .slice pd d.length cd] w0 fun e w' => ∃ (p9 : Option Addr) (c9 : Nat), e = .returned (.slice p9 (addF h s9 d).length c9) ∧ MemOk X w0 [(1, .dat (.slice p nn c) (.l 2 (h.map itD))), (2, .dat (.slice pd d.length cd) (.ns .u8 d)), (9, .dat (.slice p9 (addF h s9 d).length c9) (.l 2 ((addF h s9 d).map itD)))] w' := by
 obtain rfl : nn = h.length := nnOf (m0.rd (i := 1) rfl)
 refine ent3 Tryz.func53 rfl Tryz.ntmps53 fun Az Hz => ?_
 refine regS Hz (.assign rfl .nil) fun Az Hz => ?_
 refine zsr fun K0 hK0 => ?_
 refine goCh Hz (.move rfl .nil) fun Az Hz => ?_
 refine plz (ecl Hz Tryz.func93 rfl (hcopied_x _ h _ _ _ hl hok (m0.into [(1, 1)] (by decide) rfl)) ?_)
 rintro e w4 ⟨p4, c4, rfl, hm4⟩
 have mx4 := m0.back hm4 [(1, 1), (20, 9)] (by decide); clear hm4 m0
 have m4 := mx4.oz [1, 20, 2]
 refine ⟨_, rfl, ?_⟩; intro Az Hz
 refine gz hK0 Hz (.assign rfl .nil) fun Az Hz => ?_
 refine wsk fun K1 hK1 => ?_
 refine zsr fun K2 hK2 => ?_
 refine goCh Hz (.move rfl .nil) fun Az Hz => ?_
 refine plz (ecb Hz Tryz.func94 rfl m4 (htime_x _ _) fun Az w9 Hz m10 => ?_)
 refine goCh Hz (.not rfl <| .move rfl .nil) fun Az Hz => ?_
 refine bc Hz 13 ?_ ?_
 ·
  intro hb14 Hz; try simp only [QQ, Qax] at hb14
  have htn : ¬ (1 ≤ s9 ∧ s9 ≤ 1099511627776) := by have := hb14; first | omega | (simp at this; omega)
  refine goCh Hz (.sk <| .sk <| .sk <| .sk .nil) fun Az Hz => ?_
  refine st_skipU Hz rfl rfl rfl rfl fun Az Hz => ?_
  refine st_skipU Hz rfl rfl rfl rfl fun Az Hz => ?_
  refine st_skipU Hz rfl rfl rfl rfl fun Az Hz => ?_
  refine st_skipU Hz rfl rfl rfl rfl fun Az Hz => ?_
  refine st_skipU Hz rfl rfl rfl rfl fun Az Hz => ?_
  refine st_skipU Hz rfl rfl rfl rfl fun Az Hz => ?_
  refine st_skipU Hz rfl rfl rfl rfl fun Az Hz => ?_
  refine st_skipU Hz rfl rfl rfl rfl fun Az Hz => ?_
  refine st_skipU Hz rfl rfl rfl rfl fun Az Hz => ?_
  refine gz hK2 Hz (.sk <| .pickT rfl rfl <| .nil) fun Az Hz => ?_
  refine wct Hz ?_
  replace Hz := Hz.oz [1, 2, 6, 7, 13, 17, 28]
  refine regS Hz (.move rfl <| .assign rfl .nil) fun Az Hz => ?_
  refine rt1 Hz ?_
  have m33 := m10.freezeR 20 rfl
  have hAd : addF h s9 d = h := by unfold addF; rw [if_neg (fun h9 => htn h9.1)]
  rw [List.length_map] at m33
  rw [List.length_map, hAd]
  exact ⟨_, _, rfl, m33.ren [(1, 1), (2, 2), (9, 20)] (by decide)⟩
 intro hb14 Hz; try simp only [QQ, Qax] at hb14
 have htm : 1 ≤ s9 ∧ s9 ≤ 1099511627776 := by have := hb14; first | omega | (simp at this; omega)
 refine goCh Hz (.moveZ rfl <| .lenZ rfl U94 <| .gtrZ rfl rfl <| .moveZ rfl .nil) fun Az Hz => ?_
 refine bc Hz 17 ?_ ?_
 ·
  intro hb38 Hz; try simp only [QQ, Qax] at hb38
  have hl0 : 0 < h.length := by have := hb38; first | omega | (simp at this; omega)
  obtain ⟨⟨xs, xd⟩, hes⟩ : ∃ e, h[h.length - 1]? = some e := ⟨_, List.getElem?_eq_getElem (by omega)⟩
  have hx9 : (h.getD (h.length - 1) v0).1 = xs := by rw [List.getD, hes]; rfl
  refine goCh Hz (.moveZ rfl <| .moveZ rfl <| .moveZ rfl <| .lenZ rfl U94 <| .subZ rfl rfl (r := ((h.length - 1 : Nat) : Int)) (by rw [IntWalk.i64_in _ (by omega)]; omega) .nil) fun Az Hz => ?_
  obtain ⟨b44, o44, vs44, hp44, hR44, ho44, m44⟩ := m10.openR (i := 1) rfl (h.length - 1) (r := [.v (.int .i64 xs), .ns .u8 xd]) (itD_get hes) 21 rfl
  revert Hz
  cases hp44; clear m10 ho44
  rcases hR44 with _ | ⟨hd44_0, _ | ⟨hd44_1, _ | _⟩⟩
  obtain rfl := hd44_0.v_out
  clear hd44_0
  obtain ⟨p45, c45, hv45, hc45⟩ := hd44_1.ns_shape; subst hv45
  intro Hz
  have m45 := m44.dat 22 rfl (hd44_1.cast (fun _ h => (free_add rfl h))); clear m44 hd44_1
  refine gz hK2 Hz (.g rfl rfl rfl rfl (fun _ h_ => y_idx h_ rfl rfl U94 fct10 (h.length - 1) rfl (by omega)) <| .fieldAddrQZ 0 rfl U110 rfl (s := 0) (by kernel_rfl) rfl <| .loadC0Z m45 (i := 21) rfl rfl U2 rfl <| .leqZ rfl rfl <| .pickTZ rfl rfl <| .pickF rfl rfl <| .nil) fun Az Hz => ?_
  refine bc Hz 28 ?_ ?_
  ·
   intro hb52 Hz; try simp only [QQ, Qax] at hb52
   have hbad : s9 ≤ xs := by have := hb52; first | omega | (simp at this; omega)
   refine wct Hz ?_
   replace Hz := Hz.oz [1, 2, 6, 7, 13, 17, 28]
   refine regS Hz (.move rfl <| .assign rfl .nil) fun Az Hz => ?_
   refine rt1 Hz ?_
   have m56 := m45.freezeR 20 rfl
   have hAd : addF h s9 d = h := by unfold addF; rw [if_neg (fun h9 => h9.2.elim (fun e => by rw [e] at hl0; simp at hl0) (fun h8 => by omega))]
   rw [List.length_map] at m56
   rw [List.length_map, hAd]
   exact ⟨_, _, rfl, m56.ren [(1, 1), (2, 2), (9, 20)] (by decide)⟩
  intro hb52 Hz; try simp only [QQ, Qax] at hb52
  have hgood : xs < s9 := by have := hb52; first | omega | (simp at this; omega)
  refine wcf Hz ?_
  refine zss (hK1 _ _ ?_)
  replace Hz := Hz.oz [1, 2, 6, 7, 13, 17, 28]
  refine zsr fun K3 hK3 => ?_
  refine goCh Hz (.move rfl <| .move rfl <| .move rfl .nil) fun Az Hz => ?_
  refine plz (e_app0M Hz m45 23 rfl rfl (m45.nums (i := 2) rfl) U22 fct13 (by decide) (by omega) rfl fun p64 c64 Az w65 Hz m65 => ?_)
  refine goCh Hz (.build rfl fct11 fl110had rfl (by dsimp only [setL, List.set] <;> rfl) .nil) fun Az Hz => ?_
  have m68 := m65.freezeN 23 rfl
  refine plz (e_litR Hz m68 24 (mm := 2) rfl (.cons rfl rfl (.cons (.v _) (.cons (m68.rd (i := 23) rfl) .nil)) .nil) U94 fct42 rfl rfl rfl rfl rfl fun g67 Az w69 Hz m69 => ?_)
  have m71 := m69.freezeR 24 rfl
  refine plz (e_appR Hz m71 20 rfl rfl rfl (m71.rd (i := 24) rfl) U94 fct42 rfl rfl (by decide) (by simp; omega) rfl fun p70 c70 Az w72 Hz m72 => ?_)
  refine gz hK3 Hz (.assign rfl .nil) fun Az Hz => ?_
  refine rt1 Hz ?_
  have m74 := m72.freezeR 20 rfl
  have hAd : addF h s9 d = h ++ [(s9, d)] := by unfold addF; rw [if_pos ⟨htm, .inr (by omega)⟩]
  have hE : h.map itD ++ [[D.v (.int .i64 s9), .ns .u8 d]] = (h ++ [(s9, d)]).map itD := by rw [List.map_append]; rfl
  rw [hE] at m74
  rw [hE]
  rw [List.length_map] at m74
  rw [List.length_map, hAd]
  exact ⟨_, _, rfl, m74.ren [(1, 1), (2, 2), (9, 20)] (by decide)⟩
 intro hb38 Hz; try simp only [QQ, Qax] at hb38
 have hnil : h = [] := List.length_eq_zero_iff.1 (by have := hb38; first | omega | (simp at this; omega) | (simp at this; simp [this]))
 refine gz hK2 Hz (.sk <| .sk <| .sk <| .sk <| .sk <| .sk <| .sk <| .sk <| .sk <| .pickFZ rfl rfl <| .pickF rfl rfl <| .nil) fun Az Hz => ?_
 refine wcf Hz ?_
 refine zss (hK1 _ _ ?_)
 replace Hz := Hz.oz [1, 2, 6, 7, 13, 17, 28]
 refine zsr fun K4 hK4 => ?_
 refine goCh Hz (.move rfl <| .move rfl <| .move rfl .nil) fun Az Hz => ?_
 refine plz (e_app0M Hz m10 21 rfl rfl (m10.nums (i := 2) rfl) U22 fct13 (by decide) (by omega) rfl fun p93 c93 Az w94 Hz m94 => ?_)
 refine goCh Hz (.build rfl fct11 fl110had rfl (by dsimp only [setL, List.set] <;> rfl) .nil) fun Az Hz => ?_
 have m97 := m94.freezeN 21 rfl
 refine plz (e_litR Hz m97 22 (mm := 2) rfl (.cons rfl rfl (.cons (.v _) (.cons (m97.rd (i := 21) rfl) .nil)) .nil) U94 fct42 rfl rfl rfl rfl rfl fun g96 Az w98 Hz m98 => ?_)
 have m100 := m98.freezeR 22 rfl
 refine plz (e_appR Hz m100 20 rfl rfl rfl (m100.rd (i := 22) rfl) U94 fct42 rfl rfl (by decide) (by simp; omega) rfl fun p99 c99 Az w101 Hz m101 => ?_)
 refine gz hK4 Hz (.assign rfl .nil) fun Az Hz => ?_
 refine rt1 Hz ?_
 have m103 := m101.freezeR 20 rfl
 have hAd : addF h s9 d = h ++ [(s9, d)] := by unfold addF; rw [if_pos ⟨htm, .inl hnil⟩]
 have hE : h.map itD ++ [[D.v (.int .i64 s9), .ns .u8 d]] = (h ++ [(s9, d)]).map itD := by rw [List.map_append]; rfl
 rw [hE] at m103
 rw [hE]
 rw [List.length_map] at m103
 rw [List.length_map, hAd]
 exact ⟨_, _, rfl, m103.ren [(1, 1), (2, 2), (9, 20)] (by decide)⟩
theorem hat_x (X : Cx) (h : List Ver) (t : Int) (p : Option Addr) (nn c : Nat) (w0 : World) (hl : h.length ≤ 1000000) (hok : ∀ v ∈ h, v.2.length ≤ 1000000) (hr : Rise h) (m0 : MemOk X w0 [(1, .dat (.slice p nn c) (.l 2 (h.map itD)))] w0) :
   Calls Tryz.prog 79 #[.slice p nn c, .int .i64 t] w0 fun e w' => (atF h t = none ∧ e = .returned (.tuple #[.slice none 0 0, .bool false]) ∧ MemOk X w0 [(1, .dat (.slice p nn c) (.l 2 (h.map itD)))] w') ∨ ∃ (d : List Int) (p9 : Option Addr) (c9 : Nat), atF h t = some d ∧ e = .returned (.tuple #[.slice p9 d.length c9, .bool true]) ∧ MemOk X w0 [(1, .dat (.slice p nn c) (.l 2 (h.map itD))), (9, .dat (.slice p9 d.length c9) (.ns .u8 d))] w' := by
 obtain rfl : nn = h.length := nnOf (m0.rd (i := 1) rfl)
 refine ent2 Tryz.func79 rfl Tryz.ntmps79 fun Az Hz => ?_
 have hul := upN_le h t
 refine regS Hz (.assign rfl <| .assign rfl .nil) fun Az Hz => ?_
 refine zsr fun K0 hK0 => ?_
 refine goCh Hz (.move rfl <| .move rfl .nil) fun Az Hz => ?_
 refine plz (ecl Hz Tryz.func95 rfl (upto_x _ h t _ _ _ hl hr (m0.into [(1, 1)] (by decide) rfl)) ?_)
 rintro e w7 ⟨rfl, hm7⟩
 have mx7 := m0.back hm7 [(1, 1)] (by decide); clear hm7 m0
 have m7 := mx7.oz [1]
 refine ⟨_, rfl, ?_⟩; intro Az Hz
 refine gz hK0 Hz (.assign rfl .nil) fun Az Hz => ?_
 refine wsk fun K1 hK1 => ?_
 refine regS Hz (.move rfl <| .eql rfl rfl .nil) fun Az Hz => ?_
 refine bc Hz 11 ?_ ?_
 ·
  intro hb12 Hz; try simp only [QQ, Qax] at hb12
  have hz : upN h t = 0 := by have := hb12; first | omega | (simp at this; omega)
  refine wct Hz ?_
  refine regS Hz (.assign rfl <| .assign rfl .nil) fun Az Hz => ?_
  refine rt2 Hz ?_
  exact .inl ⟨by unfold atF; rw [if_pos hz], rfl, m7.only [1]⟩
 intro hb12 Hz; try simp only [QQ, Qax] at hb12
 have hz : ¬ upN h t = 0 := by have := hb12; first | omega | (simp at this; omega)
 obtain ⟨⟨xs, xd⟩, hes⟩ : ∃ e, h[upN h t - 1]? = some e := ⟨_, List.getElem?_eq_getElem (by omega)⟩
 have hxd : xd.length ≤ 1000000 := hok _ (List.mem_of_getElem? hes)
 have hx9 : (h.getD (upN h t - 1) v0).2 = xd := by rw [List.getD, hes]; rfl
 refine wcf Hz ?_
 refine zss (hK1 _ _ ?_)
 refine zsr fun K2 hK2 => ?_
 refine goCh Hz (.move rfl <| .move rfl <| .sub rfl rfl (r := ((upN h t - 1 : Nat) : Int)) (by rw [IntWalk.i64_in _ (by omega)]; omega) .nil) fun Az Hz => ?_
 obtain ⟨b22, o22, vs22, hp22, hR22, ho22, m22⟩ := m7.openR (i := 1) rfl (upN h t - 1) (r := [.v (.int .i64 xs), .ns .u8 xd]) (itD_get hes) 20 rfl
 revert Hz
 cases hp22; clear m7 ho22
 rcases hR22 with _ | ⟨hd22_0, _ | ⟨hd22_1, _ | _⟩⟩
 obtain rfl := hd22_0.v_out
 clear hd22_0
 obtain ⟨p23, c23, hv23, hc23⟩ := hd22_1.ns_shape; subst hv23
 intro Hz
 have m23 := m22.dat 21 rfl (hd22_1.cast (fun _ h => (free_add rfl h))); clear m22 hd22_1
 refine goCh Hz (.c rfl (fun _ h_ => y_idx h_ rfl rfl U94 fct10 (upN h t - 1) rfl (by omega)) <| .fieldAddrQ 1 rfl U110 rfl (s := 0) (by kernel_rfl) rfl <| .loadC1 m23 (i := 20) (q := 1) rfl rfl rfl U22 rfl .nil) fun Az Hz => ?_
 refine plz (e_app0M Hz m23 22 rfl rfl (m23.nums (i := 21) rfl) U22 fct13 (by decide) (by omega) rfl fun p27 c27 Az w28 Hz m28 => ?_)
 refine gz hK2 Hz (.assign rfl <| .assign rfl <| .nil) fun Az Hz => ?_
 refine rt2 Hz ?_
 have m31 := m28.freezeN 22 rfl
 exact .inr ⟨xd, _, _, by unfold atF; rw [if_neg hz, hx9], rfl, m31.ren [(1, 1), (9, 22)] (by decide)⟩
theorem ver_x (X : Cx) (s9 : Int) (d : List Int) (p : Option Addr) (c : Nat) (w0 : World) (hd : d.length ≤ 140737488351232) (m0 : MemOk X w0 [(1, .dat (.slice p d.length c) (.ns .u8 d))] w0) :
   Calls Tryz.prog 115 #[.agg #[.int .i64 s9, .slice p d.length c]] w0 fun e w' => ∃ (p9 : Option Addr) (c9 : Nat), e = .returned (.agg #[.int .i64 s9, .slice p9 d.length c9]) ∧ MemOk X w0 [(1, .dat (.slice p d.length c) (.ns .u8 d)), (9, .dat (.slice p9 d.length c9) (.ns .u8 d))] w' := by
 refine ent1 Tryz.func115 rfl Tryz.ntmps115 fun Az Hz => ?_
 refine zsr fun K0 hK0 => ?_
 refine plz (e_box Hz m0 20 (cs := [_, _]) rfl rfl rfl fun g1 Az w2 Hz m2 _ _ => ?_)
 refine plz (e_alloc Hz m2 21 fct11 rfl fun g3 Az w4 Hz m4 _ _ => ?_)
 refine znl (hK0 _ _ ?_)
 refine zsr fun K1 hK1 => ?_
 refine goCh Hz (.fa 1 rfl U110 <| .lb m4 20 U22 rfl rfl rfl .nil) fun Az Hz => ?_
 refine plz (ecl Hz Tryz.func123 rfl (plainB_any d _ _ _ (m4.rd (i := 1) rfl).any hd) ?_)
 rintro e w9 ⟨p9, c9, rfl, hd9, hb9⟩
 have m10 := m4.callF 22 rfl hb9 hd9
 refine ⟨_, rfl, ?_⟩; intro Az Hz
 refine goCh Hz (.fieldAddr (off := 1) rfl U110 rfl (s := 0) (by kernel_rfl) rfl .nil) fun Az Hz => ?_
 refine plz (st1 Hz m10 20 fct21 fun w13 m13 _ => ?_)
 refine znl (hK1 _ _ ?_)
 refine zsr fun K2 hK2 => ?_
 refine goCh Hz (.loadBR m13 (i := 20) rfl rfl U110 rfl fct10 (by simp) (by dsimp only [List.drop, List.take] <;> rfl) .nil) fun Az Hz => ?_
 refine plz (stw Hz m13 21 fct10 fun w16 m16 _ => ?_)
 refine znl (hK2 _ _ ?_)
 refine rtd (retC (fn := Tryz.f115) Hz m16 (i := 21) rfl rfl rfl U110 rfl fct10 ?_)
 exact ⟨_, _, rfl, m16.ren [(1, 1), (9, 22)] (by decide)⟩
theorem listV_x (X : Cx) (es : List Ver) (p0 : Option Addr) (c0 : Nat) (w0 : World) (hl : es.length ≤ 1000000) (hok : ∀ v ∈ es, v.2.length ≤ 1000000) (m0 : MemOk X w0 [(1, .dat (.slice p0 es.length c0) (.l 2 (es.map itD)))] w0) :
   Calls Tryz.prog 114 #[.slice p0 es.length c0, .func (.func 115) #[] #[]] w0 fun e w' => ∃ (p9 : Option Addr) (c9 : Nat), e = .returned (.slice p9 (es.map itD).length c9) ∧ MemOk X w0 [(1, .dat (.slice p0 es.length c0) (.l 2 (es.map itD))), (9, .row (.slice p9 (es.map itD).length c9) 110 2 (es.map itD))] w' := by
 refine ent2 Tryz.func114 rfl Tryz.ntmps114 fun Az Hz => ?_
 refine regS Hz (.assign rfl .nil) fun Az Hz => ?_
 refine zsr fun K0 hK0 => ?_
 refine goCh Hz (.move rfl <| .len rfl U94 .nil) fun Az Hz => ?_
 refine plz (ecl Hz Tryz.func122 rfl (growV_any _ _ (by omega)) ?_)
 rintro e w6 ⟨p6, c6, rfl, ho6, hb6⟩
 have m7 := m0.newR 20 hb6 (rowNil ho6)
 refine ⟨_, rfl, ?_⟩; intro Az Hz
 refine gz hK0 Hz (.assign rfl .nil) fun Az Hz => ?_
 refine wsk fun K1 hK1 => ?_
 refine regS Hz (.move rfl <| .len rfl U94 <| .move rfl .nil) fun Az Hz => ?_
 refine wp_block ?_
 refine wp_loop_ghost (fun g a w => ∃ (k : Nat) (p : Option Addr) (c : Nat), k ≤ es.length ∧ g = es.length - k ∧ Has 25 [(1, .func (.func 115) #[] #[]), (5, .slice p ((es.take k).map itD).length c), (11, .slice p0 es.length c0), (12, .int .i64 es.length), (13, .int .i64 k)] a ∧ MemOk X w0 [(1, .dat (.slice p0 es.length c0) (.l 2 (es.map itD))), (9, .row (.slice p ((es.take k).map itD).length c) 110 2 ((es.take k).map itD))] w) (es.length) ?_ ?_
 · exact ⟨0, _, _, Nat.zero_le _, rfl, Hz.only [1, 5, 11, 12, 13], m7.ren [(1, 1), (9, 20)] (by decide)⟩
 clear Hz m7
 rintro g Az w13 ⟨k, p, c, hkl, hg, Hz, m13⟩
 refine regS Hz (.lss rfl rfl .nil) fun Az Hz => ?_
 refine wsk fun K2 hK2 => ?_
 refine bc Hz 14 ?_ ?_
 ·
  intro hb15 Hz; try simp only [QQ, Qax] at hb15
  have hk : k < es.length := by have := hb15; first | omega | (simp at this; omega)
  obtain ⟨⟨xs, xd⟩, hes⟩ : ∃ e, es[k]? = some e := ⟨_, List.getElem?_eq_getElem hk⟩
  have hed := hok _ (List.mem_of_getElem? hes)
  dsimp only at hed
  refine wct Hz ?_
  refine zss (hK2 _ _ ?_)
  refine wsk fun K3 hK3 => ?_
  refine wp_block ?_
  refine zsr fun K4 hK4 => ?_
  obtain ⟨b17, o17, vs17, hp17, hR17, ho17, m17⟩ := m13.openR (i := 1) rfl (k) (r := [.v (.int .i64 xs), .ns .u8 xd]) (itD_get hes) 100 rfl
  revert Hz
  cases hp17; clear m13 ho17
  rcases hR17 with _ | ⟨hd17_0, _ | ⟨hd17_1, _ | _⟩⟩
  obtain rfl := hd17_0.v_out
  clear hd17_0
  obtain ⟨p18, c18, hv18, hc18⟩ := hd17_1.ns_shape; subst hv18
  intro Hz
  have m18 := m17.dat 101 rfl (hd17_1.cast (fun _ h => (free_add rfl h))); clear m17 hd17_1
  refine goCh Hz (.c rfl (fun _ h_ => y_idx h_ rfl rfl U94 fct10 (k) rfl hk) <| .loadCR m18 (i := 100) rfl rfl U110 rfl fct10 .nil) fun Az Hz => ?_
  refine plz (e_alloc Hz m18 102 fct11 rfl fun g21 Az w22 Hz m22 _ _ => ?_)
  refine plz (stw Hz m22 102 fct10 fun w23 m23 _ => ?_)
  refine znl (hK4 _ _ ?_)
  refine wp_region_lit ?_
  refine goCh Hz (.move rfl <| .move rfl <| .loadBR m23 (i := 102) rfl rfl U110 rfl fct10 (by simp) (by dsimp only [List.drop, List.take] <;> rfl) .nil) fun Az Hz => ?_
  refine plz (e_callV Hz rfl Tryz.func115 rfl rfl rfl rfl (ver_x _ xs xd _ _ _ (by omega) (m23.into [(1, 101)] (by decide) rfl)) ?_)
  rintro e w27 ⟨p27, c27, rfl, hm27⟩
  have mx27 := m23.back hm27 [(101, 1), (103, 9)] (by decide); clear hm27 m23
  have m27 := mx27.oz [101, 103, 1, 9, 100, 102]
  refine ⟨_, rfl, ?_⟩; intro Az Hz
  refine plz (e_litR Hz m27 104 (mm := 2) rfl (.cons rfl rfl (.cons (.v _) (.cons (m27.rd (i := 103) rfl) .nil)) .nil) U94 fct42 rfl rfl rfl rfl rfl fun g29 Az w30 Hz m30 => ?_)
  have m32 := m30.freezeR 104 rfl
  refine plz (e_appR Hz m32 9 rfl rfl rfl (m32.rd (i := 104) rfl) U94 fct42 rfl rfl (by decide) (by simp; omega) rfl fun p31 c31 Az w33 Hz m33 => ?_)
  refine gz hK3 Hz (.assign rfl .nil) fun Az Hz => ?_
  replace Hz := Hz.oz [1, 5, 11, 12, 13]
  refine wp_region_lit ?_
  refine goCh Hz (.inc (k + 1) <| .move rfl .nil) fun Az Hz => ?_
  refine wpList_nil ?_
  show ∃ n', n' < _ ∧ _
  have hE : ((es.take k).map itD) ++ [[D.v (.int .i64 xs), .ns .u8 xd]] = ((es.take (k + 1)).map itD) := by rw [take_snoc hes, List.map_append]; rfl
  rw [hE] at m33 Hz
  exact ⟨es.length - (k + 1), by omega, k + 1, _, _, by omega, rfl, Hz.only [1, 5, 11, 12, 13], m33.only [1, 9]⟩
 intro hb15 Hz; try simp only [QQ, Qax] at hb15
 revert Hz
 obtain rfl : k = es.length := by have := hb15; first | omega | (simp at this; omega)
 intro Hz
 refine wcf Hz ?_
 refine wp_exit ?_
 refine hK1 _ _ ?_
 refine regS Hz (.move rfl <| .assign rfl .nil) fun Az Hz => ?_
 refine rt1 Hz ?_
 rw [List.take_length] at m13
 rw [List.take_length]
 exact ⟨_, _, rfl, m13.ren [(1, 1), (9, 9)] (by decide)⟩
theorem vers_x (X : Cx) (es : List Ver) (p0 : Option Addr) (nn c0 : Nat) (w0 : World) (hl : es.length ≤ 1000000) (hok : ∀ v ∈ es, v.2.length ≤ 1000000) (m0 : MemOk X w0 [(1, .dat (.slice p0 nn c0) (.l 2 (es.map itD)))] w0) :
   Calls Tryz.prog 92 #[.slice p0 nn c0] w0 fun e w' => ∃ (p9 : Option Addr) (c9 : Nat), e = .returned (.slice p9 es.length c9) ∧ MemOk X w0 [(1, .dat (.slice p0 nn c0) (.l 2 (es.map itD))), (9, .dat (.slice p9 es.length c9) (.l 2 (es.map itD)))] w' := by
 obtain rfl : nn = es.length := nnOf (m0.rd (i := 1) rfl)
 refine ent1 Tryz.func92 rfl Tryz.ntmps92 fun Az Hz => ?_
 refine regS Hz (.assign rfl .nil) fun Az Hz => ?_
 refine zsr fun K0 hK0 => ?_
 refine goCh Hz (.move rfl .nil) fun Az Hz => ?_
 refine plz (ecl Hz Tryz.func114 rfl (listV_x _ es _ _ _ hl hok (m0.into [(1, 1)] (by decide) rfl)) ?_)
 rintro e w4 ⟨p4, c4, rfl, hm4⟩
 have mx4 := m0.back hm4 [(1, 1), (20, 9)] (by decide); clear hm4 m0
 have m4 := mx4.oz [1, 20]
 refine ⟨_, rfl, ?_⟩; intro Az Hz
 refine gz hK0 Hz (.assign rfl .nil) fun Az Hz => ?_
 refine rt1 Hz ?_
 have m7 := m4.freezeR 20 rfl
 rw [List.length_map] at m7
 rw [List.length_map]
 exact ⟨_, _, rfl, m7.ren [(1, 1), (9, 20)] (by decide)⟩
theorem listH_x (X : Cx) (es : List (List Ver)) (p0 : Option Addr) (c0 : Nat) (w0 : World) (hl : es.length ≤ 1000000) (hok : HsOk es) (m0 : MemOk X w0 [(1, .dat (.slice p0 es.length c0) (.l 1 (es.map hD)))] w0) :
   Calls Tryz.prog 91 #[.slice p0 es.length c0, .func (.func 92) #[] #[]] w0 fun e w' => ∃ (p9 : Option Addr) (c9 : Nat), e = .returned (.slice p9 (es.map hD).length c9) ∧ MemOk X w0 [(1, .dat (.slice p0 es.length c0) (.l 1 (es.map hD))), (9, .row (.slice p9 (es.map hD).length c9) 94 1 (es.map hD))] w' := by
 refine ent2 Tryz.func91 rfl Tryz.ntmps91 fun Az Hz => ?_
 refine regS Hz (.assign rfl .nil) fun Az Hz => ?_
 refine zsr fun K0 hK0 => ?_
 refine goCh Hz (.move rfl <| .len rfl U37 .nil) fun Az Hz => ?_
 refine plz (ecl Hz Tryz.func113 rfl (growH_any _ _ (by omega)) ?_)
 rintro e w6 ⟨p6, c6, rfl, ho6, hb6⟩
 have m7 := m0.newR 20 hb6 (rowNil ho6)
 refine ⟨_, rfl, ?_⟩; intro Az Hz
 refine gz hK0 Hz (.assign rfl .nil) fun Az Hz => ?_
 refine wsk fun K1 hK1 => ?_
 refine regS Hz (.move rfl <| .len rfl U37 <| .move rfl .nil) fun Az Hz => ?_
 refine wp_block ?_
 refine wp_loop_ghost (fun g a w => ∃ (k : Nat) (p : Option Addr) (c : Nat), k ≤ es.length ∧ g = es.length - k ∧ Has 25 [(1, .func (.func 92) #[] #[]), (5, .slice p ((es.take k).map hD).length c), (11, .slice p0 es.length c0), (12, .int .i64 es.length), (13, .int .i64 k)] a ∧ MemOk X w0 [(1, .dat (.slice p0 es.length c0) (.l 1 (es.map hD))), (9, .row (.slice p ((es.take k).map hD).length c) 94 1 ((es.take k).map hD))] w) (es.length) ?_ ?_
 · exact ⟨0, _, _, Nat.zero_le _, rfl, Hz.only [1, 5, 11, 12, 13], m7.ren [(1, 1), (9, 20)] (by decide)⟩
 clear Hz m7
 rintro g Az w13 ⟨k, p, c, hkl, hg, Hz, m13⟩
 refine regS Hz (.lss rfl rfl .nil) fun Az Hz => ?_
 refine wsk fun K2 hK2 => ?_
 refine bc Hz 14 ?_ ?_
 ·
  intro hb15 Hz; try simp only [QQ, Qax] at hb15
  have hk : k < es.length := by have := hb15; first | omega | (simp at this; omega)
  obtain ⟨e9, hes⟩ : ∃ e, es[k]? = some e := ⟨_, List.getElem?_eq_getElem hk⟩
  have hed := hok _ (List.mem_of_getElem? hes)
  refine wct Hz ?_
  refine zss (hK2 _ _ ?_)
  refine wsk fun K3 hK3 => ?_
  refine wp_block ?_
  refine zsr fun K4 hK4 => ?_
  obtain ⟨b17, o17, vs17, hp17, hR17, ho17, m17⟩ := m13.openR (i := 1) rfl (k) (r := [.l 2 (e9.map itD)]) (hD_get hes) 100 rfl
  revert Hz
  cases hp17; clear m13 ho17
  rcases hR17 with _ | ⟨hd17_0, _ | _⟩
  obtain ⟨p18, c18, hv18, hc18⟩ := hd17_0.l_shape; subst hv18
  intro Hz
  have m18 := m17.dat 101 rfl (hd17_0.cast (fun _ h => (free_add rfl h))); clear m17 hd17_0
  refine gz hK4 Hz (.c rfl (fun _ h_ => y_idx h_ rfl rfl U37 fct12 (k) rfl hk) <| .loadC0 m18 (i := 100) rfl rfl U94 rfl <| .assign rfl <| .nil) fun Az Hz => ?_
  refine wp_region_lit ?_
  refine goCh Hz (.move rfl <| .move rfl <| .move rfl .nil) fun Az Hz => ?_
  refine plz (e_callV Hz rfl Tryz.func92 rfl rfl rfl rfl (vers_x _ e9 _ _ _ _ hed.1 hed.2 (m18.into [(1, 101)] (by decide) rfl)) ?_)
  rintro e w25 ⟨p25, c25, rfl, hm25⟩
  have mx25 := m18.back hm25 [(101, 1), (102, 9)] (by decide); clear hm25 m18
  have m25 := mx25.oz [101, 102, 1, 9, 100]
  refine ⟨_, rfl, ?_⟩; intro Az Hz
  refine plz (e_litR Hz m25 103 (mm := 1) rfl (.cons rfl rfl (.cons (m25.rd (i := 102) rfl) .nil) .nil) U37 fct3 rfl rfl rfl rfl rfl fun g27 Az w28 Hz m28 => ?_)
  have m30 := m28.freezeR 103 rfl
  refine plz (e_appR Hz m30 9 rfl rfl rfl (m30.rd (i := 103) rfl) U37 fct3 rfl rfl (by decide) (by simp; omega) rfl fun p29 c29 Az w31 Hz m31 => ?_)
  refine gz hK3 Hz (.assign rfl .nil) fun Az Hz => ?_
  replace Hz := Hz.oz [1, 5, 11, 12, 13]
  refine wp_region_lit ?_
  refine goCh Hz (.inc (k + 1) <| .move rfl .nil) fun Az Hz => ?_
  refine wpList_nil ?_
  show ∃ n', n' < _ ∧ _
  have hE : ((es.take k).map hD) ++ [[D.l 2 (e9.map itD)]] = ((es.take (k + 1)).map hD) := by rw [take_snoc hes, List.map_append]; rfl
  rw [hE] at m31 Hz
  exact ⟨es.length - (k + 1), by omega, k + 1, _, _, by omega, rfl, Hz.only [1, 5, 11, 12, 13], m31.only [1, 9]⟩
 intro hb15 Hz; try simp only [QQ, Qax] at hb15
 revert Hz
 obtain rfl : k = es.length := by have := hb15; first | omega | (simp at this; omega)
 intro Hz
 refine wcf Hz ?_
 refine wp_exit ?_
 refine hK1 _ _ ?_
 refine regS Hz (.move rfl <| .assign rfl .nil) fun Az Hz => ?_
 refine rt1 Hz ?_
 rw [List.take_length] at m13
 rw [List.take_length]
 exact ⟨_, _, rfl, m13.ren [(1, 1), (9, 9)] (by decide)⟩
theorem pchunk_x (X : Cx) (vo ch cn sz mk fl : Int) (H : List (List Ver)) (p : Option Addr) (c : Nat) (w0 : World) (hl : H.length ≤ 1000000) (hok : HsOk H) (m0 : MemOk X w0 [(1, .dat (.slice p H.length c) (.l 1 (H.map hD)))] w0) :
   Calls Tryz.prog 51 #[.agg #[.int .i64 vo, .int .i64 ch, .int .i64 cn, .int .i64 sz, .int .i64 mk, .int .i64 fl, .slice p H.length c]] w0 fun e w' => ∃ (p9 : Option Addr) (c9 : Nat), e = .returned (.agg #[.int .i64 vo, .int .i64 ch, .int .i64 cn, .int .i64 sz, .int .i64 mk, .int .i64 fl, .slice p9 H.length c9]) ∧ MemOk X w0 [(1, .dat (.slice p H.length c) (.l 1 (H.map hD))), (9, .row (.slice p9 H.length c9) 94 1 (H.map hD))] w' := by
 refine ent1 Tryz.func51 rfl Tryz.ntmps51 fun Az Hz => ?_
 refine zsr fun K0 hK0 => ?_
 refine plz (e_box Hz m0 20 (cs := [_, _, _, _, _, _, _]) rfl rfl rfl fun g1 Az w2 Hz m2 _ _ => ?_)
 refine plz (e_alloc Hz m2 21 fct6 rfl fun g3 Az w4 Hz m4 _ _ => ?_)
 refine znl (hK0 _ _ ?_)
 refine zsr fun K1 hK1 => ?_
 refine goCh Hz (.fa 6 rfl U39 <| .lb m4 20 U37 rfl rfl rfl .nil) fun Az Hz => ?_
 refine plz (ecl Hz Tryz.func91 rfl (listH_x _ H _ _ _ hl hok (m4.into [(1, 1)] (by decide) rfl)) ?_)
 rintro e w9 ⟨p9, c9, rfl, hm9⟩
 have mx9 := m4.back hm9 [(1, 1), (22, 9)] (by decide); clear hm9 m4
 have m9 := mx9.oz [1, 22, 20, 21]
 refine ⟨_, rfl, ?_⟩; intro Az Hz
 refine goCh Hz (.fieldAddr (off := 6) rfl U39 rfl (s := 0) (by kernel_rfl) rfl .nil) fun Az Hz => ?_
 refine plz (st1 Hz m9 20 fct4 fun w12 m12 _ => ?_)
 refine znl (hK1 _ _ ?_)
 refine zsr fun K2 hK2 => ?_
 refine goCh Hz (.loadBR m12 (i := 20) rfl rfl U39 rfl fct5 (by simp) (by dsimp only [List.drop, List.take] <;> rfl) .nil) fun Az Hz => ?_
 refine plz (stw Hz m12 21 fct5 fun w15 m15 _ => ?_)
 refine znl (hK2 _ _ ?_)
 refine rtd (retC (fn := Tryz.f51) Hz m15 (i := 21) rfl rfl rfl U39 rfl fct5 ?_)
 rw [List.length_map] at m15
 rw [List.length_map]
 exact ⟨_, _, rfl, m15.ren [(1, 1), (9, 22)] (by decide)⟩
end Go.Proofs.YteglmahnkfgelaaGreat.K
