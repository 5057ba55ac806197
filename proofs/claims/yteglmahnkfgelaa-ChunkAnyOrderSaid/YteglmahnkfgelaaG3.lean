/- General laws of walks: Vol12, Ab20, Ab21, Vol14, Vol15, Vol22, Vol27, Vol28, Vol29, Vol23, Vol24, Vol30, Vol16. -/
import Derived.Test.YteglmahnkfgelaaG2
import Derived.Sort.OwnSortedInts
import Derived.Lib.Slices
section
namespace Go.Proofs.Yteglmahnkfgelaa.K
open Go.ChangeShapes Go.WideShapes Go.ChangeAt Go.RowKit
set_option linter.unusedVariables false
set_option linter.unusedSimpArgs false
open Classical in
noncomputable def wrR (bl sz : Int) (ws : List (Int × List (Int × List Int))) (it : List (Int × List Int)) : List (Int × List (Int × List Int)) × Int := if ItemsR bl sz it then (ws ++ [((ws.length : Int) + 1, it)], 0) else (ws, 23)
abbrev VolO := Int × Bool × Int × List (Int × List (Int × List Int)) × Int
noncomputable def putR (bl sz ne fl : Int) (hi : Bool) (ws : List (Int × List (Int × List Int))) (it : List (Int × List Int)) : VolO := if hi = true then (ne, hi, fl, ws, 28) else (ne, hi, fl, (wrR bl sz ws it).1, (wrR bl sz ws it).2)
def reachR (hi : Bool) (fl at0 nd : Int) : Int := if hi = true then 28 else if at0 < fl then 30 else if nd < at0 then 31 else 0
def pruneR (ne fl : Int) (hi : Bool) (pins : List Int) (ws : List (Int × List (Int × List Int))) (at0 : Int) : VolO := if reachR hi fl at0 (lowL ws.length pins) = 0 then (ne, hi, at0, ws, 0) else (ne, hi, fl, ws, reachR hi fl at0 (lowL ws.length pins))
noncomputable def takeR (bl sz to ne fl : Int) (hi : Bool) (ws : List (Int × List (Int × List Int))) (ix : Int) (it : List (Int × List Int)) : VolO :=
 if hi = false then (ne, hi, fl, ws, 33) else if 0 ≤ ix ∧ ix ≤ ne - 1 then (ne, hi, fl, ws, 0) else if ix ≠ ne ∨ ne = to then (ne, hi, fl, ws, 33)
 else if (wrR bl sz ws it).2 = 0 then (ne + 1, hi, fl, (wrR bl sz ws it).1, 0) else (ne, hi, fl, (wrR bl sz ws it).1, (wrR bl sz ws it).2)
def publishR (to ne fl : Int) (hi : Bool) (ws : List (Int × List (Int × List Int))) : VolO := if hi = false ∨ ne ≠ to then (ne, hi, fl, ws, 33) else (ne, false, (ws.length : Int), ws, 0)
noncomputable def doR (bl sz to ne fl : Int) (hi : Bool) (pins : List Int) (ws : List (Int × List (Int × List Int))) (kd at0 ix : Int) (it : List (Int × List Int)) : VolO :=
 if kd = 2 then putR bl sz ne fl hi ws it else if kd = 3 then pruneR ne fl hi pins ws at0 else if kd = 6 then takeR bl sz to ne fl hi ws ix it
 else if kd = 7 then publishR to ne fl hi ws else if kd = 8 then (ne, hi, fl, ws, 0) else (ne, hi, fl, ws, 23)
set_option maxRecDepth 100000
set_option maxHeartbeats 4000000
end Go.Proofs.Yteglmahnkfgelaa.K
end
section
namespace Go.Proofs.Yteglmahnkfgelaa.K
open Go.ChangeShapes Go.WideShapes Go.ChangeAt Go.RowKit
set_option linter.unusedVariables false
end Go.Proofs.Yteglmahnkfgelaa.K
end
section
namespace Go.Proofs.Yteglmahnkfgelaa.K
open Go.ChangeShapes Go.WideShapes Go.ChangeAt Go.RowKit Go.Sort
set_option linter.unusedVariables false
set_option linter.unusedSimpArgs false
variable {P : Program} {X : Cx} {M : Mm} {w w0 : World}
def nD (z : Int) : List D := [.v (.int .i64 z)]
theorem MemOk.dropN (m : MemOk X w0 M w) {i : Nat} {p : Option Addr} {l c : Nat} {k : IntKind} {zs : List Int} (hm : lk M i = some (.dat (.slice p l c) (.ns k zs))) (j : Nat) (hj : j ≤ zs.length) (i2 : Nat) (hi2 : lk M i2 = none) : MemOk X w0 ((i2, .dat (.slice (if c = j then p else p.map (·.add (j * 1))) (l - j) (c - j)) (.ns k (zs.drop j))) :: M) w :=
 m.dat i2 hi2 (.ns ((m.rd hm).ns_out.drop j hj))
end Go.Proofs.Yteglmahnkfgelaa.K
end
section
namespace Go.Proofs.Yteglmahnkfgelaa.K
open Go.ChangeShapes Go.WideShapes Go.ChangeAt Go.RowKit Go.Sort
set_option linter.unusedVariables false
set_option linter.unusedSimpArgs false
def sortP (l : List Int) : List Int := l.mergeSort fun x y => decide (x ≤ y)
def pinR (hi : Bool) (fl at0 nd : Int) (pins : List Int) : List Int × Int := if reachR hi fl at0 nd = 0 then (sortP (pins ++ [at0]), 0) else (pins, reachR hi fl at0 nd)
def unpinR (hi : Bool) (at0 : Int) (pins : List Int) : List Int × Int := if hi = true ∨ Lib.idxOf pins at0 < 0 then (pins, 28) else (pins.take (Lib.idxOf pins at0).toNat ++ pins.drop ((Lib.idxOf pins at0).toNat + 1), 0)
set_option maxRecDepth 100000
set_option maxHeartbeats 4000000
end Go.Proofs.Yteglmahnkfgelaa.K
end
section
namespace Go.Proofs.Yteglmahnkfgelaa.K
open Go.ChangeShapes Go.WideShapes Go.ChangeAt Go.RowKit
set_option linter.unusedVariables false
set_option linter.unusedSimpArgs false
theorem fl50ro : flatS Try.prog 50 [.int .i64 0, .slice none 0 0] = true := by kernel_rfl
theorem fl53rr : flatS Try.prog 53 [.int .i64 0, .slice none 0 0] = true := by kernel_rfl
theorem notin_take {l : List (Int × List Int)} {k : Nat} {xb : Int} (h : ∀ i, i < k → (l.getD i i0).1 ≠ xb) (hk : k ≤ l.length) : ¬ ∃ e ∈ l.take k, e.1 = xb := fun ⟨e, h1, h2⟩ => by
 obtain ⟨j, hj, rfl⟩ := List.getElem_of_mem h1
 have hj2 : j < k := by rw [List.length_take] at hj; omega
 have h3 := h j hj2
 rw [List.getD, List.getElem?_eq_getElem (by omega)] at h3
 rw [List.getElem_take] at h2
 exact h3 h2
set_option maxRecDepth 100000
set_option maxHeartbeats 4000000
theorem ritems_any (bl sz : Int) (l : List (Int × List Int)) (p : Option Addr) (nn c : Nat) (w0 : World) (h0 : Rd (fun _ => True) w0 (.slice p nn c) (.l 2 (l.map itD))) (hl : l.length ≤ 1000000) :
   Calls Try.prog 94 #[.int .i64 bl, .int .i64 sz, .slice p nn c] w0 fun e w' => ∃ b : Bool, e = .returned (.bool b) ∧ (b = true ↔ ItemsR bl sz l) ∧ Below w0.heap.size w0 w' := by
 obtain rfl : nn = l.length := by obtain ⟨pq, cq, hv, _⟩ := h0.l_shape; injection hv with _ e2 _; rw [List.length_map] at e2; exact e2
 refine ent3 Try.func94 rfl Try.ntmps94 fun Az Hz => ?_
 have m0 := MemOk.start (fun _ => False) w0
 refine regS Hz (.assign rfl .nil) fun Az Hz => ?_
 refine wsk fun K0 hK0 => ?_
 refine zsr fun K1 hK1 => ?_
 refine goCh Hz (.move rfl <| .len rfl U51 <| .lss rfl rfl <| .move rfl .nil) fun Az Hz => ?_
 refine bc Hz 12 ?_ ?_
 ·
  intro hb10 Hz; try simp only [QQ, Qax] at hb10
  refine gz hK1 Hz (.sk <| .sk <| .sk <| .pickT rfl rfl <| .nil) fun Az Hz => ?_
  refine wct Hz ?_
  replace Hz := Hz.oz [0, 1, 2, 6, 12, 16]
  refine regS Hz (.assign rfl .nil) fun Az Hz => ?_
  refine rt1 Hz ?_
  exact ⟨false, rfl, iff_of_false (by simp) (fun h => by have h8 := h.1; have h9 := h.2.1; omega), m0.below⟩
 intro hb10 Hz; try simp only [QQ, Qax] at hb10
 refine gz hK1 Hz (.moveZ rfl <| .lenZ rfl U51 <| .gtrZ rfl rfl <| .pickF rfl rfl <| .nil) fun Az Hz => ?_
 refine bc Hz 16 ?_ ?_
 ·
  intro hb21 Hz; try simp only [QQ, Qax] at hb21
  refine wct Hz ?_
  replace Hz := Hz.oz [0, 1, 2, 6, 12, 16]
  refine regS Hz (.assign rfl .nil) fun Az Hz => ?_
  refine rt1 Hz ?_
  exact ⟨false, rfl, iff_of_false (by simp) (fun h => by have h8 := h.1; have h9 := h.2.1; omega), m0.below⟩
 intro hb21 Hz; try simp only [QQ, Qax] at hb21
 refine wcf Hz ?_
 refine zss (hK0 _ _ ?_)
 refine wsk fun K2 hK2 => ?_
 replace Hz := Hz.oz [0, 1, 2, 6, 12, 16]
 refine regS Hz (.assign rfl .nil) fun Az Hz => ?_
 refine wp_block ?_
 refine wp_loop_ghost (fun g a w => ∃ k : Nat, k ≤ l.length ∧ g = l.length - k ∧ ItPre bl sz l k ∧ Has 64 [(0, .int .i64 bl), (1, .int .i64 sz), (2, .slice p l.length c), (7, .int .i64 k)] a ∧ MemOk (cn w0) w0 [] w) (l.length) ?_ ?_
 · exact ⟨0, Nat.zero_le _, rfl, (fun j hj => by omega), Hz.only [0, 1, 2, 7], m0.only []⟩
 clear Hz m0
 rintro g Az w26 ⟨k, hkl, hg, hall, Hz, m26⟩
 refine wsk fun K3 hK3 => ?_
 refine regS Hz (.move rfl <| .move rfl <| .len rfl U51 <| .lss rfl rfl .nil) fun Az Hz => ?_
 refine bc Hz 20 ?_ ?_
 ·
  intro hb31 Hz; try simp only [QQ, Qax] at hb31
  have hk : k < l.length := by omega
  obtain ⟨⟨xb, xd⟩, hes⟩ : ∃ e, l[k]? = some e := ⟨_, List.getElem?_eq_getElem hk⟩
  refine wct Hz ?_
  refine zss (hK3 _ _ ?_)
  refine wsk fun K4 hK4 => ?_
  refine wp_block ?_
  refine wsk fun K5 hK5 => ?_
  refine zsr fun K6 hK6 => ?_
  refine goCh Hz (.move rfl <| .move rfl .nil) fun Az Hz => ?_
  obtain ⟨gx37, ox37, vx37, hp37, hl37, hR37, hrg37⟩ := h0.extA (k) (r := [.v (.int .i64 xb), .ns .u8 xd]) (itD_get hes)
  revert Hz
  cases hp37
  rcases hR37 with _ | ⟨hd37_0, _ | ⟨hd37_1, _ | _⟩⟩
  obtain rfl := hd37_0.v_out
  clear hd37_0
  obtain ⟨p38, c38, hv38, hw38⟩ := hd37_1.ns_shape; subst hv38
  intro Hz
  refine goCh Hz (.c rfl (fun _ h => y_idx h rfl rfl U51 fct31 (k) rfl hk) <| .fieldAddrQ 0 rfl U50 rfl (s := 0) (by kernel_rfl) rfl <| .loadAt1 (hrg37 m26 rfl) (q := 0) rfl rfl rfl U3 rfl <| .lss rfl rfl <| .move rfl .nil) fun Az Hz => ?_
  refine bc Hz 29 ?_ ?_
  ·
   intro hb44 Hz; try simp only [QQ, Qax] at hb44
   refine gz hK6 Hz (.sk <| .sk <| .sk <| .sk <| .sk <| .sk <| .sk <| .pickT rfl rfl <| .move rfl <| .sk <| .sk <| .sk <| .sk <| .sk <| .sk <| .sk <| .sk <| .pickT rfl rfl <| .nil) fun Az Hz => ?_
   refine wct Hz ?_
   replace Hz := Hz.oz [0, 1, 2, 7, 20, 29, 38, 47]
   refine regS Hz (.assign rfl .nil) fun Az Hz => ?_
   refine rt1 Hz ?_
   exact ⟨false, rfl, iff_of_false (by simp) (fun h => by have h9 := h.2.2 k hk; rw [getI hes] at h9; dsimp only at h9; omega), m26.below⟩
  intro hb44 Hz; try simp only [QQ, Qax] at hb44
  refine goCh Hz (.moveZ rfl <| .moveZ rfl .nil) fun Az Hz => ?_
  obtain ⟨gx67, ox67, vx67, hp67, hl67, hR67, hrg67⟩ := h0.extA (k) (r := [.v (.int .i64 xb), .ns .u8 xd]) (itD_get hes)
  revert Hz
  cases hp67
  rcases hR67 with _ | ⟨hd67_0, _ | ⟨hd67_1, _ | _⟩⟩
  obtain rfl := hd67_0.v_out
  clear hd67_0
  obtain ⟨p68, c68, hv68, hw68⟩ := hd67_1.ns_shape; subst hv68
  intro Hz
  refine goCh Hz (.g rfl rfl rfl rfl (fun _ h => y_idx h rfl rfl U51 fct31 (k) rfl hk) <| .fieldAddrQZ 0 rfl U50 rfl (s := 0) (by kernel_rfl) rfl <| .loadAt1Z (hrg67 m26 rfl) (q := 0) rfl rfl rfl U3 rfl <| .moveZ rfl <| .geqZ rfl rfl <| .pickF rfl rfl <| .move rfl .nil) fun Az Hz => ?_
  refine bc Hz 38 ?_ ?_
  ·
   intro hb76 Hz; try simp only [QQ, Qax] at hb76
   refine gz hK6 Hz (.sk <| .sk <| .sk <| .sk <| .sk <| .sk <| .sk <| .sk <| .pickT rfl rfl <| .nil) fun Az Hz => ?_
   refine wct Hz ?_
   replace Hz := Hz.oz [0, 1, 2, 7, 20, 29, 38, 47]
   refine regS Hz (.assign rfl .nil) fun Az Hz => ?_
   refine rt1 Hz ?_
   exact ⟨false, rfl, iff_of_false (by simp) (fun h => by have h9 := h.2.2 k hk; rw [getI hes] at h9; dsimp only at h9; omega), m26.below⟩
  intro hb76 Hz; try simp only [QQ, Qax] at hb76
  refine goCh Hz (.moveZ rfl <| .moveZ rfl .nil) fun Az Hz => ?_
  obtain ⟨gx90, ox90, vx90, hp90, hl90, hR90, hrg90⟩ := h0.extA (k) (r := [.v (.int .i64 xb), .ns .u8 xd]) (itD_get hes)
  revert Hz
  cases hp90
  rcases hR90 with _ | ⟨hd90_0, _ | ⟨hd90_1, _ | _⟩⟩
  obtain rfl := hd90_0.v_out
  clear hd90_0
  obtain ⟨p91, c91, hv91, hw91⟩ := hd90_1.ns_shape; subst hv91
  intro Hz
  refine gz hK6 Hz (.g rfl rfl rfl rfl (fun _ h => y_idx h rfl rfl U51 fct31 (k) rfl hk) <| .fieldAddrQZ 1 rfl U50 rfl (s := 0) (by kernel_rfl) rfl <| .loadAt1Z (hrg90 m26 rfl) (q := 1) rfl rfl rfl U22 rfl <| .lenZ rfl U22 <| .moveZ rfl <| .neqZ rfl rfl <| .pickF rfl rfl <| .nil) fun Az Hz => ?_
  refine bc Hz 47 ?_ ?_
  ·
   intro hb99 Hz; try simp only [QQ, Qax] at hb99
   refine wct Hz ?_
   replace Hz := Hz.oz [0, 1, 2, 7, 20, 29, 38, 47]
   refine regS Hz (.assign rfl .nil) fun Az Hz => ?_
   refine rt1 Hz ?_
   exact ⟨false, rfl, iff_of_false (by simp) (fun h => by have h9 := h.2.2 k hk; rw [getI hes] at h9; dsimp only at h9; omega), m26.below⟩
  intro hb99 Hz; try simp only [QQ, Qax] at hb99
  refine wcf Hz ?_
  refine zss (hK5 _ _ ?_)
  replace Hz := Hz.oz [0, 1, 2, 7, 20, 29, 38, 47]
  refine regS Hz (.assign rfl .nil) fun Az Hz => ?_
  refine wp_block ?_
  refine wp_loop_ghost (fun g a w => ∃ j : Nat, j ≤ k ∧ g = k - j ∧ (∀ i, i < j → (l.getD i i0).1 ≠ xb) ∧ Has 64 [(0, .int .i64 bl), (1, .int .i64 sz), (2, .slice (some ⟨gx37, ox37, none⟩) l.length c), (7, .int .i64 k), (8, .int .i64 j)] a ∧ MemOk (cn w0) w0 [] w) (k) ?_ ?_
  · exact ⟨0, Nat.zero_le _, rfl, (fun i hi => by omega), Hz.only [0, 1, 2, 7, 8], m26.only []⟩
  clear Hz m26
  rintro g Az w104 ⟨j, hjk, hg2, hall2, Hz, m104⟩
  refine wsk fun K7 hK7 => ?_
  refine regS Hz (.move rfl <| .move rfl <| .lss rfl rfl .nil) fun Az Hz => ?_
  refine bc Hz 50 ?_ ?_
  ·
   intro hb108 Hz; try simp only [QQ, Qax] at hb108
   have hj : j < k := by omega
   obtain ⟨⟨yb, yd⟩, hej⟩ : ∃ e, l[j]? = some e := ⟨_, List.getElem?_eq_getElem (by omega)⟩
   refine wct Hz ?_
   refine zss (hK7 _ _ ?_)
   refine wsk fun K8 hK8 => ?_
   refine wp_block ?_
   refine wsk fun K9 hK9 => ?_
   obtain ⟨gx110, ox110, vx110, hp110, hl110, hR110, hrg110⟩ := h0.extA (j) (r := [.v (.int .i64 yb), .ns .u8 yd]) (itD_get hej)
   revert Hz
   cases hp110
   rcases hR110 with _ | ⟨hd110_0, _ | ⟨hd110_1, _ | _⟩⟩
   obtain rfl := hd110_0.v_out
   clear hd110_0
   obtain ⟨p111, c111, hv111, hw111⟩ := hd110_1.ns_shape; subst hv111
   intro Hz
   obtain ⟨gx113, ox113, vx113, hp113, hl113, hR113, hrg113⟩ := h0.extA (k) (r := [.v (.int .i64 xb), .ns .u8 xd]) (itD_get hes)
   revert Hz
   cases hp113
   rcases hR113 with _ | ⟨hd113_0, _ | ⟨hd113_1, _ | _⟩⟩
   obtain rfl := hd113_0.v_out
   clear hd113_0
   obtain ⟨p114, c114, hv114, hw114⟩ := hd113_1.ns_shape; subst hv114
   intro Hz
   have m115 : MemOk _ _ [] _ := m104.only []; clear m104
   refine region_p 11 (B := []) (m115.to trivial) m115 (by kernel_rfl) (fun w116 hP116 m116 => ?_); clear m115
   refine goR hP116 [0, 1, 2, 3, 4, 5, 6, 7, 8, 9, 10] [4, 9] 11 0 2047 Hz (m116.to trivial) (.move rfl <| .move rfl <| .p (fun _ _ h => y_idx h rfl rfl U51 fct31 (j) rfl (by omega)) <| .fieldAddrQ 0 rfl U50 rfl (s := 0) (by kernel_rfl) rfl <| .loadAt1 (fun _ h => (hrg110 h rfl)) (q := 0) rfl rfl rfl U3 rfl <| .move rfl <| .move rfl <| .p (fun _ _ h => y_idx h rfl rfl U51 fct31 (k) rfl hk) <| .fieldAddrQ 0 rfl U50 rfl (s := 0) (by kernel_rfl) rfl <| .loadAt1 (fun _ h => (hrg113 h rfl)) (q := 0) rfl rfl rfl U3 rfl <| .eql rfl rfl .nil) fun Az Hz => ?_
   refine wpAnyE_done (by kernel_rfl) ?_ _
   refine hK9 _ _ ?_
   refine bc Hz 63 ?_ ?_
   ·
    intro hb128 Hz; try simp only [QQ, Qax] at hb128
    refine wct Hz ?_
    replace Hz := Hz.oz [0, 1, 2, 7, 8, 63]
    refine regS Hz (.assign rfl .nil) fun Az Hz => ?_
    refine rt1 Hz ?_
    exact ⟨false, rfl, iff_of_false (by simp) (fun h => by have h9 := (h.2.2 k hk).2.2.2; rw [getI hes] at h9; exact h9 ⟨_, List.mem_of_getElem? (i := j) (by rw [List.getElem?_take_of_lt hj]; exact hej), hb128⟩), m116.below⟩
   intro hb128 Hz; try simp only [QQ, Qax] at hb128
   refine wcf Hz ?_
   refine zss (hK8 _ _ ?_)
   replace Hz := Hz.oz [0, 1, 2, 7, 8, 63]
   refine wp_region_lit ?_
   refine goCh Hz (.move rfl <| .inc (j + 1) <| .assign rfl .nil) fun Az Hz => ?_
   refine wpList_nil ?_
   show ∃ n', n' < _ ∧ _
   exact ⟨k - (j + 1), by omega, j + 1, by omega, rfl, ne_snoc hall2 hej hb128, Hz.only [0, 1, 2, 7, 8], m116.only []⟩
  intro hb108 Hz; try simp only [QQ, Qax] at hb108
  have hjk2 : j = k := by omega
  rw [hjk2] at hall2
  refine wcf Hz ?_
  refine wp_exit ?_
  refine hK4 _ _ ?_
  refine wp_region_lit ?_
  refine goCh Hz (.move rfl <| .inc (k + 1) <| .assign rfl .nil) fun Az Hz => ?_
  refine wpList_nil ?_
  show ∃ n', n' < _ ∧ _
  exact ⟨l.length - (k + 1), by omega, k + 1, by omega, rfl, itpre_snoc hall hes (by omega) (by omega) (notin_take hall2 (by omega)), Hz.only [0, 1, 2, 7], m104.only []⟩
 intro hb31 Hz; try simp only [QQ, Qax] at hb31
 revert Hz
 obtain rfl : k = l.length := by omega
 intro Hz
 refine wcf Hz ?_
 refine wp_exit ?_
 refine hK2 _ _ ?_
 refine regS Hz (.assign rfl .nil) fun Az Hz => ?_
 refine rt1 Hz ?_
 exact ⟨true, rfl, iff_of_true rfl ⟨by omega, by omega, hall⟩, m26.below⟩
theorem rlen_any (vo bl sz pe to ne fl : Int) (hi : Bool) (pp pn pw : Option Addr) (np cp nn cn nw cw : Nat) (w0 : World) :
   Calls Try.prog 9 #[.agg #[.int .i64 vo, .int .i64 bl, .int .i64 sz, .int .i64 pe, .slice pp np cp, .int .i64 to, .int .i64 ne, .bool hi, .int .i64 fl, .slice pn nn cn, .slice pw nw cw]] w0 fun e w' => e = .returned (.int .i64 (nw : Int)) ∧ Below w0.heap.size w0 w' := by
 refine ent1 Try.func9 rfl Try.ntmps9 fun Az Hz => ?_
 have m0 := MemOk.start (fun _ => False) w0
 refine zsr fun K0 hK0 => ?_
 refine plz (e_box Hz m0 4 (cs := [_, _, _, _, _, _, _, _, _, _, _]) rfl rfl rfl fun g1 Az w2 Hz m2 _ _ => ?_)
 refine gz hK0 Hz (.assign rfl .nil) fun Az Hz => ?_
 refine regS Hz (.fa 10 rfl U28 <| .lb m2 4 U26 rfl rfl rfl <| .len rfl U26 <| .assign rfl .nil) fun Az Hz => ?_
 refine rt1 Hz ?_
 exact ⟨rfl, m2.below⟩
theorem rlow_any (vo bl sz pe to ne fl : Int) (hi : Bool) (pins : List Int) (pp pn pw : Option Addr) (np cp cn9 nw cw : Nat) (w0 : World) (h1 : Rd (fun _ => True) w0 (.slice pn pins.length cn9) (.ns .i64 pins)) (hp : pins.length ≤ 1000000) :
   Calls Try.prog 96 #[.agg #[.int .i64 vo, .int .i64 bl, .int .i64 sz, .int .i64 pe, .slice pp np cp, .int .i64 to, .int .i64 ne, .bool hi, .int .i64 fl, .slice pn pins.length cn9, .slice pw nw cw]] w0 fun e w' => e = .returned (.int .i64 (lowL nw pins)) ∧ Below w0.heap.size w0 w' := by
 refine ent1 Try.func96 rfl Try.ntmps96 fun Az Hz => ?_
 have m0 := MemOk.start (fun _ => False) w0
 refine zsr fun K0 hK0 => ?_
 refine plz (e_box Hz m0 20 (cs := [_, _, _, _, _, _, _, _, _, _, _]) rfl rfl rfl fun g1 Az w2 Hz m2 _ _ => ?_)
 refine gz hK0 Hz (.assign rfl .nil) fun Az Hz => ?_
 refine zsr fun K1 hK1 => ?_
 refine goCh Hz (.loadBR m2 (i := 20) rfl rfl U28 rfl fct17 (by simp) (by dsimp only [List.drop, List.take] <;> rfl) .nil) fun Az Hz => ?_
 refine plz (ecb Hz Try.func9 rfl m2 (rlen_any _ _ _ _ _ _ _ _ _ _ _ _ _ _ _ _ _ _) fun Az w6 Hz m7 => ?_)
 refine gz hK1 Hz (.assign rfl .nil) fun Az Hz => ?_
 refine wsk fun K2 hK2 => ?_
 refine regS Hz (.assign rfl .nil) fun Az Hz => ?_
 refine wp_block ?_
 refine wp_loop_ghost (fun g a w => ∃ (k B : Nat), k ≤ pins.length ∧ g = pins.length - k ∧ Has 22 [(1, .pointer (some ⟨B, 0, none⟩)), (3, .int .i64 (lowL nw (pins.take k))), (4, .int .i64 k)] a ∧ MemOk (cn w0) w0 [(9, .box B 28 [.int .i64 vo, .int .i64 bl, .int .i64 sz, .int .i64 pe, .slice pp np cp, .int .i64 to, .int .i64 ne, .bool hi, .int .i64 fl, .slice pn pins.length cn9, .slice pw nw cw])] w) (pins.length) ?_ ?_
 · exact ⟨0, _, Nat.zero_le _, rfl, Hz.only [1, 3, 4], m7.ren [(9, 20)] (by decide)⟩
 clear Hz m7
 rintro g Az w11 ⟨k, B, hkl, hg, Hz, m11⟩
 refine wsk fun K3 hK3 => ?_
 refine regS Hz (.move rfl <| .fa 9 rfl U28 <| .lb m11 9 U25 rfl rfl rfl <| .len rfl U25 <| .lss rfl rfl .nil) fun Az Hz => ?_
 refine bc Hz 11 ?_ ?_
 ·
  intro hb17 Hz; try simp only [QQ, Qax] at hb17
  have hk : k < pins.length := by omega
  refine wct Hz ?_
  refine zss (hK3 _ _ ?_)
  refine wsk fun K4 hK4 => ?_
  refine wp_block ?_
  refine wp_region_lit ?_
  refine goCh Hz (.move rfl <| .fa 9 rfl U28 <| .lb m11 9 U25 rfl rfl rfl <| .move rfl .nil) fun Az Hz => ?_
  obtain ⟨gx22, ox22, hp22, hl22, hrg22⟩ := h1.extN (k) hk
  revert Hz
  cases hp22
  intro Hz
  refine gz hK4 Hz (.c rfl (fun _ h => y_idx h rfl rfl U25 fct9 (k) rfl hk) <| .loadAt1 (hrg22 m11 rfl) (q := 0) rfl rfl rfl U2 rfl <| .c rfl (fun _ h => y_min h rfl rfl rfl) <| .assign rfl <| .nil) fun Az Hz => ?_
  replace Hz := Hz.oz [1, 3, 4]
  refine wp_region_lit ?_
  refine goCh Hz (.move rfl <| .inc (k + 1) <| .assign rfl .nil) fun Az Hz => ?_
  refine wpList_nil ?_
  show ∃ n', n' < _ ∧ _
  rw [low_snoc hk] at Hz
  exact ⟨pins.length - (k + 1), by omega, k + 1, _, by omega, rfl, Hz.only [1, 3, 4], m11.only [9]⟩
 intro hb17 Hz; try simp only [QQ, Qax] at hb17
 revert Hz
 obtain rfl : k = pins.length := by omega
 intro Hz
 refine wcf Hz ?_
 refine wp_exit ?_
 refine hK2 _ _ ?_
 refine regS Hz (.move rfl <| .assign rfl .nil) fun Az Hz => ?_
 refine rt1 Hz ?_
 exact ⟨by rw [List.take_length], m11.below⟩
theorem rown_any (es : List (Int × List Int)) (p0 : Option Addr) (c0 nn : Nat) (w0 : World) (h0 : Rd (fun _ => True) w0 (.slice p0 nn c0) (.l 2 (es.map itD))) (hl : es.length ≤ 1000000) (hok : ItsOk es) :
   Calls Try.prog 99 #[.slice p0 nn c0] w0 fun e w' => ∃ p c, e = .returned (.slice p (es.map itD).length c) ∧ Rd (New w0) w' (.slice p (es.map itD).length c) (.l 2 (es.map itD)) ∧ Below w0.heap.size w0 w' := by
 obtain rfl : nn = es.length := by obtain ⟨pq, cq, hv, _⟩ := h0.l_shape; injection hv with _ e2 _; rw [List.length_map] at e2; exact e2
 refine ent1 Try.func99 rfl Try.ntmps99 fun Az Hz => ?_
 have m0 := MemOk.start (fun _ => False) w0
 refine regS Hz (.assign rfl .nil) fun Az Hz => ?_
 refine regS Hz (.assign rfl .nil) fun Az Hz => ?_
 refine wsk fun K0 hK0 => ?_
 refine regS Hz (.assign rfl .nil) fun Az Hz => ?_
 refine wp_block ?_
 refine wp_loop_ghost (fun g a w => ∃ (k : Nat) (p : Option Addr) (c : Nat), k ≤ es.length ∧ g = es.length - k ∧ Has 27 [(0, .slice p0 es.length c0), (3, .slice p ((es.take k).map itD).length c), (4, .int .i64 k)] a ∧ MemOk (cn w0) w0 [(9, .row (.slice p ((es.take k).map itD).length c) 50 2 ((es.take k).map itD))] w) (es.length) ?_ ?_
 · have mz := m0.nilR 9 50 2
   exact ⟨0, _, _, Nat.zero_le _, rfl, Hz.only [0, 3, 4], mz.only [9]⟩
 clear Hz m0
 rintro g Az w4 ⟨k, p, c, hkl, hg, Hz, m4⟩
 refine wsk fun K1 hK1 => ?_
 refine regS Hz (.move rfl <| .move rfl <| .len rfl U51 <| .lss rfl rfl .nil) fun Az Hz => ?_
 refine bc Hz 8 ?_ ?_
 ·
  intro hb9 Hz; try simp only [QQ, Qax] at hb9
  have hk : k < es.length := by omega
  obtain ⟨⟨xb, xd⟩, hes⟩ : ∃ e, es[k]? = some e := ⟨_, List.getElem?_eq_getElem hk⟩
  have hed := hok _ (List.mem_of_getElem? hes)
  dsimp only at hed
  refine wct Hz ?_
  refine zss (hK1 _ _ ?_)
  refine wsk fun K2 hK2 => ?_
  refine wp_block ?_
  obtain ⟨gx11, ox11, vx11, hp11, hl11, hR11, hrg11⟩ := h0.extA (k) (r := [.v (.int .i64 xb), .ns .u8 xd]) (itD_get hes)
  revert Hz
  cases hp11
  rcases hR11 with _ | ⟨hd11_0, _ | ⟨hd11_1, _ | _⟩⟩
  obtain rfl := hd11_0.v_out
  clear hd11_0
  obtain ⟨p12, c12, hv12, hw12⟩ := hd11_1.ns_shape; subst hv12
  intro Hz
  obtain ⟨gx14, ox14, vx14, hp14, hl14, hR14, hrg14⟩ := h0.extA (k) (r := [.v (.int .i64 xb), .ns .u8 xd]) (itD_get hes)
  revert Hz
  cases hp14
  rcases hR14 with _ | ⟨hd14_0, _ | ⟨hd14_1, _ | _⟩⟩
  obtain rfl := hd14_0.v_out
  clear hd14_0
  obtain ⟨p15, c15, hv15, hw15⟩ := hd14_1.ns_shape; subst hv15
  intro Hz
  have m16 := m4.oz [9]
  refine region_p 14 (B := [(9, _)]) (m16.to ⟨il, trivial⟩) m16 (by kernel_rfl) (fun w17 hP17 m17 => ?_); clear m16
  refine goR hP17 [0, 1, 2, 3, 4, 5, 6, 7, 8, 9, 10] [5, 10] 11 0 2047 Hz (m17.to ⟨il, trivial⟩) (.move rfl <| .move rfl <| .move rfl <| .p (fun _ _ h => y_idx h rfl rfl U51 fct31 (k) rfl hk) <| .fieldAddrQ 0 rfl U50 rfl (s := 0) (by kernel_rfl) rfl <| .loadAt1 (fun _ h => (hrg11 h rfl)) (q := 0) rfl rfl rfl U3 rfl <| .move rfl <| .move rfl <| .p (fun _ _ h => y_idx h rfl rfl U51 fct31 (k) rfl hk) <| .fieldAddrQ 1 rfl U50 rfl (s := 0) (by kernel_rfl) rfl <| .loadAt1 (fun _ h => (hrg14 h rfl)) (q := 1) rfl rfl rfl U22 rfl .nil) fun Az Hz => ?_
  refine so 11 ?_
  refine e_app0M Hz m17 102 rfl rfl (hd14_1.now' m17 rfl).ns_out.nums U22 fct0 (by decide) (by omega) rfl fun p29 c29 Az w30 Hz m30 => ?_
  refine ⟨m30.to ⟨il, trivial⟩, ?_⟩
  refine goA hP17 [12] 1 4095 8191 Hz (m30.to ⟨il, trivial⟩) (.build rfl fct7 fl50ro rfl (by dsimp only [setL, List.set] <;> rfl) .nil) fun Az Hz => ?_
  have m33 := m30.freezeN 102 rfl
  refine so 13 ?_
  refine e_litR Hz m33 103 (mm := 2) rfl (.cons rfl rfl (.cons (.v _) (.cons (m33.rd (i := 102) rfl) .nil)) .nil) U51 fct1 rfl rfl rfl rfl rfl fun g32 Az w34 Hz m34 => ?_
  refine ⟨m34.to ⟨il, trivial⟩, ?_⟩
  have m36 := m34.freezeR 103 rfl
  refine se 14 ?_
  refine e_appR Hz m36 9 rfl rfl rfl (m36.rd (i := 103) rfl) U51 fct1 rfl rfl (by decide) (by simp; omega) rfl fun p35 c35 Az w37 Hz m37 => ?_
  refine goB hP17 [15] 1 32767 65535 Hz (.assign rfl .nil) fun Az Hz => ?_
  refine wpAnyE_done (by kernel_rfl) ?_ _
  refine hK2 _ _ ?_
  replace Hz := Hz.oz [0, 3, 4]
  refine wp_region_lit ?_
  refine goCh Hz (.move rfl <| .inc (k + 1) <| .assign rfl .nil) fun Az Hz => ?_
  refine wpList_nil ?_
  show ∃ n', n' < _ ∧ _
  have hE : (es.take k).map itD ++ [[D.v (.int .i64 xb), .ns .u8 xd]] = (es.take (k + 1)).map itD := by rw [take_snoc hes, List.map_append]; rfl
  rw [hE] at m37 Hz
  exact ⟨es.length - (k + 1), by omega, k + 1, _, _, by omega, rfl, Hz.only [0, 3, 4], m37.only [9]⟩
 intro hb9 Hz; try simp only [QQ, Qax] at hb9
 revert Hz
 obtain rfl : k = es.length := by omega
 intro Hz
 refine wcf Hz ?_
 refine wp_exit ?_
 refine hK0 _ _ ?_
 refine regS Hz (.move rfl <| .assign rfl .nil) fun Az Hz => ?_
 refine rt1 Hz ?_
 rw [List.take_length] at *
 have m45 := m4.freezeR 9 rfl
 exact ⟨_, _, rfl, m45.outF (i := 9) rfl, m45.below⟩
theorem rwrite_fr (X : Cx) (vo bl sz pe to ne fl : Int) (hi : Bool) (place pins : List Int) (ws : List (Int × List (Int × List Int))) (items : List (Int × List Int)) (pp pn pw : Option Addr) (cp cn9 cw : Nat) (pi : Option Addr) (ci : Nat) (w0 : World) (hl : ws.length ≤ 900000) (hil : items.length ≤ 1000000) (hio : ItsOk items) (m0 : MemOk X w0 [(1, .dat (.slice pp place.length cp) (.ns .i64 place)), (2, .dat (.slice pn pins.length cn9) (.ns .i64 pins)), (3, .dat (.slice pw (ws.map wrD).length cw) (.l 2 (ws.map wrD))), (4, .dat (.slice pi items.length ci) (.l 2 (items.map itD)))] w0) :
   Calls Try.prog 95 #[.agg #[.int .i64 vo, .int .i64 bl, .int .i64 sz, .int .i64 pe, .slice pp place.length cp, .int .i64 to, .int .i64 ne, .bool hi, .int .i64 fl, .slice pn pins.length cn9, .slice pw (ws.map wrD).length cw], .slice pi items.length ci] w0 fun e w' => ∃ p c, e = .returned (.agg #[.int .i64 vo, .int .i64 bl, .int .i64 sz, .int .i64 pe, .slice pp place.length cp, .int .i64 to, .int .i64 ne, .bool hi, .int .i64 fl, .slice pn pins.length cn9, .slice p ((ws ++ [((ws.length : Int) + 1, items)]).map wrD).length c]) ∧ MemOk X w0 [(1, .dat (.slice pp place.length cp) (.ns .i64 place)), (2, .dat (.slice pn pins.length cn9) (.ns .i64 pins)), (3, .dat (.slice pw (ws.map wrD).length cw) (.l 2 (ws.map wrD))), (4, .dat (.slice pi items.length ci) (.l 2 (items.map itD))), (7, .dat (.slice p ((ws ++ [((ws.length : Int) + 1, items)]).map wrD).length c) (.l 2 ((ws ++ [((ws.length : Int) + 1, items)]).map wrD)))] w' := by
 refine ent2 Try.func95 rfl Try.ntmps95 fun Az Hz => ?_
 refine zsr fun K0 hK0 => ?_
 refine plz (e_box Hz m0 20 (cs := [_, _, _, _, _, _, _, _, _, _, _]) rfl rfl rfl fun g1 Az w2 Hz m2 _ _ => ?_)
 refine plz (e_alloc Hz m2 21 fct20 rfl fun g3 Az w4 Hz m4 _ _ => ?_)
 refine znl (hK0 _ _ ?_)
 refine wsk fun K1 hK1 => ?_
 have m5 := m4.oz [1, 2, 3, 4, 20, 21]
 refine region_p 12 (B := [(1, _), (2, _), (3, _), (4, _), (20, _), (21, _)]) (m5.to ⟨il, il, il, il, il, il, trivial⟩) m5 (by kernel_rfl) (fun w6 hP6 m6 => ?_); clear m5
 refine goR hP6 [0, 1, 3, 6] [1, 3] 4 0 75 Hz (m6.to ⟨il, il, il, il, il, il, trivial⟩) (.fa 10 rfl U28 <| .lb hh 20 U26 rfl rfl rfl <| .loadBR hh (i := 20) rfl rfl U28 rfl fct17 (by simp) (by dsimp only [List.drop, List.take] <;> rfl) <| .move rfl .nil) fun Az Hz => ?_
 have m11 := m6.nilR 22 53 2
 refine so 2 ?_
 refine e_appR Hz m11 22 rfl rfl rfl (m11.rd (i := 3) rfl) U26 fct2 rfl rfl (by decide) (by simp; omega) rfl fun p12 c12 Az w13 Hz m13 => ?_
 refine ⟨m13.to ⟨il, il, il, il, il, il, trivial⟩, ?_⟩
 refine so 4 ?_
 refine ecb Hz Try.func9 rfl m13 (rlen_any _ _ _ _ _ _ _ _ _ _ _ _ _ _ _ _ _ _) fun Az w14 Hz m15 => ?_
 refine ⟨m15.to ⟨il, il, il, il, il, il, trivial⟩, ?_⟩
 refine goA hP6 [5] 1 95 127 Hz (m15.to ⟨il, il, il, il, il, il, trivial⟩) (.add rfl rfl (r := (ws.length : Int) + 1) (by rw [List.length_map]; exact IntWalk.i64_in _ (by omega)) .nil) fun Az Hz => ?_
 refine so 7 ?_
 refine ecl Hz Try.func99 rfl (rown_any items _ _ _ _ ((m15.rd (i := 4) rfl).any) hil hio) ?_
 rintro e w18 ⟨p18, c18, rfl, hd18, hb18⟩
 have m19 := m15.callF 23 rfl hb18 hd18
 refine ⟨_, rfl, ?_⟩; intro Az Hz
 refine ⟨m19.to ⟨il, il, il, il, il, il, trivial⟩, ?_⟩
 refine goA hP6 [8] 1 255 511 Hz (m19.to ⟨il, il, il, il, il, il, trivial⟩) (.build rfl fct8 fl53rr rfl (by dsimp only [setL, List.set] <;> rfl) .nil) fun Az Hz => ?_
 refine so 9 ?_
 refine e_litR Hz m19 24 (mm := 2) rfl (.cons rfl rfl (.cons (.v _) (.cons (m19.rd (i := 23) rfl) .nil)) .nil) U26 fct2 rfl rfl rfl rfl rfl fun g22 Az w23 Hz m23 => ?_
 refine ⟨m23.to ⟨il, il, il, il, il, il, trivial⟩, ?_⟩
 have m25 := m23.freezeR 24 rfl
 refine so 10 ?_
 refine e_appR Hz m25 22 rfl rfl rfl (m25.rd (i := 24) rfl) U26 fct2 rfl rfl (by decide) (by simp; omega) rfl fun p24 c24 Az w26 Hz m26 => ?_
 refine ⟨m26.to ⟨il, il, il, il, il, il, trivial⟩, ?_⟩
 refine goA hP6 [11] 1 2047 4095 Hz (m26.to ⟨il, il, il, il, il, il, trivial⟩) (.fa 10 rfl U28 .nil) fun Az Hz => ?_
 refine se 12 ?_
 refine st1 Hz m26 20 fct10 fun w28 m28 _ => ?_
 refine wpAnyE_done (by kernel_rfl) ?_ _
 refine hK1 _ _ ?_
 replace Hz := Hz.oz [2, 4]
 refine zsr fun K2 hK2 => ?_
 refine goCh Hz (.loadBR m28 (i := 20) rfl rfl U28 rfl fct17 (by simp) (by dsimp only [List.drop, List.take] <;> rfl) .nil) fun Az Hz => ?_
 refine plz (stw Hz m28 21 fct17 fun w32 m32 _ => ?_)
 refine znl (hK2 _ _ ?_)
 refine rtd (retC (fn := Try.f95) Hz m32 (i := 21) rfl rfl rfl U28 rfl fct17 ?_)
 have hE : [] ++ ws.map wrD ++ [[D.v (.int .i64 ((ws.length : Int) + 1)), .l 2 (items.map itD)]] = (ws ++ [((ws.length : Int) + 1, items)]).map wrD := by rw [List.map_append]; rfl
 rw [hE] at m32 ⊢
 have m33 := m32.freezeR 22 rfl
 exact ⟨_, _, rfl, m33.ren [(1, 1), (2, 2), (3, 3), (4, 4), (7, 22)] (by decide)⟩
end Go.Proofs.Yteglmahnkfgelaa.K
end
section
namespace Go.Proofs.Yteglmahnkfgelaa.K
open Go.ChangeShapes Go.WideShapes Go.ChangeAt Go.RowKit
set_option linter.unusedVariables false
set_option linter.unusedSimpArgs false
theorem leb_step {j : Nat} {u : Int} (hj : j ≤ 9) (hu : u < 2 ^ (64 - 7 * j)) (h : 128 ≤ u) : j + 1 ≤ 9 ∧ u / 128 < 2 ^ (64 - 7 * (j + 1)) := by
 have hc : j = 0 ∨ j = 1 ∨ j = 2 ∨ j = 3 ∨ j = 4 ∨ j = 5 ∨ j = 6 ∨ j = 7 ∨ j = 8 ∨ j = 9 := by omega
 rcases hc with rfl | rfl | rfl | rfl | rfl | rfl | rfl | rfl | rfl | rfl <;> simp at hu ⊢ <;> omega
set_option maxRecDepth 100000
set_option maxHeartbeats 4000000
end Go.Proofs.Yteglmahnkfgelaa.K
end
section
namespace Go.Proofs.Yteglmahnkfgelaa.K
open Go.ChangeShapes Go.WideShapes Go.ChangeAt Go.RowKit
set_option linter.unusedVariables false
set_option linter.unusedSimpArgs false
theorem wrapu (z : Int) : 0 ≤ IntKind.u64.wrap z := by
 have e : IntKind.u64.wrap z = z % 18446744073709551616 := by simp [IntKind.wrap, IntKind.signed, IntKind.bits]
 rw [e]; omega
set_option maxRecDepth 100000
set_option maxHeartbeats 4000000
theorem rfail (X : Cx) (B : Nat) (v : Value) (er cd : Int) (w0 : World) (m0 : MemOk X w0 [(1, .box B 145 [v, .int .i64 er])] w0) :
   Calls Try.prog 92 #[.pointer (some ⟨B, 0, none⟩), .int .i64 cd] w0 fun e w' => e = .returned (.tuple #[]) ∧ MemOk X w0 [(1, .box B 145 [.slice none 0 0, .int .i64 cd])] w' := by
 refine ent2 Try.func92 rfl Try.ntmps92 fun Az Hz => ?_
 refine wp_region_lit ?_
 refine goCh Hz (.move rfl <| .move rfl <| .move rfl <| .nilCheck rfl <| .fa 0 rfl U145 .nil) fun Az Hz => ?_
 refine plz (st1 Hz m0 1 fct16 fun w6 m6 _ => ?_)
 refine goCh Hz (.nilCheck rfl <| .fa 1 rfl U145 .nil) fun Az Hz => ?_
 refine plz (st1 Hz m6 1 fct22 fun w9 m9 _ => ?_)
 refine wpList_nil ?_
 try dsimp only [Exit.then]
 try refine out_here ?_
 refine (ret0 (fn := Try.f92) Hz rfl ?_)
 exact ⟨rfl, m9.only [1]⟩
theorem rnum (X : Cx) (B : Nat) (b : List Int) (er mx : Int) (p : Option Addr) (c : Nat) (w0 : World) (hb : b.length ≤ 1000000) (hbb : BytesL b) (hmx : 0 ≤ mx) (m0 : MemOk X w0 [(1, .box B 145 [.slice p b.length c, .int .i64 er]), (2, .dat (.slice p b.length c) (.ns .u8 b))] w0) :
   Calls Try.prog 82 #[.pointer (some ⟨B, 0, none⟩), .int .u64 mx] w0 fun e w' => ∃ (u : Int) (b' : List Int) (p' : Option Addr) (c' : Nat) (er' : Int), e = .returned (.int .u64 u) ∧ (0 ≤ u ∧ u ≤ mx) ∧ b'.length ≤ b.length ∧ BytesL b' ∧ MemOk X w0 [(1, .box B 145 [.slice p' b'.length c', .int .i64 er']), (2, .dat (.slice p' b'.length c') (.ns .u8 b'))] w' := by
 refine ent2 Try.func82 rfl Try.ntmps82 fun Az Hz => ?_
 refine regS Hz (.assign rfl .nil) fun Az Hz => ?_
 refine wsk fun K0 hK0 => ?_
 refine regS Hz (.move rfl <| .nilCheck rfl <| .fa 1 rfl U145 <| .lb m0 1 U3 rfl rfl rfl <| .neq rfl rfl .nil) fun Az Hz => ?_
 refine bc Hz 12 ?_ ?_
 ·
  intro hb7 Hz; try simp only [QQ, Qax] at hb7
  refine wct Hz ?_
  refine regS Hz (.assign rfl .nil) fun Az Hz => ?_
  refine rt1 Hz ?_
  exact ⟨0, b, _, _, _, rfl, ⟨by omega, by omega⟩, by omega, hbb, m0.ren [(1, 1), (2, 2)] (by decide)⟩
 intro hb7 Hz; try simp only [QQ, Qax] at hb7
 refine wcf Hz ?_
 refine zss (hK0 _ _ ?_)
 refine regS Hz (.assign rfl .nil) fun Az Hz => ?_
 refine wsk fun K1 hK1 => ?_
 refine regS Hz (.assign rfl .nil) fun Az Hz => ?_
 refine wp_block ?_
 refine wp_loop_ghost (fun g a w => ∃ (k : Nat) (u : Int), k ≤ b.length ∧ g = b.length - k ∧ 0 ≤ u ∧ Has 73 [(0, .pointer (some ⟨B, 0, none⟩)), (1, .int .u64 mx), (5, .int .u64 u), (6, .int .i64 k)] a ∧ MemOk X w0 [(1, .box B 145 [.slice p b.length c, .int .i64 er]), (2, .dat (.slice p b.length c) (.ns .u8 b))] w) (b.length) ?_ ?_
 · exact ⟨0, 0, Nat.zero_le _, rfl, Int.le_refl _, Hz.only [0, 1, 5, 6], m0.only [1, 2]⟩
 clear Hz m0
 rintro g Az w11 ⟨k, u, hkl, hg, hu, Hz, m11⟩
 refine wsk fun K2 hK2 => ?_
 refine regS Hz (.move rfl <| .move rfl <| .nilCheck rfl <| .fa 0 rfl U145 <| .lb m11 1 U22 rfl rfl rfl <| .len rfl U22 <| .lss rfl rfl .nil) fun Az Hz => ?_
 refine bc Hz 19 ?_ ?_
 ·
  intro hb19 Hz; try simp only [QQ, Qax] at hb19
  have hk : k < b.length := by omega
  refine wct Hz ?_
  refine zss (hK2 _ _ ?_)
  refine wsk fun K3 hK3 => ?_
  refine wp_block ?_
  replace Hz := Hz.oz [0, 1, 5, 6]
  refine zsr fun K4 hK4 => ?_
  refine goCh Hz (.move rfl <| .nilCheck rfl <| .fa 0 rfl U145 <| .lb m11 1 U22 rfl rfl rfl <| .move rfl .nil) fun Az Hz => ?_
  obtain ⟨b32, o32, hp32, m32⟩ := m11.openN (i := 2) rfl (k) hk 100 rfl
  revert Hz
  cases hp32
  intro Hz
  refine gz hK4 Hz (.c rfl (fun _ h => y_idx h rfl rfl U22 fct15 (k) rfl hk) <| .loadC0 m32 (i := 100) rfl rfl U5 rfl <| .assign rfl <| .nil) fun Az Hz => ?_
  refine wsk fun K5 hK5 => ?_
  replace Hz := Hz.oz [0, 1, 5, 6, 7]
  refine zsr fun K6 hK6 => ?_
  refine goCh Hz (.move rfl <| .eql rfl rfl <| .move rfl .nil) fun Az Hz => ?_
  refine bc Hz 31 ?_ ?_
  ·
   intro hb43 Hz; try simp only [QQ, Qax] at hb43
   refine gz hK6 Hz (.moveZ rfl <| .gtrZ rfl rfl <| .pickT rfl rfl <| .nil) fun Az Hz => ?_
   refine bc Hz 34 ?_ ?_
   ·
    intro hb47 Hz; try simp only [QQ, Qax] at hb47
    refine wct Hz ?_
    replace Hz := Hz.oz [0, 1, 5, 6, 7]
    refine zsr fun K7 hK7 => ?_
    refine goCh Hz (.move rfl .nil) fun Az Hz => ?_
    refine plz (ecl Hz Try.func92 rfl (rfail _ _ _ _ _ _ (m32.into [(1, 1)] (by decide) rfl)) ?_)
    rintro e w51 ⟨rfl, hm51⟩
    have mx51 := m32.back hm51 [(1, 1)] (by decide); clear hm51 m32
    have m51 := mx51.oz [1, 2, 100]
    refine ⟨_, rfl, ?_⟩; intro Az Hz
    refine znl (hK7 _ _ ?_)
    refine regS Hz (.assign rfl .nil) fun Az Hz => ?_
    refine rt1 Hz ?_
    have m54 := m51.dat 90 rfl (Rd.nilN _ _ .u8 none)
    exact ⟨0, [], _, _, _, rfl, ⟨by omega, by omega⟩, by simp, (fun _ h => by cases h), m54.ren [(1, 1), (2, 90)] (by decide)⟩
   intro hb47 Hz; try simp only [QQ, Qax] at hb47
   refine wcf Hz ?_
   refine zss (hK5 _ _ ?_)
   replace Hz := Hz.oz [0, 1, 5, 6, 7]
   refine regS Hz (.move rfl <| .move rfl <| .and rfl rfl rfl <| .conv rfl U5 U101 rfl <| .move rfl <| .mul rfl rfl (r := 7 * (k : Int)) (IntWalk.i64_in _ (by omega)) <| .shl rfl rfl (by omega) rfl <| .or rfl rfl rfl <| .assign rfl .nil) fun Az Hz => ?_
   replace Hz := Hz.oz [0, 1, 5, 6, 7]
   refine regS Hz (.move rfl <| .lss rfl rfl .nil) fun Az Hz => ?_
   refine bc Hz 46 ?_ ?_
   ·
    intro hb68 Hz; try simp only [QQ, Qax] at hb68
    refine wct Hz ?_
    refine wsk fun K8 hK8 => ?_
    refine zsr fun K9 hK9 => ?_
    refine goCh Hz (.move rfl <| .gtr rfl rfl <| .move rfl .nil) fun Az Hz => ?_
    refine bc Hz 49 ?_ ?_
    ·
     intro hb75 Hz; try simp only [QQ, Qax] at hb75
     refine gz hK9 Hz (.moveZ rfl <| .eqlZ rfl rfl <| .pickT rfl rfl <| .nil) fun Az Hz => ?_
     refine bc Hz 52 ?_ ?_
     ·
      intro hb79 Hz; try simp only [QQ, Qax] at hb79
      refine wct Hz ?_
      replace Hz := Hz.oz [0, 1, 5, 6]
      refine zsr fun K10 hK10 => ?_
      refine goCh Hz (.move rfl .nil) fun Az Hz => ?_
      refine plz (ecl Hz Try.func92 rfl (rfail _ _ _ _ _ _ (m32.into [(1, 1)] (by decide) rfl)) ?_)
      rintro e w83 ⟨rfl, hm83⟩
      have mx83 := m32.back hm83 [(1, 1)] (by decide); clear hm83 m32
      have m83 := mx83.oz [1, 2, 100]
      refine ⟨_, rfl, ?_⟩; intro Az Hz
      refine znl (hK10 _ _ ?_)
      refine regS Hz (.assign rfl .nil) fun Az Hz => ?_
      refine rt1 Hz ?_
      have m86 := m83.dat 90 rfl (Rd.nilN _ _ .u8 none)
      exact ⟨0, [], _, _, _, rfl, ⟨by omega, by omega⟩, by simp, (fun _ h => by cases h), m86.ren [(1, 1), (2, 90)] (by decide)⟩
     intro hb79 Hz; try simp only [QQ, Qax] at hb79
     refine wcf Hz ?_
     refine zss (hK8 _ _ ?_)
     refine wsk fun K11 hK11 => ?_
     replace Hz := Hz.oz [0, 1, 5, 6]
     refine regS Hz (.move rfl <| .move rfl <| .gtr rfl rfl .nil) fun Az Hz => ?_
     refine bc Hz 57 ?_ ?_
     ·
      intro hb91 Hz; try simp only [QQ, Qax] at hb91
      refine wct Hz ?_
      refine zsr fun K12 hK12 => ?_
      refine goCh Hz (.move rfl .nil) fun Az Hz => ?_
      refine plz (ecl Hz Try.func92 rfl (rfail _ _ _ _ _ _ (m32.into [(1, 1)] (by decide) rfl)) ?_)
      rintro e w94 ⟨rfl, hm94⟩
      have mx94 := m32.back hm94 [(1, 1)] (by decide); clear hm94 m32
      have m94 := mx94.oz [1, 2, 100]
      refine ⟨_, rfl, ?_⟩; intro Az Hz
      refine znl (hK12 _ _ ?_)
      refine regS Hz (.assign rfl .nil) fun Az Hz => ?_
      refine rt1 Hz ?_
      have m97 := m94.dat 90 rfl (Rd.nilN _ _ .u8 none)
      exact ⟨0, [], _, _, _, rfl, ⟨by omega, by omega⟩, by simp, (fun _ h => by cases h), m97.ren [(1, 1), (2, 90)] (by decide)⟩
     intro hb91 Hz; try simp only [QQ, Qax] at hb91
     refine wcf Hz ?_
     refine zss (hK11 _ _ ?_)
     refine zsr fun K13 hK13 => ?_
     refine goCh Hz (.move rfl <| .move rfl <| .nilCheck rfl <| .fa 0 rfl U145 <| .lb m32 1 U22 rfl rfl rfl <| .move rfl <| .inc (k + 1) .nil) fun Az Hz => ?_
     have m113 := m32.dropN (i := 2) rfl (k + 1) (show k + 1 ≤ b.length by omega) 101 rfl
     refine goCh Hz (.c rfl (fun _ h => y_sliceLn h (k + 1) rfl rfl U22 fct15 rfl (show k + 1 ≤ b.length by omega)) <| .nilCheck rfl <| .fa 0 rfl U145 .nil) fun Az Hz => ?_
     refine plz (st1 Hz m113 1 fct16 fun w117 m117 _ => ?_)
     refine znl (hK13 _ _ ?_)
     replace Hz := Hz.oz [0, 1, 5, 6, 57]
     refine regS Hz (.move rfl <| .assign rfl .nil) fun Az Hz => ?_
     refine rt1 Hz ?_
     have hl9 : b.length - (k + 1) = (b.drop (k + 1)).length := by rw [List.length_drop]
     rw [hl9] at m117
     exact ⟨_, b.drop (k + 1), _, _, _, rfl, ⟨wrapu _, by omega⟩, by rw [List.length_drop]; omega, (fun x hx => hbb x (List.mem_of_mem_drop hx)), m117.ren [(1, 1), (2, 101)] (by decide)⟩
    intro hb75 Hz; try simp only [QQ, Qax] at hb75
    refine gz hK9 Hz (.sk <| .sk <| .pickF rfl rfl <| .nil) fun Az Hz => ?_
    refine wcf Hz ?_
    refine zss (hK8 _ _ ?_)
    refine wsk fun K14 hK14 => ?_
    replace Hz := Hz.oz [0, 1, 5, 6]
    refine regS Hz (.move rfl <| .move rfl <| .gtr rfl rfl .nil) fun Az Hz => ?_
    refine bc Hz 57 ?_ ?_
    ·
     intro hb128 Hz; try simp only [QQ, Qax] at hb128
     refine wct Hz ?_
     refine zsr fun K15 hK15 => ?_
     refine goCh Hz (.move rfl .nil) fun Az Hz => ?_
     refine plz (ecl Hz Try.func92 rfl (rfail _ _ _ _ _ _ (m32.into [(1, 1)] (by decide) rfl)) ?_)
     rintro e w131 ⟨rfl, hm131⟩
     have mx131 := m32.back hm131 [(1, 1)] (by decide); clear hm131 m32
     have m131 := mx131.oz [1, 2, 100]
     refine ⟨_, rfl, ?_⟩; intro Az Hz
     refine znl (hK15 _ _ ?_)
     refine regS Hz (.assign rfl .nil) fun Az Hz => ?_
     refine rt1 Hz ?_
     have m134 := m131.dat 90 rfl (Rd.nilN _ _ .u8 none)
     exact ⟨0, [], _, _, _, rfl, ⟨by omega, by omega⟩, by simp, (fun _ h => by cases h), m134.ren [(1, 1), (2, 90)] (by decide)⟩
    intro hb128 Hz; try simp only [QQ, Qax] at hb128
    refine wcf Hz ?_
    refine zss (hK14 _ _ ?_)
    refine zsr fun K16 hK16 => ?_
    refine goCh Hz (.move rfl <| .move rfl <| .nilCheck rfl <| .fa 0 rfl U145 <| .lb m32 1 U22 rfl rfl rfl <| .move rfl <| .inc (k + 1) .nil) fun Az Hz => ?_
    have m150 := m32.dropN (i := 2) rfl (k + 1) (show k + 1 ≤ b.length by omega) 101 rfl
    refine goCh Hz (.c rfl (fun _ h => y_sliceLn h (k + 1) rfl rfl U22 fct15 rfl (show k + 1 ≤ b.length by omega)) <| .nilCheck rfl <| .fa 0 rfl U145 .nil) fun Az Hz => ?_
    refine plz (st1 Hz m150 1 fct16 fun w154 m154 _ => ?_)
    refine znl (hK16 _ _ ?_)
    replace Hz := Hz.oz [0, 1, 5, 6, 57]
    refine regS Hz (.move rfl <| .assign rfl .nil) fun Az Hz => ?_
    refine rt1 Hz ?_
    have hl9 : b.length - (k + 1) = (b.drop (k + 1)).length := by rw [List.length_drop]
    rw [hl9] at m154
    exact ⟨_, b.drop (k + 1), _, _, _, rfl, ⟨wrapu _, by omega⟩, by rw [List.length_drop]; omega, (fun x hx => hbb x (List.mem_of_mem_drop hx)), m154.ren [(1, 1), (2, 101)] (by decide)⟩
   intro hb68 Hz; try simp only [QQ, Qax] at hb68
   refine wcf Hz ?_
   refine zss (hK3 _ _ ?_)
   refine wp_region_lit ?_
   refine goCh Hz (.move rfl <| .inc (k + 1) <| .assign rfl .nil) fun Az Hz => ?_
   refine wpList_nil ?_
   show ∃ n', n' < _ ∧ _
   exact ⟨b.length - (k + 1), by omega, k + 1, _, by omega, rfl, wrapu _, Hz.only [0, 1, 5, 6], m32.only [1, 2]⟩
  intro hb43 Hz; try simp only [QQ, Qax] at hb43
  refine gz hK6 Hz (.sk <| .sk <| .pickF rfl rfl <| .nil) fun Az Hz => ?_
  refine wcf Hz ?_
  refine zss (hK5 _ _ ?_)
  replace Hz := Hz.oz [0, 1, 5, 6, 7]
  refine regS Hz (.move rfl <| .move rfl <| .and rfl rfl rfl <| .conv rfl U5 U101 rfl <| .move rfl <| .mul rfl rfl (r := 7 * (k : Int)) (IntWalk.i64_in _ (by omega)) <| .shl rfl rfl (by omega) rfl <| .or rfl rfl rfl <| .assign rfl .nil) fun Az Hz => ?_
  replace Hz := Hz.oz [0, 1, 5, 6, 7]
  refine regS Hz (.move rfl <| .lss rfl rfl .nil) fun Az Hz => ?_
  refine bc Hz 46 ?_ ?_
  ·
   intro hb177 Hz; try simp only [QQ, Qax] at hb177
   refine wct Hz ?_
   refine wsk fun K17 hK17 => ?_
   refine zsr fun K18 hK18 => ?_
   refine goCh Hz (.move rfl <| .gtr rfl rfl <| .move rfl .nil) fun Az Hz => ?_
   refine bc Hz 49 ?_ ?_
   ·
    intro hb184 Hz; try simp only [QQ, Qax] at hb184
    refine gz hK18 Hz (.moveZ rfl <| .eqlZ rfl rfl <| .pickT rfl rfl <| .nil) fun Az Hz => ?_
    refine bc Hz 52 ?_ ?_
    ·
     intro hb188 Hz; try simp only [QQ, Qax] at hb188
     refine wct Hz ?_
     replace Hz := Hz.oz [0, 1, 5, 6]
     refine zsr fun K19 hK19 => ?_
     refine goCh Hz (.move rfl .nil) fun Az Hz => ?_
     refine plz (ecl Hz Try.func92 rfl (rfail _ _ _ _ _ _ (m32.into [(1, 1)] (by decide) rfl)) ?_)
     rintro e w192 ⟨rfl, hm192⟩
     have mx192 := m32.back hm192 [(1, 1)] (by decide); clear hm192 m32
     have m192 := mx192.oz [1, 2, 100]
     refine ⟨_, rfl, ?_⟩; intro Az Hz
     refine znl (hK19 _ _ ?_)
     refine regS Hz (.assign rfl .nil) fun Az Hz => ?_
     refine rt1 Hz ?_
     have m195 := m192.dat 90 rfl (Rd.nilN _ _ .u8 none)
     exact ⟨0, [], _, _, _, rfl, ⟨by omega, by omega⟩, by simp, (fun _ h => by cases h), m195.ren [(1, 1), (2, 90)] (by decide)⟩
    intro hb188 Hz; try simp only [QQ, Qax] at hb188
    refine wcf Hz ?_
    refine zss (hK17 _ _ ?_)
    refine wsk fun K20 hK20 => ?_
    replace Hz := Hz.oz [0, 1, 5, 6]
    refine regS Hz (.move rfl <| .move rfl <| .gtr rfl rfl .nil) fun Az Hz => ?_
    refine bc Hz 57 ?_ ?_
    ·
     intro hb200 Hz; try simp only [QQ, Qax] at hb200
     refine wct Hz ?_
     refine zsr fun K21 hK21 => ?_
     refine goCh Hz (.move rfl .nil) fun Az Hz => ?_
     refine plz (ecl Hz Try.func92 rfl (rfail _ _ _ _ _ _ (m32.into [(1, 1)] (by decide) rfl)) ?_)
     rintro e w203 ⟨rfl, hm203⟩
     have mx203 := m32.back hm203 [(1, 1)] (by decide); clear hm203 m32
     have m203 := mx203.oz [1, 2, 100]
     refine ⟨_, rfl, ?_⟩; intro Az Hz
     refine znl (hK21 _ _ ?_)
     refine regS Hz (.assign rfl .nil) fun Az Hz => ?_
     refine rt1 Hz ?_
     have m206 := m203.dat 90 rfl (Rd.nilN _ _ .u8 none)
     exact ⟨0, [], _, _, _, rfl, ⟨by omega, by omega⟩, by simp, (fun _ h => by cases h), m206.ren [(1, 1), (2, 90)] (by decide)⟩
    intro hb200 Hz; try simp only [QQ, Qax] at hb200
    refine wcf Hz ?_
    refine zss (hK20 _ _ ?_)
    refine zsr fun K22 hK22 => ?_
    refine goCh Hz (.move rfl <| .move rfl <| .nilCheck rfl <| .fa 0 rfl U145 <| .lb m32 1 U22 rfl rfl rfl <| .move rfl <| .inc (k + 1) .nil) fun Az Hz => ?_
    have m222 := m32.dropN (i := 2) rfl (k + 1) (show k + 1 ≤ b.length by omega) 101 rfl
    refine goCh Hz (.c rfl (fun _ h => y_sliceLn h (k + 1) rfl rfl U22 fct15 rfl (show k + 1 ≤ b.length by omega)) <| .nilCheck rfl <| .fa 0 rfl U145 .nil) fun Az Hz => ?_
    refine plz (st1 Hz m222 1 fct16 fun w226 m226 _ => ?_)
    refine znl (hK22 _ _ ?_)
    replace Hz := Hz.oz [0, 1, 5, 6, 57]
    refine regS Hz (.move rfl <| .assign rfl .nil) fun Az Hz => ?_
    refine rt1 Hz ?_
    have hl9 : b.length - (k + 1) = (b.drop (k + 1)).length := by rw [List.length_drop]
    rw [hl9] at m226
    exact ⟨_, b.drop (k + 1), _, _, _, rfl, ⟨wrapu _, by omega⟩, by rw [List.length_drop]; omega, (fun x hx => hbb x (List.mem_of_mem_drop hx)), m226.ren [(1, 1), (2, 101)] (by decide)⟩
   intro hb184 Hz; try simp only [QQ, Qax] at hb184
   refine gz hK18 Hz (.sk <| .sk <| .pickF rfl rfl <| .nil) fun Az Hz => ?_
   refine wcf Hz ?_
   refine zss (hK17 _ _ ?_)
   refine wsk fun K23 hK23 => ?_
   replace Hz := Hz.oz [0, 1, 5, 6]
   refine regS Hz (.move rfl <| .move rfl <| .gtr rfl rfl .nil) fun Az Hz => ?_
   refine bc Hz 57 ?_ ?_
   ·
    intro hb237 Hz; try simp only [QQ, Qax] at hb237
    refine wct Hz ?_
    refine zsr fun K24 hK24 => ?_
    refine goCh Hz (.move rfl .nil) fun Az Hz => ?_
    refine plz (ecl Hz Try.func92 rfl (rfail _ _ _ _ _ _ (m32.into [(1, 1)] (by decide) rfl)) ?_)
    rintro e w240 ⟨rfl, hm240⟩
    have mx240 := m32.back hm240 [(1, 1)] (by decide); clear hm240 m32
    have m240 := mx240.oz [1, 2, 100]
    refine ⟨_, rfl, ?_⟩; intro Az Hz
    refine znl (hK24 _ _ ?_)
    refine regS Hz (.assign rfl .nil) fun Az Hz => ?_
    refine rt1 Hz ?_
    have m243 := m240.dat 90 rfl (Rd.nilN _ _ .u8 none)
    exact ⟨0, [], _, _, _, rfl, ⟨by omega, by omega⟩, by simp, (fun _ h => by cases h), m243.ren [(1, 1), (2, 90)] (by decide)⟩
   intro hb237 Hz; try simp only [QQ, Qax] at hb237
   refine wcf Hz ?_
   refine zss (hK23 _ _ ?_)
   refine zsr fun K25 hK25 => ?_
   refine goCh Hz (.move rfl <| .move rfl <| .nilCheck rfl <| .fa 0 rfl U145 <| .lb m32 1 U22 rfl rfl rfl <| .move rfl <| .inc (k + 1) .nil) fun Az Hz => ?_
   have m259 := m32.dropN (i := 2) rfl (k + 1) (show k + 1 ≤ b.length by omega) 101 rfl
   refine goCh Hz (.c rfl (fun _ h => y_sliceLn h (k + 1) rfl rfl U22 fct15 rfl (show k + 1 ≤ b.length by omega)) <| .nilCheck rfl <| .fa 0 rfl U145 .nil) fun Az Hz => ?_
   refine plz (st1 Hz m259 1 fct16 fun w263 m263 _ => ?_)
   refine znl (hK25 _ _ ?_)
   replace Hz := Hz.oz [0, 1, 5, 6, 57]
   refine regS Hz (.move rfl <| .assign rfl .nil) fun Az Hz => ?_
   refine rt1 Hz ?_
   have hl9 : b.length - (k + 1) = (b.drop (k + 1)).length := by rw [List.length_drop]
   rw [hl9] at m263
   exact ⟨_, b.drop (k + 1), _, _, _, rfl, ⟨wrapu _, by omega⟩, by rw [List.length_drop]; omega, (fun x hx => hbb x (List.mem_of_mem_drop hx)), m263.ren [(1, 1), (2, 101)] (by decide)⟩
  intro hb177 Hz; try simp only [QQ, Qax] at hb177
  refine wcf Hz ?_
  refine zss (hK3 _ _ ?_)
  refine wp_region_lit ?_
  refine goCh Hz (.move rfl <| .inc (k + 1) <| .assign rfl .nil) fun Az Hz => ?_
  refine wpList_nil ?_
  show ∃ n', n' < _ ∧ _
  exact ⟨b.length - (k + 1), by omega, k + 1, _, by omega, rfl, wrapu _, Hz.only [0, 1, 5, 6], m32.only [1, 2]⟩
 intro hb19 Hz; try simp only [QQ, Qax] at hb19
 refine wcf Hz ?_
 refine wp_exit ?_
 refine hK1 _ _ ?_
 replace Hz := Hz.oz [0, 1, 5, 6]
 refine zsr fun K26 hK26 => ?_
 refine goCh Hz (.move rfl .nil) fun Az Hz => ?_
 refine plz (ecl Hz Try.func92 rfl (rfail _ _ _ _ _ _ (m11.into [(1, 1)] (by decide) rfl)) ?_)
 rintro e w273 ⟨rfl, hm273⟩
 have mx273 := m11.back hm273 [(1, 1)] (by decide); clear hm273 m11
 have m273 := mx273.oz [1, 2]
 refine ⟨_, rfl, ?_⟩; intro Az Hz
 refine znl (hK26 _ _ ?_)
 refine regS Hz (.assign rfl .nil) fun Az Hz => ?_
 refine rt1 Hz ?_
 have m276 := m273.dat 90 rfl (Rd.nilN _ _ .u8 none)
 exact ⟨0, [], _, _, _, rfl, ⟨by omega, by omega⟩, by simp, (fun _ h => by cases h), m276.ren [(1, 1), (2, 90)] (by decide)⟩
end Go.Proofs.Yteglmahnkfgelaa.K
end
section
namespace Go.Proofs.Yteglmahnkfgelaa.K
open Go.ChangeShapes Go.WideShapes Go.ChangeAt Go.RowKit
set_option linter.unusedVariables false
set_option linter.unusedSimpArgs false
set_option maxRecDepth 100000
set_option maxHeartbeats 4000000
theorem rtakePlace (X : Cx) (B : Nat) (b : List Int) (er : Int) (p : Option Addr) (c : Nat) (w0 : World) (hb : b.length ≤ 1000000) (hbb : BytesL b) (m0 : MemOk X w0 [(1, .box B 145 [.slice p b.length c, .int .i64 er]), (2, .dat (.slice p b.length c) (.ns .u8 b))] w0) :
   Calls Try.prog 83 #[.pointer (some ⟨B, 0, none⟩)] w0 fun e w' => ∃ (pl b' : List Int) (p' : Option Addr) (c' : Nat) (er' : Int) (p3 : Option Addr) (c3 : Nat), e = .returned (.slice p3 pl.length c3) ∧ pl.length ≤ 256 ∧ b'.length ≤ b.length ∧ BytesL b' ∧ MemOk X w0 [(1, .box B 145 [.slice p' b'.length c', .int .i64 er']), (2, .dat (.slice p' b'.length c') (.ns .u8 b')), (3, .dat (.slice p3 pl.length c3) (.ns .i64 pl))] w' := by
 refine ent1 Try.func83 rfl Try.ntmps83 fun Az Hz => ?_
 refine regS Hz (.assign rfl .nil) fun Az Hz => ?_
 refine regS Hz (.assign rfl .nil) fun Az Hz => ?_
 refine zsr fun K0 hK0 => ?_
 refine goCh Hz (.move rfl .nil) fun Az Hz => ?_
 refine plz (ecl Hz Try.func82 rfl (rnum _ _ b _ 256 _ _ _ (by omega) hbb (by decide) (m0.into [(1, 1), (2, 2)] (by decide) rfl)) ?_)
 rintro e w5 ⟨un, b2, p5, c5, er5, rfl, huun, hbl2, hbb2, hm5⟩
 have mx5 := m0.back hm5 [(1, 1), (2, 2)] (by decide); clear hm5 m0
 have m5 := mx5.oz [1, 2]
 refine ⟨_, rfl, ?_⟩; intro Az Hz
 refine gz hK0 Hz (.assign rfl .nil) fun Az Hz => ?_
 refine wsk fun K1 hK1 => ?_
 refine regS Hz (.assign rfl .nil) fun Az Hz => ?_
 refine wp_block ?_
 refine wp_loop_ghost (fun g a w => ∃ (k : Nat) (pl b1 : List Int) (p1 : Option Addr) (c1 : Nat) (er1 : Int) (p3 : Option Addr) (c3 : Nat), (k : Int) ≤ un ∧ g = un.toNat - k ∧ pl.length ≤ k ∧ b1.length ≤ b.length ∧ BytesL b1 ∧ Has 27 [(0, .pointer (some ⟨B, 0, none⟩)), (3, .slice p3 pl.length c3), (4, .int .u64 un), (5, .int .u64 (k : Int))] a ∧ MemOk X w0 [(1, .box B 145 [.slice p1 b1.length c1, .int .i64 er1]), (2, .dat (.slice p1 b1.length c1) (.ns .u8 b1)), (9, .num (.slice p3 pl.length c3) 3 .i64 pl)] w) (un.toNat) ?_ ?_
 · have mz := m5.nilN 9 3 .i64
   exact ⟨0, [], b2, _, _, _, _, _, by omega, rfl, Nat.le_refl _, hbl2, hbb2, Hz.only [0, 3, 4, 5], mz.only [1, 2, 9]⟩
 clear Hz m5
 rintro g Az w9 ⟨k, pl, b1, p1, c1, er1, p3, c3, hku, hg, hpl, hbl1, hbb1, Hz, m9⟩
 refine wsk fun K2 hK2 => ?_
 refine zsr fun K3 hK3 => ?_
 refine goCh Hz (.move rfl <| .move rfl <| .lss rfl rfl <| .move rfl .nil) fun Az Hz => ?_
 refine bc Hz 11 ?_ ?_
 ·
  intro hb18 Hz; try simp only [QQ, Qax] at hb18
  refine gz hK3 Hz (.moveZ rfl <| .nilCheckZ rfl <| .faZ 1 rfl U145 <| .loadB1Z m9 (i := 1) rfl rfl rfl U3 rfl <| .eqlZ rfl rfl <| .pickT rfl rfl <| .nil) fun Az Hz => ?_
  refine bc Hz 17 ?_ ?_
  ·
   intro hb25 Hz; try simp only [QQ, Qax] at hb25
   refine wct Hz ?_
   refine zss (hK2 _ _ ?_)
   refine wsk fun K4 hK4 => ?_
   refine wp_block ?_
   replace Hz := Hz.oz [0, 3, 4, 5]
   refine wp_region_lit ?_
   refine goCh Hz (.move rfl <| .move rfl .nil) fun Az Hz => ?_
   refine plz (ecl Hz Try.func82 rfl (rnum _ _ b1 _ 8 _ _ _ (by omega) hbb1 (by decide) (m9.into [(1, 1), (2, 2)] (by decide) rfl)) ?_)
   rintro e w29 ⟨uv, b2, p29, c29, er29, rfl, huuv, hbl2, hbb2, hm29⟩
   have mx29 := m9.back hm29 [(1, 1), (2, 2)] (by decide); clear hm29 m9
   have m29 := mx29.oz [1, 2, 9]
   refine ⟨_, rfl, ?_⟩; intro Az Hz
   refine goCh Hz (.conv rfl U101 U3 (r := uv) (IntWalk.i64_in _ (by omega)) .nil) fun Az Hz => ?_
   refine plz (e_litN Hz m29 100 (k := .i64) rfl rfl U24 fct26 rfl rfl rfl rfl fun g32 Az w33 Hz m33 => ?_)
   refine plz (e_appN Hz m33 9 rfl rfl rfl (m33.numsO (i := 100) rfl) U24 fct26 (by decide) (by simp; omega) rfl fun p34 c34 Az w35 Hz m35 => ?_)
   refine gz hK4 Hz (.assign rfl .nil) fun Az Hz => ?_
   replace Hz := Hz.oz [0, 3, 4, 5]
   refine wp_region_lit ?_
   refine goCh Hz (.move rfl <| .add rfl rfl (r := ((k + 1 : Nat) : Int)) (by rw [IntWalk.u64_in _ (by omega)]; omega) <| .assign rfl .nil) fun Az Hz => ?_
   refine wpList_nil ?_
   show ∃ n', n' < _ ∧ _
   exact ⟨un.toNat - (k + 1), by omega, k + 1, _, b2, _, _, _, _, _, by omega, rfl, by simp; omega, by omega, hbb2, Hz.only [0, 3, 4, 5], m35.only [1, 2, 9]⟩
  intro hb25 Hz; try simp only [QQ, Qax] at hb25
  refine wcf Hz ?_
  refine wp_exit ?_
  refine hK1 _ _ ?_
  replace Hz := Hz.oz [0, 3, 4, 5]
  refine regS Hz (.move rfl <| .assign rfl .nil) fun Az Hz => ?_
  refine rt1 Hz ?_
  have m44 := m9.freezeN 9 rfl
  exact ⟨pl, b1, _, _, _, _, _, rfl, by omega, hbl1, hbb1, m44.ren [(1, 1), (2, 2), (3, 9)] (by decide)⟩
 intro hb18 Hz; try simp only [QQ, Qax] at hb18
 refine gz hK3 Hz (.sk <| .sk <| .sk <| .sk <| .sk <| .pickF rfl rfl <| .nil) fun Az Hz => ?_
 refine wcf Hz ?_
 refine wp_exit ?_
 refine hK1 _ _ ?_
 replace Hz := Hz.oz [0, 3, 4, 5]
 refine regS Hz (.move rfl <| .assign rfl .nil) fun Az Hz => ?_
 refine rt1 Hz ?_
 have m54 := m9.freezeN 9 rfl
 exact ⟨pl, b1, _, _, _, _, _, rfl, by omega, hbl1, hbb1, m54.ren [(1, 1), (2, 2), (3, 9)] (by decide)⟩
end Go.Proofs.Yteglmahnkfgelaa.K
end
section
namespace Go.Proofs.Yteglmahnkfgelaa.K
open Go.ChangeShapes Go.WideShapes Go.ChangeAt Go.RowKit
set_option linter.unusedVariables false
set_option linter.unusedSimpArgs false
set_option maxRecDepth 100000
set_option maxHeartbeats 4000000
theorem rlumpR (X : Cx) (B : Nat) (b : List Int) (er mx : Int) (p : Option Addr) (c : Nat) (w0 : World) (hb : b.length ≤ 1000000) (hbb : BytesL b) (hmx : 0 ≤ mx ∧ mx ≤ 1000000) (m0 : MemOk X w0 [(1, .box B 145 [.slice p b.length c, .int .i64 er]), (2, .dat (.slice p b.length c) (.ns .u8 b))] w0) :
   Calls Try.prog 93 #[.pointer (some ⟨B, 0, none⟩), .int .i64 mx] w0 fun e w' => ∃ (d b' : List Int) (p' : Option Addr) (c' : Nat) (er' : Int) (p3 : Option Addr) (c3 : Nat), e = .returned (.slice p3 d.length c3) ∧ (d.length : Int) ≤ mx ∧ BytesL d ∧ b'.length ≤ b.length ∧ BytesL b' ∧ MemOk X w0 [(1, .box B 145 [.slice p' b'.length c', .int .i64 er']), (2, .dat (.slice p' b'.length c') (.ns .u8 b')), (3, .dat (.slice p3 d.length c3) (.ns .u8 d))] w' := by
 refine ent2 Try.func93 rfl Try.ntmps93 fun Az Hz => ?_
 refine regS Hz (.assign rfl .nil) fun Az Hz => ?_
 refine zsr fun K0 hK0 => ?_
 refine goCh Hz (.move rfl <| .move rfl <| .c rfl (fun _ h => y_max h rfl rfl (r := mx) (by omega)) <| .conv rfl U3 U101 (r := mx) (IntWalk.u64_in _ (by omega)) .nil) fun Az Hz => ?_
 refine plz (ecl Hz Try.func82 rfl (rnum _ _ b _ mx _ _ _ hb hbb hmx.1 (m0.into [(1, 1), (2, 2)] (by decide) rfl)) ?_)
 rintro e w10 ⟨u, b2, p10, c10, er10, rfl, hu, hbl2, hbb2, hm10⟩
 have mx10 := m0.back hm10 [(1, 1), (2, 2)] (by decide); clear hm10 m0
 have m10 := mx10.oz [1, 2]
 refine ⟨_, rfl, ?_⟩; intro Az Hz
 refine gz hK0 Hz (.assign rfl .nil) fun Az Hz => ?_
 refine wsk fun K1 hK1 => ?_
 replace Hz := Hz.oz [0, 4, 5]
 refine regS Hz (.move rfl <| .nilCheck rfl <| .fa 1 rfl U145 <| .lb m10 1 U3 rfl rfl rfl <| .neq rfl rfl .nil) fun Az Hz => ?_
 refine bc Hz 16 ?_ ?_
 ·
  intro hb19 Hz; try simp only [QQ, Qax] at hb19
  refine wct Hz ?_
  refine regS Hz (.assign rfl .nil) fun Az Hz => ?_
  refine rt1 Hz ?_
  have m21 := m10.dat 20 rfl (Rd.nilN _ _ .u8 none)
  exact ⟨[], b2, _, _, _, _, _, rfl, by simpa using hmx.1, (fun _ h => by cases h), hbl2, hbb2, m21.ren [(1, 1), (2, 2), (3, 20)] (by decide)⟩
 intro hb19 Hz; try simp only [QQ, Qax] at hb19
 refine wcf Hz ?_
 refine zss (hK1 _ _ ?_)
 refine wsk fun K2 hK2 => ?_
 refine regS Hz (.move rfl <| .move rfl <| .nilCheck rfl <| .fa 0 rfl U145 <| .lb m10 1 U22 rfl rfl rfl <| .len rfl U22 <| .conv rfl U3 U101 (r := (b2.length : Int)) (IntWalk.u64_in _ (by omega)) <| .gtr rfl rfl .nil) fun Az Hz => ?_
 refine bc Hz 24 ?_ ?_
 ·
  intro hb30 Hz; try simp only [QQ, Qax] at hb30
  refine wct Hz ?_
  replace Hz := Hz.oz [0, 4, 5]
  refine zsr fun K3 hK3 => ?_
  refine goCh Hz (.move rfl .nil) fun Az Hz => ?_
  refine plz (ecl Hz Try.func92 rfl (rfail _ _ _ _ _ _ (m10.into [(1, 1)] (by decide) rfl)) ?_)
  rintro e w34 ⟨rfl, hm34⟩
  have mx34 := m10.back hm34 [(1, 1)] (by decide); clear hm34 m10
  have m34 := mx34.oz [1, 2]
  refine ⟨_, rfl, ?_⟩; intro Az Hz
  refine znl (hK3 _ _ ?_)
  refine regS Hz (.assign rfl .nil) fun Az Hz => ?_
  refine rt1 Hz ?_
  have m37 := m34.dat 20 rfl (Rd.nilN _ _ .u8 none)
  have m38 := m37.dat 21 rfl (Rd.nilN _ _ .u8 none)
  exact ⟨[], [], _, _, _, _, _, rfl, by simpa using hmx.1, (fun _ h => by cases h), by simp, (fun _ h => by cases h), m38.ren [(1, 1), (2, 21), (3, 20)] (by decide)⟩
 intro hb30 Hz; try simp only [QQ, Qax] at hb30
 obtain ⟨un, hune⟩ : ∃ n : Nat, u = (n : Int) := ⟨u.toNat, by omega⟩
 have hun : un ≤ b2.length := by omega
 refine wcf Hz ?_
 refine zss (hK2 _ _ ?_)
 replace Hz := Hz.oz [0, 4, 5]
 refine zsr fun K4 hK4 => ?_
 refine goCh Hz (.move rfl <| .nilCheck rfl <| .fa 0 rfl U145 <| .lb m10 1 U22 rfl rfl rfl <| .move rfl .nil) fun Az Hz => ?_
 have hcap51 := (m10.rd (i := 2) rfl).ns_out.cap
 have m51 := m10.takeN (i := 2) rfl un hun 20 rfl
 refine gz hK4 Hz (.c rfl (fun _ h => y_sliceHn h un rfl rfl U22 fct15 hune (Nat.le_trans hun hcap51.1)) <| .assign rfl <| .nil) fun Az Hz => ?_
 replace Hz := Hz.oz [0, 4, 5, 6]
 refine zsr fun K5 hK5 => ?_
 refine goCh Hz (.move rfl <| .move rfl <| .nilCheck rfl <| .fa 0 rfl U145 <| .lb m51 1 U22 rfl rfl rfl <| .move rfl .nil) fun Az Hz => ?_
 have m68 := m51.dropN (i := 2) rfl un hun 21 rfl
 refine goCh Hz (.c rfl (fun _ h => y_sliceLn h un rfl rfl U22 fct15 hune hun) <| .nilCheck rfl <| .fa 0 rfl U145 .nil) fun Az Hz => ?_
 refine plz (st1 Hz m68 1 fct16 fun w72 m72 _ => ?_)
 refine znl (hK5 _ _ ?_)
 replace Hz := Hz.oz [4, 6]
 refine regS Hz (.move rfl <| .assign rfl .nil) fun Az Hz => ?_
 refine rt1 Hz ?_
 have hl8 : un = (b2.take un).length := by rw [List.length_take]; omega
 have hl9 : b2.length - un = (b2.drop un).length := by rw [List.length_drop]
 exact ⟨b2.take un, b2.drop un, _, _, _, _, _, by rw [← hl8], by rw [← hl8]; omega, (fun x hx => hbb2 x (List.mem_of_mem_take hx)), by rw [← hl9]; omega, (fun x hx => hbb2 x (List.mem_of_mem_drop hx)), by rw [← hl8, ← hl9]; exact m72.ren [(1, 1), (2, 21), (3, 20)] (by decide)⟩
end Go.Proofs.Yteglmahnkfgelaa.K
end
section
namespace Go.Proofs.Yteglmahnkfgelaa.K
open Go.ChangeShapes Go.WideShapes Go.ChangeAt Go.RowKit
set_option linter.unusedVariables false
set_option linter.unusedSimpArgs false
theorem bytes_app {a b : List Int} (ha : BytesL a) (hb : BytesL b) : BytesL (a ++ b) := fun x hx => (List.mem_append.1 hx).elim (ha x) (hb x)
theorem wrap1 (x : Int) : ∀ k, k < [IntKind.u64.wrap x].length → 0 ≤ [IntKind.u64.wrap x].getD k 0 ∧ [IntKind.u64.wrap x].getD k 0 < 2 ^ 64 := fun k hk => by
 obtain rfl : k = 0 := by simpa using hk
 have e : IntKind.u64.wrap x = x % 18446744073709551616 := by simp [IntKind.wrap, IntKind.signed, IntKind.bits]
 simp [e]; omega
set_option maxRecDepth 100000
set_option maxHeartbeats 4000000
theorem rput_own (xs : List Int) (q : Option Addr) (cq : Nat) (w0 : World) (h0 : Rd (fun _ => True) w0 (.slice q xs.length cq) (.ns .u64 xs)) (hl : xs.length ≤ 1000000) (hxb : ∀ k, k < xs.length → 0 ≤ xs.getD k 0 ∧ xs.getD k 0 < 2 ^ 64) :
   Calls Try.prog 78 #[.slice q xs.length cq] w0 fun e w' => ∃ (b : List Int) (p : Option Addr) (c : Nat), e = .returned (.slice p b.length c) ∧ b.length ≤ 10 * xs.length ∧ BytesL b ∧ w'.ownsRow w0.heap.size 5 1 (.slice p b.length c) b.length (b.map (Value.int .u8)) ∧ Below w0.heap.size w0 w' := by
 refine ent1 Try.func78 rfl Try.ntmps78 fun Az Hz => ?_
 have m0 := MemOk.start (fun _ => False) w0
 refine regS Hz (.assign rfl .nil) fun Az Hz => ?_
 refine regS Hz (.assign rfl .nil) fun Az Hz => ?_
 refine wsk fun K0 hK0 => ?_
 refine regS Hz (.assign rfl .nil) fun Az Hz => ?_
 refine wp_block ?_
 refine wp_loop_ghost (fun g a w => ∃ (k : Nat) (b : List Int) (p : Option Addr) (c : Nat), k ≤ xs.length ∧ g = xs.length - k ∧ b.length ≤ 10 * k ∧ BytesL b ∧ Has 32 [(0, .slice q xs.length cq), (3, .slice p b.length c), (4, .int .i64 k)] a ∧ MemOk (cn w0) w0 [(9, .num (.slice p b.length c) 5 .u8 b)] w) (xs.length) ?_ ?_
 · have mz := m0.nilN 9 5 .u8
   exact ⟨0, [], _, _, Nat.zero_le _, rfl, by simp, (fun _ h => by cases h), Hz.only [0, 3, 4], mz.only [9]⟩
 clear Hz m0
 rintro g Az w4 ⟨k, b, p, c, hkl, hg, hbl, hbb, Hz, m4⟩
 refine wsk fun K1 hK1 => ?_
 refine regS Hz (.move rfl <| .move rfl <| .len rfl U153 <| .lss rfl rfl .nil) fun Az Hz => ?_
 refine bc Hz 9 ?_ ?_
 ·
  intro hb9 Hz; try simp only [QQ, Qax] at hb9
  have hk : k < xs.length := by omega
  have hxk := hxb k hk
  refine wct Hz ?_
  refine zss (hK1 _ _ ?_)
  refine wsk fun K2 hK2 => ?_
  refine wp_block ?_
  refine zsr fun K3 hK3 => ?_
  refine goCh Hz (.move rfl <| .move rfl .nil) fun Az Hz => ?_
  obtain ⟨gx15, ox15, hp15, hl15, hrg15⟩ := h0.extN (k) hk
  revert Hz
  cases hp15
  intro Hz
  refine gz hK3 Hz (.c rfl (fun _ h => y_idx h rfl rfl U153 fct35 (k) rfl hk) <| .loadAt1 (hrg15 m4 rfl) (q := 0) rfl rfl rfl U101 rfl <| .assign rfl <| .nil) fun Az Hz => ?_
  refine wsk fun K4 hK4 => ?_
  refine wp_block ?_
  refine wp_loop_ghost (fun g a w => ∃ (j : Nat) (u : Int) (b : List Int) (p : Option Addr) (c : Nat), j ≤ 9 ∧ 0 ≤ u ∧ u < 2 ^ (64 - 7 * j) ∧ g = u.toNat ∧ b.length ≤ 10 * k + j ∧ BytesL b ∧ Has 32 [(0, .slice (some ⟨gx15, ox15, none⟩) xs.length cq), (3, .slice p b.length c), (4, .int .i64 k), (5, .int .u64 u)] a ∧ MemOk (cn w0) w0 [(9, .num (.slice p b.length c) 5 .u8 b)] w) ((xs.getD k 0).toNat) ?_ ?_
  · exact ⟨0, xs.getD k 0, b, _, _, by omega, by omega, by simpa using hxk.2, rfl, by omega, hbb, Hz.only [0, 3, 4, 5], m4.only [9]⟩
  clear Hz m4
  rintro g Az w19 ⟨j, u, b, p, c, hj9, hu0, hu1, hg2, hbl2, hbb2, Hz, m19⟩
  refine wsk fun K5 hK5 => ?_
  refine regS Hz (.move rfl <| .geq rfl rfl .nil) fun Az Hz => ?_
  refine bc Hz 17 ?_ ?_
  ·
   intro hb22 Hz; try simp only [QQ, Qax] at hb22
   obtain ⟨z, hz, hzb⟩ : ∃ z, IntKind.u8.wrap ((BitVec.ofInt IntKind.u8.bits (IntKind.u8.wrap u) ||| BitVec.ofInt IntKind.u8.bits 128).toNat) = z ∧ 0 ≤ z ∧ z ≤ 255 := ⟨_, rfl, wrap_u8 _⟩
   obtain ⟨hj8, hu2⟩ := leb_step hj9 hu1 (by omega)
   refine wct Hz ?_
   refine zss (hK5 _ _ ?_)
   refine wp_block ?_
   refine zsr fun K6 hK6 => ?_
   refine goCh Hz (.move rfl <| .move rfl <| .conv rfl U101 U5 rfl <| .or rfl rfl (r := z) hz .nil) fun Az Hz => ?_
   refine plz (e_litN Hz m19 200 (k := .u8) rfl rfl U22 fct0 rfl rfl rfl rfl fun g31 Az w32 Hz m32 => ?_)
   refine plz (e_appN Hz m32 9 rfl rfl rfl (m32.numsO (i := 200) rfl) U22 fct0 (by decide) (by simp; omega) rfl fun p33 c33 Az w34 Hz m34 => ?_)
   refine gz hK6 Hz (.assign rfl .nil) fun Az Hz => ?_
   replace Hz := Hz.oz [0, 3, 4, 5]
   refine wp_region_lit ?_
   refine goCh Hz (.move rfl <| .shr rfl rfl (by decide) (r := u / 128) (by rw [show (2 : Int) ^ min (7 : Int).toNat IntKind.u64.bits = 128 from by decide]; exact Int.fdiv_eq_ediv_of_nonneg _ (by decide)) <| .assign rfl .nil) fun Az Hz => ?_
   refine wpList_nil ?_
   show ∃ n', n' < _ ∧ _
   exact ⟨(u / 128).toNat, by omega, j + 1, u / 128, _, _, _, hj8, by omega, hu2, rfl, by simp; omega, bytes_snoc hbb2 hzb, Hz.only [0, 3, 4, 5], m34.only [9]⟩
  intro hb22 Hz; try simp only [QQ, Qax] at hb22
  refine wcf Hz ?_
  refine wp_exit ?_
  refine hK4 _ _ ?_
  refine wp_region_lit ?_
  refine goCh Hz (.move rfl <| .move rfl <| .conv rfl U101 U5 rfl .nil) fun Az Hz => ?_
  refine plz (e_litN Hz m19 200 (k := .u8) rfl rfl U22 fct0 rfl rfl rfl rfl fun g43 Az w44 Hz m44 => ?_)
  refine plz (e_appN Hz m44 9 rfl rfl rfl (m44.numsO (i := 200) rfl) U22 fct0 (by decide) (by simp; omega) rfl fun p45 c45 Az w46 Hz m46 => ?_)
  refine gz hK2 Hz (.assign rfl .nil) fun Az Hz => ?_
  replace Hz := Hz.oz [0, 3, 4, 5]
  refine wp_region_lit ?_
  refine goCh Hz (.move rfl <| .inc (k + 1) <| .assign rfl .nil) fun Az Hz => ?_
  refine wpList_nil ?_
  show ∃ n', n' < _ ∧ _
  exact ⟨xs.length - (k + 1), by omega, k + 1, _, _, _, by omega, rfl, by simp; omega, bytes_snoc hbb2 (wrap_u8 _), Hz.only [0, 3, 4], m46.only [9]⟩
 intro hb9 Hz; try simp only [QQ, Qax] at hb9
 revert Hz
 obtain rfl : k = xs.length := by omega
 intro Hz
 refine wcf Hz ?_
 refine wp_exit ?_
 refine hK0 _ _ ?_
 refine regS Hz (.move rfl <| .assign rfl .nil) fun Az Hz => ?_
 refine rt1 Hz ?_
 exact ⟨_, _, _, rfl, hbl, hbb, m4.ok 9 _ rfl, m4.below⟩
theorem rnums16 (xs : List Int) (q : Option Addr) (cq : Nat) (w0 : World) (h0 : Rd (fun _ => True) w0 (.slice q xs.length cq) (.ns .i64 xs)) (hl : xs.length ≤ 1000000) :
   Calls Try.prog 57 #[.slice q xs.length cq] w0 fun e w' => ∃ (b : List Int) (p : Option Addr) (c : Nat), e = .returned (.slice p b.length c) ∧ b.length ≤ 10 * xs.length ∧ BytesL b ∧ w'.ownsRow w0.heap.size 5 1 (.slice p b.length c) b.length (b.map (Value.int .u8)) ∧ Below w0.heap.size w0 w' := by
 refine ent1 Try.func57 rfl Try.ntmps57 fun Az Hz => ?_
 have m0 := MemOk.start (fun _ => False) w0
 refine regS Hz (.assign rfl .nil) fun Az Hz => ?_
 refine regS Hz (.assign rfl .nil) fun Az Hz => ?_
 refine wsk fun K0 hK0 => ?_
 refine regS Hz (.assign rfl .nil) fun Az Hz => ?_
 refine wp_block ?_
 refine wp_loop_ghost (fun g a w => ∃ (k : Nat) (b : List Int) (p : Option Addr) (c : Nat), k ≤ xs.length ∧ g = xs.length - k ∧ b.length ≤ 10 * k ∧ BytesL b ∧ Has 21 [(0, .slice q xs.length cq), (3, .slice p b.length c), (4, .int .i64 k)] a ∧ MemOk (cn w0) w0 [(9, .num (.slice p b.length c) 5 .u8 b)] w) (xs.length) ?_ ?_
 · have mz := m0.nilN 9 5 .u8
   exact ⟨0, [], _, _, Nat.zero_le _, rfl, by simp, (fun _ h => by cases h), Hz.only [0, 3, 4], mz.only [9]⟩
 clear Hz m0
 rintro g Az w4 ⟨k, b, p, c, hkl, hg, hbl, hbb, Hz, m4⟩
 refine wsk fun K1 hK1 => ?_
 refine regS Hz (.move rfl <| .move rfl <| .len rfl U25 <| .lss rfl rfl .nil) fun Az Hz => ?_
 refine bc Hz 8 ?_ ?_
 ·
  intro hb9 Hz; try simp only [QQ, Qax] at hb9
  have hk : k < xs.length := by omega
  refine wct Hz ?_
  refine zss (hK1 _ _ ?_)
  refine wsk fun K2 hK2 => ?_
  refine wp_block ?_
  refine wp_region_lit ?_
  refine goCh Hz (.move rfl <| .move rfl <| .move rfl .nil) fun Az Hz => ?_
  obtain ⟨gx13, ox13, hp13, hl13, hrg13⟩ := h0.extN (k) hk
  revert Hz
  cases hp13
  intro Hz
  refine goCh Hz (.c rfl (fun _ h => y_idx h rfl rfl U25 fct9 (k) rfl hk) <| .loadAt1 (hrg13 m4 rfl) (q := 0) rfl rfl rfl U2 rfl <| .conv rfl U2 U101 rfl .nil) fun Az Hz => ?_
  refine plz (e_litN Hz m4 100 (k := .u64) rfl rfl U153 fct36 rfl rfl rfl rfl fun g17 Az w18 Hz m18 => ?_)
  have m19 := m18.freezeN 100 rfl
  refine plz (ecl Hz Try.func78 rfl (rput_own [IntKind.u64.wrap (xs.getD k 0)] _ _ _ ((m19.rd (i := 100) rfl).any) (by simp) (wrap1 _)) ?_)
  rintro e w20 ⟨d1, p20, c20, rfl, hld1, hbd1, ho20, hb20⟩
  have m21 := m19.newN 101 hb20 ho20
  refine ⟨_, rfl, ?_⟩; intro Az Hz
  refine plz (e_appN Hz m21 9 rfl rfl rfl (m21.numsO (i := 101) rfl) U22 fct0 (by decide) (by simp at hld1 ⊢; omega) rfl fun p23 c23 Az w24 Hz m24 => ?_)
  refine gz hK2 Hz (.assign rfl .nil) fun Az Hz => ?_
  replace Hz := Hz.oz [0, 3, 4]
  refine wp_region_lit ?_
  refine goCh Hz (.move rfl <| .inc (k + 1) <| .assign rfl .nil) fun Az Hz => ?_
  refine wpList_nil ?_
  show ∃ n', n' < _ ∧ _
  exact ⟨xs.length - (k + 1), by omega, k + 1, _, _, _, by omega, rfl, by simp at hld1 ⊢; omega, bytes_app hbb hbd1, Hz.only [0, 3, 4], m24.only [9]⟩
 intro hb9 Hz; try simp only [QQ, Qax] at hb9
 revert Hz
 obtain rfl : k = xs.length := by omega
 intro Hz
 refine wcf Hz ?_
 refine wp_exit ?_
 refine hK0 _ _ ?_
 refine regS Hz (.move rfl <| .assign rfl .nil) fun Az Hz => ?_
 refine rt1 Hz ?_
 exact ⟨_, _, _, rfl, hbl, hbb, m4.ok 9 _ rfl, m4.below⟩
theorem rnums13 (xs : List Int) (q : Option Addr) (cq : Nat) (w0 : World) (h0 : Rd (fun _ => True) w0 (.slice q xs.length cq) (.ns .i64 xs)) (hl : xs.length ≤ 1000000) :
   Calls Try.prog 79 #[.slice q xs.length cq] w0 fun e w' => ∃ (b : List Int) (p : Option Addr) (c : Nat), e = .returned (.slice p b.length c) ∧ b.length ≤ 10 * xs.length ∧ BytesL b ∧ w'.ownsRow w0.heap.size 5 1 (.slice p b.length c) b.length (b.map (Value.int .u8)) ∧ Below w0.heap.size w0 w' := by
 refine ent1 Try.func79 rfl Try.ntmps79 fun Az Hz => ?_
 have m0 := MemOk.start (fun _ => False) w0
 refine regS Hz (.assign rfl .nil) fun Az Hz => ?_
 refine regS Hz (.assign rfl .nil) fun Az Hz => ?_
 refine wsk fun K0 hK0 => ?_
 refine regS Hz (.assign rfl .nil) fun Az Hz => ?_
 refine wp_block ?_
 refine wp_loop_ghost (fun g a w => ∃ (k : Nat) (b : List Int) (p : Option Addr) (c : Nat), k ≤ xs.length ∧ g = xs.length - k ∧ b.length ≤ 10 * k ∧ BytesL b ∧ Has 21 [(0, .slice q xs.length cq), (3, .slice p b.length c), (4, .int .i64 k)] a ∧ MemOk (cn w0) w0 [(9, .num (.slice p b.length c) 5 .u8 b)] w) (xs.length) ?_ ?_
 · have mz := m0.nilN 9 5 .u8
   exact ⟨0, [], _, _, Nat.zero_le _, rfl, by simp, (fun _ h => by cases h), Hz.only [0, 3, 4], mz.only [9]⟩
 clear Hz m0
 rintro g Az w4 ⟨k, b, p, c, hkl, hg, hbl, hbb, Hz, m4⟩
 refine wsk fun K1 hK1 => ?_
 refine regS Hz (.move rfl <| .move rfl <| .len rfl U25 <| .lss rfl rfl .nil) fun Az Hz => ?_
 refine bc Hz 8 ?_ ?_
 ·
  intro hb9 Hz; try simp only [QQ, Qax] at hb9
  have hk : k < xs.length := by omega
  refine wct Hz ?_
  refine zss (hK1 _ _ ?_)
  refine wsk fun K2 hK2 => ?_
  refine wp_block ?_
  refine wp_region_lit ?_
  refine goCh Hz (.move rfl <| .move rfl <| .move rfl .nil) fun Az Hz => ?_
  obtain ⟨gx13, ox13, hp13, hl13, hrg13⟩ := h0.extN (k) hk
  revert Hz
  cases hp13
  intro Hz
  refine goCh Hz (.c rfl (fun _ h => y_idx h rfl rfl U25 fct9 (k) rfl hk) <| .loadAt1 (hrg13 m4 rfl) (q := 0) rfl rfl rfl U2 rfl <| .conv rfl U2 U101 rfl .nil) fun Az Hz => ?_
  refine plz (e_litN Hz m4 100 (k := .u64) rfl rfl U153 fct36 rfl rfl rfl rfl fun g17 Az w18 Hz m18 => ?_)
  have m19 := m18.freezeN 100 rfl
  refine plz (ecl Hz Try.func78 rfl (rput_own [IntKind.u64.wrap (xs.getD k 0)] _ _ _ ((m19.rd (i := 100) rfl).any) (by simp) (wrap1 _)) ?_)
  rintro e w20 ⟨d1, p20, c20, rfl, hld1, hbd1, ho20, hb20⟩
  have m21 := m19.newN 101 hb20 ho20
  refine ⟨_, rfl, ?_⟩; intro Az Hz
  refine plz (e_appN Hz m21 9 rfl rfl rfl (m21.numsO (i := 101) rfl) U22 fct0 (by decide) (by simp at hld1 ⊢; omega) rfl fun p23 c23 Az w24 Hz m24 => ?_)
  refine gz hK2 Hz (.assign rfl .nil) fun Az Hz => ?_
  replace Hz := Hz.oz [0, 3, 4]
  refine wp_region_lit ?_
  refine goCh Hz (.move rfl <| .inc (k + 1) <| .assign rfl .nil) fun Az Hz => ?_
  refine wpList_nil ?_
  show ∃ n', n' < _ ∧ _
  exact ⟨xs.length - (k + 1), by omega, k + 1, _, _, _, by omega, rfl, by simp at hld1 ⊢; omega, bytes_app hbb hbd1, Hz.only [0, 3, 4], m24.only [9]⟩
 intro hb9 Hz; try simp only [QQ, Qax] at hb9
 revert Hz
 obtain rfl : k = xs.length := by omega
 intro Hz
 refine wcf Hz ?_
 refine wp_exit ?_
 refine hK0 _ _ ?_
 refine regS Hz (.move rfl <| .assign rfl .nil) fun Az Hz => ?_
 refine rt1 Hz ?_
 exact ⟨_, _, _, rfl, hbl, hbb, m4.ok 9 _ rfl, m4.below⟩
theorem rlump (xs : List Int) (q : Option Addr) (cq : Nat) (w0 : World) (h0 : Rd (fun _ => True) w0 (.slice q xs.length cq) (.ns .u8 xs)) (hl : xs.length ≤ 1000000) (hxb : BytesL xs) :
   Calls Try.prog 80 #[.slice q xs.length cq] w0 fun e w' => ∃ (b : List Int) (p : Option Addr) (c : Nat), e = .returned (.slice p b.length c) ∧ b.length ≤ 10 + xs.length ∧ BytesL b ∧ w'.ownsRow w0.heap.size 5 1 (.slice p b.length c) b.length (b.map (Value.int .u8)) ∧ Below w0.heap.size w0 w' := by
 refine ent1 Try.func80 rfl Try.ntmps80 fun Az Hz => ?_
 have m0 := MemOk.start (fun _ => False) w0
 refine regS Hz (.assign rfl .nil) fun Az Hz => ?_
 refine zsr fun K0 hK0 => ?_
 refine goCh Hz (.move rfl <| .len rfl U22 <| .conv rfl U3 U101 rfl .nil) fun Az Hz => ?_
 refine plz (e_litN Hz m0 20 (k := .u64) rfl rfl U153 fct36 rfl rfl rfl rfl fun g8 Az w9 Hz m9 => ?_)
 have m10 := m9.freezeN 20 rfl
 refine plz (ecl Hz Try.func78 rfl (rput_own [IntKind.u64.wrap ((xs.length : Int))] _ _ _ ((m10.rd (i := 20) rfl).any) (by simp) (wrap1 _)) ?_)
 rintro e w11 ⟨d1, p11, c11, rfl, hld1, hbd1, ho11, hb11⟩
 have m12 := m10.newN 21 hb11 ho11
 refine ⟨_, rfl, ?_⟩; intro Az Hz
 refine goCh Hz (.move rfl .nil) fun Az Hz => ?_
 refine plz (e_appN Hz m12 21 rfl rfl rfl (h0.now' m12 rfl).ns_out.nums U22 fct0 (by decide) (by simp at hld1 ⊢; omega) rfl fun p15 c15 Az w16 Hz m16 => ?_)
 refine gz hK0 Hz (.assign rfl .nil) fun Az Hz => ?_
 refine rt1 Hz ?_
 exact ⟨_, _, _, rfl, (by simp at hld1 ⊢; omega), bytes_app hbd1 hxb, m16.ok 21 _ rfl, m16.below⟩
end Go.Proofs.Yteglmahnkfgelaa.K
end
section
namespace Go.Proofs.Yteglmahnkfgelaa.K
open Go.ChangeShapes Go.WideShapes Go.ChangeAt Go.RowKit
set_option linter.unusedVariables false
set_option linter.unusedSimpArgs false
def ItsS (es : List (Int × List Int)) : Prop := ∀ e ∈ es, e.2.length ≤ 1000 ∧ BytesL e.2
set_option maxRecDepth 100000
set_option maxHeartbeats 4000000
theorem rplace (xs : List Int) (q : Option Addr) (cq : Nat) (w0 : World) (h0 : Rd (fun _ => True) w0 (.slice q xs.length cq) (.ns .i64 xs)) (hl : xs.length ≤ 1000000) :
   Calls Try.prog 58 #[.slice q xs.length cq] w0 fun e w' => ∃ (b : List Int) (p : Option Addr) (c : Nat), e = .returned (.slice p b.length c) ∧ b.length ≤ 10 + 10 * xs.length ∧ BytesL b ∧ w'.ownsRow w0.heap.size 5 1 (.slice p b.length c) b.length (b.map (Value.int .u8)) ∧ Below w0.heap.size w0 w' := by
 refine ent1 Try.func58 rfl Try.ntmps58 fun Az Hz => ?_
 have m0 := MemOk.start (fun _ => False) w0
 refine regS Hz (.assign rfl .nil) fun Az Hz => ?_
 refine zsr fun K0 hK0 => ?_
 refine goCh Hz (.move rfl <| .len rfl U24 .nil) fun Az Hz => ?_
 refine plz (e_litN Hz m0 20 (k := .i64) rfl rfl U25 fct25 rfl rfl rfl rfl fun g6 Az w7 Hz m7 => ?_)
 have m8 := m7.freezeN 20 rfl
 refine plz (ecl Hz Try.func57 rfl (rnums16 [(xs.length : Int)] _ _ _ ((m8.rd (i := 20) rfl).any) (by simp)) ?_)
 rintro e w9 ⟨d0, p9, c9, rfl, hld0, hbd0, ho9, hb9⟩
 have m10 := m8.newN 21 hb9 ho9
 refine ⟨_, rfl, ?_⟩; intro Az Hz
 refine gz hK0 Hz (.assign rfl .nil) fun Az Hz => ?_
 refine wsk fun K1 hK1 => ?_
 refine regS Hz (.assign rfl .nil) fun Az Hz => ?_
 refine wp_block ?_
 refine wp_loop_ghost (fun g a w => ∃ (k : Nat) (b : List Int) (p : Option Addr) (c : Nat), k ≤ xs.length ∧ g = xs.length - k ∧ b.length ≤ 10 + 10 * k ∧ BytesL b ∧ Has 24 [(0, .slice q xs.length cq), (3, .slice p b.length c), (4, .int .i64 k)] a ∧ MemOk (cn w0) w0 [(9, .num (.slice p b.length c) 5 .u8 b)] w) (xs.length) ?_ ?_
 · exact ⟨0, d0, _, _, Nat.zero_le _, rfl, by simpa using hld0, hbd0, Hz.only [0, 3, 4], m10.ren [(9, 21)] (by decide)⟩
 clear Hz m10
 rintro g Az w14 ⟨k, b, p, c, hkl, hg, hbl, hbb, Hz, m14⟩
 refine wsk fun K2 hK2 => ?_
 refine regS Hz (.move rfl <| .move rfl <| .len rfl U24 <| .lss rfl rfl .nil) fun Az Hz => ?_
 refine bc Hz 12 ?_ ?_
 ·
  intro hb19 Hz; try simp only [QQ, Qax] at hb19
  have hk : k < xs.length := by omega
  refine wct Hz ?_
  refine zss (hK2 _ _ ?_)
  refine wsk fun K3 hK3 => ?_
  refine wp_block ?_
  refine wp_region_lit ?_
  refine goCh Hz (.move rfl <| .move rfl <| .move rfl .nil) fun Az Hz => ?_
  obtain ⟨gx23, ox23, hp23, hl23, hrg23⟩ := h0.extN (k) hk
  revert Hz
  cases hp23
  intro Hz
  refine goCh Hz (.c rfl (fun _ h => y_idx h rfl rfl U24 fct22 (k) rfl hk) <| .loadAt1 (hrg23 m14 rfl) (q := 0) rfl rfl rfl U3 rfl .nil) fun Az Hz => ?_
  refine plz (e_litN Hz m14 100 (k := .i64) rfl rfl U25 fct25 rfl rfl rfl rfl fun g26 Az w27 Hz m27 => ?_)
  have m28 := m27.freezeN 100 rfl
  refine plz (ecl Hz Try.func57 rfl (rnums16 [xs.getD k 0] _ _ _ ((m28.rd (i := 100) rfl).any) (by simp)) ?_)
  rintro e w29 ⟨d1, p29, c29, rfl, hld1, hbd1, ho29, hb29⟩
  have m30 := m28.newN 101 hb29 ho29
  refine ⟨_, rfl, ?_⟩; intro Az Hz
  refine plz (e_appN Hz m30 9 rfl rfl rfl (m30.numsO (i := 101) rfl) U22 fct0 (by decide) (by simp at hld1 ⊢; omega) rfl fun p32 c32 Az w33 Hz m33 => ?_)
  refine gz hK3 Hz (.assign rfl .nil) fun Az Hz => ?_
  replace Hz := Hz.oz [0, 3, 4]
  refine wp_region_lit ?_
  refine goCh Hz (.move rfl <| .inc (k + 1) <| .assign rfl .nil) fun Az Hz => ?_
  refine wpList_nil ?_
  show ∃ n', n' < _ ∧ _
  exact ⟨xs.length - (k + 1), by omega, k + 1, _, _, _, by omega, rfl, by simp at hld1 ⊢; omega, bytes_app hbb hbd1, Hz.only [0, 3, 4], m33.only [9]⟩
 intro hb19 Hz; try simp only [QQ, Qax] at hb19
 revert Hz
 obtain rfl : k = xs.length := by omega
 intro Hz
 refine wcf Hz ?_
 refine wp_exit ?_
 refine hK1 _ _ ?_
 refine regS Hz (.move rfl <| .assign rfl .nil) fun Az Hz => ?_
 refine rt1 Hz ?_
 exact ⟨_, _, _, rfl, hbl, hbb, m14.ok 9 _ rfl, m14.below⟩
theorem rputItems (es : List (Int × List Int)) (q : Option Addr) (nn cq : Nat) (w0 : World) (h0 : Rd (fun _ => True) w0 (.slice q nn cq) (.l 2 (es.map itD))) (hl : es.length ≤ 10000) (hok : ItsS es) :
   Calls Try.prog 59 #[.slice q nn cq] w0 fun e w' => ∃ (b : List Int) (p : Option Addr) (c : Nat), e = .returned (.slice p b.length c) ∧ b.length ≤ 10 + 1020 * es.length ∧ BytesL b ∧ w'.ownsRow w0.heap.size 5 1 (.slice p b.length c) b.length (b.map (Value.int .u8)) ∧ Below w0.heap.size w0 w' := by
 obtain rfl : nn = es.length := by obtain ⟨pq, c9, hv, _⟩ := h0.l_shape; injection hv with _ e2 _; rw [List.length_map] at e2; exact e2
 refine ent1 Try.func59 rfl Try.ntmps59 fun Az Hz => ?_
 have m0 := MemOk.start (fun _ => False) w0
 refine regS Hz (.assign rfl .nil) fun Az Hz => ?_
 refine zsr fun K0 hK0 => ?_
 refine goCh Hz (.move rfl <| .len rfl U51 .nil) fun Az Hz => ?_
 refine plz (e_litN Hz m0 20 (k := .i64) rfl rfl U25 fct25 rfl rfl rfl rfl fun g6 Az w7 Hz m7 => ?_)
 have m8 := m7.freezeN 20 rfl
 refine plz (ecl Hz Try.func79 rfl (rnums13 [(es.length : Int)] _ _ _ ((m8.rd (i := 20) rfl).any) (by simp)) ?_)
 rintro e w9 ⟨d0, p9, c9, rfl, hld0, hbd0, ho9, hb9⟩
 have m10 := m8.newN 21 hb9 ho9
 refine ⟨_, rfl, ?_⟩; intro Az Hz
 refine gz hK0 Hz (.assign rfl .nil) fun Az Hz => ?_
 refine wsk fun K1 hK1 => ?_
 refine regS Hz (.assign rfl .nil) fun Az Hz => ?_
 refine wp_block ?_
 refine wp_loop_ghost (fun g a w => ∃ (k : Nat) (b : List Int) (p : Option Addr) (c : Nat), k ≤ es.length ∧ g = es.length - k ∧ b.length ≤ 10 + 1020 * k ∧ BytesL b ∧ Has 32 [(0, .slice q es.length cq), (3, .slice p b.length c), (4, .int .i64 k)] a ∧ MemOk (cn w0) w0 [(9, .num (.slice p b.length c) 5 .u8 b)] w) (es.length) ?_ ?_
 · exact ⟨0, d0, _, _, Nat.zero_le _, rfl, by simpa using hld0, hbd0, Hz.only [0, 3, 4], m10.ren [(9, 21)] (by decide)⟩
 clear Hz m10
 rintro g Az w14 ⟨k, b, p, c, hkl, hg, hbl, hbb, Hz, m14⟩
 refine wsk fun K2 hK2 => ?_
 refine regS Hz (.move rfl <| .move rfl <| .len rfl U51 <| .lss rfl rfl .nil) fun Az Hz => ?_
 refine bc Hz 12 ?_ ?_
 ·
  intro hb19 Hz; try simp only [QQ, Qax] at hb19
  have hk : k < es.length := by omega
  obtain ⟨⟨xb, xd⟩, hes⟩ : ∃ e, es[k]? = some e := ⟨_, List.getElem?_eq_getElem hk⟩
  have hed := hok _ (List.mem_of_getElem? hes)
  dsimp only at hed
  refine wct Hz ?_
  refine zss (hK2 _ _ ?_)
  refine wsk fun K3 hK3 => ?_
  refine wp_block ?_
  obtain ⟨gx21, ox21, vx21, hp21, hl21, hR21, hrg21⟩ := h0.extA (k) (r := [.v (.int .i64 xb), .ns .u8 xd]) (itD_get hes)
  revert Hz
  cases hp21
  rcases hR21 with _ | ⟨hd21_0, _ | ⟨hd21_1, _ | _⟩⟩
  obtain rfl := hd21_0.v_out
  clear hd21_0
  obtain ⟨p22, c22, hv22, hw22⟩ := hd21_1.ns_shape; subst hv22
  intro Hz
  obtain ⟨gx24, ox24, vx24, hp24, hl24, hR24, hrg24⟩ := h0.extA (k) (r := [.v (.int .i64 xb), .ns .u8 xd]) (itD_get hes)
  revert Hz
  cases hp24
  rcases hR24 with _ | ⟨hd24_0, _ | ⟨hd24_1, _ | _⟩⟩
  obtain rfl := hd24_0.v_out
  clear hd24_0
  obtain ⟨p25, c25, hv25, hw25⟩ := hd24_1.ns_shape; subst hv25
  intro Hz
  have m26 := m14.oz [9]
  refine region_p 17 (B := []) (m26.to trivial) m26 (by kernel_rfl) (fun w27 hP27 m27 => ?_); clear m26
  refine goR hP27 [0, 1, 2, 3, 4, 5, 9, 10, 11, 12, 13] [5, 13] 11 0 15935 Hz (m27.to trivial) (.move rfl <| .move rfl <| .move rfl <| .p (fun _ _ h => y_idx h rfl rfl U51 fct31 (k) rfl hk) <| .fieldAddrQ 0 rfl U50 rfl (s := 0) (by kernel_rfl) rfl <| .loadAt1 (fun _ h => (hrg21 h rfl)) (q := 0) rfl rfl rfl U3 rfl <| .move rfl <| .move rfl <| .p (fun _ _ h => y_idx h rfl rfl U51 fct31 (k) rfl hk) <| .fieldAddrQ 1 rfl U50 rfl (s := 0) (by kernel_rfl) rfl <| .loadAt1 (fun _ h => (hrg24 h rfl)) (q := 1) rfl rfl rfl U22 rfl .nil) fun Az Hz => ?_
  refine so 6 ?_
  refine e_litN Hz m27 102 (k := .i64) rfl rfl U25 fct25 rfl rfl rfl rfl fun g39 Az w40 Hz m40 => ?_
  refine ⟨m40.to trivial, ?_⟩
  have m41 := m40.freezeN 102 rfl
  refine so 7 ?_
  refine ecl Hz Try.func79 rfl (rnums13 [xb] _ _ _ ((m41.rd (i := 102) rfl).any) (by simp)) ?_
  rintro e w42 ⟨d1, p42, c42, rfl, hld1, hbd1, ho42, hb42⟩
  have m43 := m41.newN 103 hb42 ho42
  refine ⟨_, rfl, ?_⟩; intro Az Hz
  refine ⟨m43.to trivial, ?_⟩
  refine so 8 ?_
  refine e_appN Hz m43 9 rfl rfl rfl (m43.numsO (i := 103) rfl) U22 fct0 (by decide) (by simp at hld1 ⊢; omega) rfl fun p45 c45 Az w46 Hz m46 => ?_
  refine ⟨m46.to trivial, ?_⟩
  refine so 14 ?_
  refine ecl Hz Try.func80 rfl (rlump xd _ _ _ ((hd24_1.now' m46 rfl).any) (by omega) hed.2) ?_
  rintro e w47 ⟨d2, p47, c47, rfl, hld2, hbd2, ho47, hb47⟩
  have m48 := m46.newN 104 hb47 ho47
  refine ⟨_, rfl, ?_⟩; intro Az Hz
  refine ⟨m48.to trivial, ?_⟩
  refine so 15 ?_
  refine e_appN Hz m48 9 rfl rfl rfl (m48.numsO (i := 104) rfl) U22 fct0 (by decide) (by simp at hld1 ⊢; omega) rfl fun p50 c50 Az w51 Hz m51 => ?_
  refine ⟨m51.to trivial, ?_⟩
  refine goA hP27 [16] 1 65535 131071 Hz (m51.to trivial) (.assign rfl .nil) fun Az Hz => ?_
  refine wpAnyE_done (by kernel_rfl) ?_ _
  refine hK3 _ _ ?_
  replace Hz := Hz.oz [0, 3, 4]
  refine wp_region_lit ?_
  refine goCh Hz (.move rfl <| .inc (k + 1) <| .assign rfl .nil) fun Az Hz => ?_
  refine wpList_nil ?_
  show ∃ n', n' < _ ∧ _
  exact ⟨es.length - (k + 1), by omega, k + 1, _, _, _, by omega, rfl, by simp at hld1 ⊢; omega, bytes_app (bytes_app hbb hbd1) hbd2, Hz.only [0, 3, 4], m51.only [9]⟩
 intro hb19 Hz; try simp only [QQ, Qax] at hb19
 revert Hz
 obtain rfl : k = es.length := by omega
 intro Hz
 refine wcf Hz ?_
 refine wp_exit ?_
 refine hK1 _ _ ?_
 refine regS Hz (.move rfl <| .assign rfl .nil) fun Az Hz => ?_
 refine rt1 Hz ?_
 exact ⟨_, _, _, rfl, hbl, hbb, m14.ok 9 _ rfl, m14.below⟩
end Go.Proofs.Yteglmahnkfgelaa.K
end
section
namespace Go.Proofs.Yteglmahnkfgelaa.K
open Go.ChangeShapes Go.WideShapes Go.ChangeAt Go.RowKit
set_option linter.unusedVariables false
set_option linter.unusedSimpArgs false
theorem fl50tI : flatS Try.prog 50 [.int .i64 0, .slice none 0 0] = true := by kernel_rfl
theorem its_snoc {es : List (Int × List Int)} {x : Int × List Int} (h : (∀ e ∈ es, e.2.length ≤ 32 ∧ BytesL e.2)) (hx : x.2.length ≤ 32 ∧ BytesL x.2) : ∀ e ∈ es ++ [x], e.2.length ≤ 32 ∧ BytesL e.2 := fun e he => by
 rcases List.mem_append.1 he with h1 | h1
 · exact h e h1
 rw [List.mem_singleton.1 h1]; exact hx
set_option maxRecDepth 100000
set_option maxHeartbeats 4000000
theorem rtakeItems (X : Cx) (B : Nat) (b : List Int) (er : Int) (p : Option Addr) (c : Nat) (w0 : World) (hb : b.length ≤ 1000000) (hbb : BytesL b) (m0 : MemOk X w0 [(1, .box B 145 [.slice p b.length c, .int .i64 er]), (2, .dat (.slice p b.length c) (.ns .u8 b))] w0) :
   Calls Try.prog 84 #[.pointer (some ⟨B, 0, none⟩)] w0 fun e w' => ∃ (es : List (Int × List Int)) (b' : List Int) (p' : Option Addr) (c' : Nat) (er' : Int) (p3 : Option Addr) (c3 : Nat), e = .returned (.slice p3 (es.map itD).length c3) ∧ es.length ≤ 8 ∧ (∀ e ∈ es, e.2.length ≤ 32 ∧ BytesL e.2) ∧ b'.length ≤ b.length ∧ BytesL b' ∧ MemOk X w0 [(1, .box B 145 [.slice p' b'.length c', .int .i64 er']), (2, .dat (.slice p' b'.length c') (.ns .u8 b')), (3, .dat (.slice p3 (es.map itD).length c3) (.l 2 (es.map itD)))] w' := by
 refine ent1 Try.func84 rfl Try.ntmps84 fun Az Hz => ?_
 refine regS Hz (.assign rfl .nil) fun Az Hz => ?_
 refine regS Hz (.assign rfl .nil) fun Az Hz => ?_
 refine zsr fun K0 hK0 => ?_
 refine goCh Hz (.move rfl .nil) fun Az Hz => ?_
 refine plz (ecl Hz Try.func82 rfl (rnum _ _ b _ 8 _ _ _ (by omega) hbb (by decide) (m0.into [(1, 1), (2, 2)] (by decide) rfl)) ?_)
 rintro e w5 ⟨un, b2, p5, c5, er5, rfl, huun, hbl2, hbb2, hm5⟩
 have mx5 := m0.back hm5 [(1, 1), (2, 2)] (by decide); clear hm5 m0
 have m5 := mx5.oz [1, 2]
 refine ⟨_, rfl, ?_⟩; intro Az Hz
 refine gz hK0 Hz (.assign rfl .nil) fun Az Hz => ?_
 refine wsk fun K1 hK1 => ?_
 refine regS Hz (.assign rfl .nil) fun Az Hz => ?_
 refine wp_block ?_
 refine wp_loop_ghost (fun g a w => ∃ (k : Nat) (es : List (Int × List Int)) (b1 : List Int) (p1 : Option Addr) (c1 : Nat) (er1 : Int) (p3 : Option Addr) (c3 : Nat), (k : Int) ≤ un ∧ g = un.toNat - k ∧ es.length ≤ k ∧ (∀ e ∈ es, e.2.length ≤ 32 ∧ BytesL e.2) ∧ b1.length ≤ b.length ∧ BytesL b1 ∧ Has 33 [(0, .pointer (some ⟨B, 0, none⟩)), (3, .slice p3 (es.map itD).length c3), (4, .int .u64 un), (5, .int .u64 (k : Int))] a ∧ MemOk X w0 [(1, .box B 145 [.slice p1 b1.length c1, .int .i64 er1]), (2, .dat (.slice p1 b1.length c1) (.ns .u8 b1)), (9, .row (.slice p3 (es.map itD).length c3) 50 2 (es.map itD))] w) (un.toNat) ?_ ?_
 · have mz := m5.nilR 9 50 2
   exact ⟨0, [], b2, _, _, _, _, _, by omega, rfl, Nat.le_refl _, (fun e h => by cases h), hbl2, hbb2, Hz.only [0, 3, 4, 5], mz.only [1, 2, 9]⟩
 clear Hz m5
 rintro g Az w9 ⟨k, es, b1, p1, c1, er1, p3, c3, hku, hg, hel, hes, hbl1, hbb1, Hz, m9⟩
 refine wsk fun K2 hK2 => ?_
 refine zsr fun K3 hK3 => ?_
 refine goCh Hz (.move rfl <| .move rfl <| .lss rfl rfl <| .move rfl .nil) fun Az Hz => ?_
 refine bc Hz 12 ?_ ?_
 ·
  intro hb18 Hz; try simp only [QQ, Qax] at hb18
  refine gz hK3 Hz (.moveZ rfl <| .nilCheckZ rfl <| .faZ 1 rfl U145 <| .loadB1Z m9 (i := 1) rfl rfl rfl U3 rfl <| .eqlZ rfl rfl <| .pickT rfl rfl <| .nil) fun Az Hz => ?_
  refine bc Hz 18 ?_ ?_
  ·
   intro hb25 Hz; try simp only [QQ, Qax] at hb25
   refine wct Hz ?_
   refine zss (hK2 _ _ ?_)
   refine wsk fun K4 hK4 => ?_
   refine wp_block ?_
   replace Hz := Hz.oz [0, 3, 4, 5]
   refine zsr fun K5 hK5 => ?_
   refine goCh Hz (.move rfl .nil) fun Az Hz => ?_
   refine plz (ecl Hz Try.func82 rfl (rnum _ _ b1 _ 256 _ _ _ (by omega) hbb1 (by decide) (m9.into [(1, 1), (2, 2)] (by decide) rfl)) ?_)
   rintro e w29 ⟨uv, b3, p29, c29, er29, rfl, huuv, hbl3, hbb3, hm29⟩
   have mx29 := m9.back hm29 [(1, 1), (2, 2)] (by decide); clear hm29 m9
   have m29 := mx29.oz [1, 2, 9]
   refine ⟨_, rfl, ?_⟩; intro Az Hz
   refine gz hK5 Hz (.conv rfl U101 U3 (r := uv) (IntWalk.i64_in _ (by omega)) <| .assign rfl <| .nil) fun Az Hz => ?_
   refine wp_region_lit ?_
   refine goCh Hz (.move rfl <| .move rfl <| .move rfl .nil) fun Az Hz => ?_
   refine plz (ecl Hz Try.func93 rfl (rlumpR _ _ b3 _ 32 _ _ _ (by omega) hbb3 (by decide) (m29.into [(1, 1), (2, 2)] (by decide) rfl)) ?_)
   rintro e w36 ⟨xd, b4, p36, c36, er36, p336, c336, rfl, hxd, hbxd, hbl4, hbb4, hm36⟩
   have mx36 := m29.back hm36 [(1, 1), (2, 2), (100, 3)] (by decide); clear hm36 m29
   have m36 := mx36.oz [1, 2, 100, 9]
   refine ⟨_, rfl, ?_⟩; intro Az Hz
   refine plz (e_app0N Hz m36 101 rfl rfl (m36.nums (i := 100) rfl) U22 fct0 (by decide) (by omega) rfl fun p38 c38 Az w39 Hz m39 => ?_)
   refine goCh Hz (.build rfl fct7 fl50tI rfl (by dsimp only [setL, List.set] <;> rfl) .nil) fun Az Hz => ?_
   have m42 := m39.freezeN 101 rfl
   refine plz (e_litR Hz m42 102 (mm := 2) rfl (.cons rfl rfl (.cons (.v _) (.cons (m42.rd (i := 101) rfl) .nil)) .nil) U51 fct1 rfl rfl rfl rfl rfl fun g41 Az w43 Hz m43 => ?_)
   have m45 := m43.freezeR 102 rfl
   refine plz (e_appR Hz m45 9 rfl rfl rfl (m45.rd (i := 102) rfl) U51 fct1 rfl rfl (by decide) (by simp; omega) rfl fun p44 c44 Az w46 Hz m46 => ?_)
   refine gz hK4 Hz (.assign rfl .nil) fun Az Hz => ?_
   replace Hz := Hz.oz [0, 3, 4, 5]
   refine wp_region_lit ?_
   refine goCh Hz (.move rfl <| .add rfl rfl (r := ((k + 1 : Nat) : Int)) (by rw [IntWalk.u64_in _ (by omega)]; omega) <| .assign rfl .nil) fun Az Hz => ?_
   refine wpList_nil ?_
   show ∃ n', n' < _ ∧ _
   have hE : es.map itD ++ [[D.v (.int .i64 uv), .ns .u8 xd]] = (es ++ [(uv, xd)]).map itD := by rw [List.map_append]; rfl
   rw [hE] at m46 Hz
   exact ⟨un.toNat - (k + 1), by omega, k + 1, es ++ [(uv, xd)], b4, _, _, _, _, _, by omega, rfl, by simp; omega, its_snoc hes ⟨by have := hxd; simp only; omega, hbxd⟩, by omega, hbb4, Hz.only [0, 3, 4, 5], m46.only [1, 2, 9]⟩
  intro hb25 Hz; try simp only [QQ, Qax] at hb25
  refine wcf Hz ?_
  refine wp_exit ?_
  refine hK1 _ _ ?_
  replace Hz := Hz.oz [0, 3, 4, 5]
  refine regS Hz (.move rfl <| .assign rfl .nil) fun Az Hz => ?_
  refine rt1 Hz ?_
  have m55 := m9.freezeR 9 rfl
  exact ⟨es, b1, _, _, _, _, _, rfl, by omega, hes, hbl1, hbb1, m55.ren [(1, 1), (2, 2), (3, 9)] (by decide)⟩
 intro hb18 Hz; try simp only [QQ, Qax] at hb18
 refine gz hK3 Hz (.sk <| .sk <| .sk <| .sk <| .sk <| .pickF rfl rfl <| .nil) fun Az Hz => ?_
 refine wcf Hz ?_
 refine wp_exit ?_
 refine hK1 _ _ ?_
 replace Hz := Hz.oz [0, 3, 4, 5]
 refine regS Hz (.move rfl <| .assign rfl .nil) fun Az Hz => ?_
 refine rt1 Hz ?_
 have m65 := m9.freezeR 9 rfl
 exact ⟨es, b1, _, _, _, _, _, rfl, by omega, hes, hbl1, hbb1, m65.ren [(1, 1), (2, 2), (3, 9)] (by decide)⟩
end Go.Proofs.Yteglmahnkfgelaa.K
end
section
namespace Go.Proofs.Yteglmahnkfgelaa.K
open Go.ChangeShapes Go.WideShapes Go.ChangeAt Go.RowKit
set_option linter.unusedVariables false
set_option linter.unusedSimpArgs false
theorem le_snoc {l : List Int} {k : Nat} {a : Int} (h : ∀ j, j < k → l.getD j 0 ≤ a) (hk : l.getD k 0 ≤ a) : ∀ j, j < k + 1 → l.getD j 0 ≤ a := fun j hj => by
 rcases Nat.lt_or_ge j k with h1 | h1
 · exact h j h1
 obtain rfl : j = k := by omega
 exact hk
theorem nn_snoc {l : List Int} {k : Nat} {a : Int} (h : ∀ j, j < k → l.getD j 0 ≠ a) (hk : ¬ l.getD k 0 = a) : ∀ j, j < k + 1 → l.getD j 0 ≠ a := fun j hj => by
 rcases Nat.lt_or_ge j k with h1 | h1
 · exact h j h1
 obtain rfl : j = k := by omega
 exact hk
theorem sortP_sorted (l : List Int) : (sortP l).Pairwise (· ≤ ·) := by
 have h := List.pairwise_mergeSort (le := fun (x y : Int) => decide (x ≤ y)) (fun a b c h1 h2 => by simp at h1 h2 ⊢; omega) (fun a b => by simp; omega) l
 exact h.imp (fun h => by simpa using h)
theorem pin_sorted {pins : List Int} {at0 : Int} {k : Nat} (hs : pins.Pairwise (· ≤ ·)) (hall : ∀ j, j < k → pins.getD j 0 ≤ at0) (hkl : k ≤ pins.length) (hnx : k = pins.length ∨ at0 < pins.getD k 0) : pins.take k ++ [at0] ++ pins.drop k = sortP (pins ++ [at0]) := by
 refine List.Perm.eq_of_pairwise (le := (· ≤ ·)) (fun a b _ _ h1 h2 => by omega) ?_ (sortP_sorted _) ?_
 · rw [List.append_assoc, List.pairwise_append]
   refine ⟨hs.sublist (List.take_sublist _ _), ?_, ?_⟩
   · rw [List.singleton_append, List.pairwise_cons]
     refine ⟨fun b hb => ?_, hs.sublist (List.drop_sublist _ _)⟩
     rcases hnx with rfl | hnx
     · rw [List.drop_length] at hb; cases hb
     obtain ⟨j, hj, rfl⟩ := List.getElem_of_mem hb
     rw [List.length_drop] at hj
     rw [List.getElem_drop]
     have h1 : pins.getD k 0 ≤ pins[k + j] := by
       rw [List.getD, List.getElem?_eq_getElem (by omega)]
       rcases Nat.eq_zero_or_pos j with rfl | hj0
       · exact Int.le_refl _
       exact List.pairwise_iff_getElem.1 hs k (k + j) (by omega) (by omega) (by omega)
     omega
   intro a ha b hb
   obtain ⟨j, hj, rfl⟩ := List.getElem_of_mem ha
   rw [List.length_take] at hj
   rw [List.getElem_take]
   have h1 : pins[j] ≤ at0 := by have := hall j (by omega); rwa [List.getD, List.getElem?_eq_getElem (by omega)] at this
   rcases List.mem_append.1 hb with hb | hb
   · simp at hb; omega
   obtain ⟨i, hi, rfl⟩ := List.getElem_of_mem hb
   rw [List.length_drop] at hi
   rw [List.getElem_drop]
   exact List.pairwise_iff_getElem.1 hs j (k + i) (by omega) (by omega) (by omega)
 refine List.Perm.trans ?_ (List.mergeSort_perm _ _).symm
 rw [List.append_assoc]
 refine (List.Perm.append_left _ (List.perm_append_comm)).trans ?_
 rw [← List.append_assoc, List.take_append_drop]
set_option maxRecDepth 100000
set_option maxHeartbeats 4000000
theorem rdone (X : Cx) (vo bl sz pe to ne fl : Int) (hi : Bool) (place pins : List Int) (ws : List (Int × List (Int × List Int))) (items : List (Int × List Int)) (pp pn pw : Option Addr) (cp cn9 cw : Nat) (pi : Option Addr) (ci : Nat) (kd v1 v2 v3 v4 v5 at0 ix : Int) (q1 : Option Addr) (n1 c1 : Nat) (w0 : World) (hk4 : kd ≠ 4) (hk5 : kd ≠ 5) (hne : -1000000000000000 ≤ ne ∧ ne ≤ 1000000000000000) (hl : ws.length ≤ 900000) (hp : pins.length ≤ 1000000) (hil : items.length ≤ 1000000) (hio : ItsOk items) (m0 : MemOk X w0 [(1, .dat (.slice pp place.length cp) (.ns .i64 place)), (2, .dat (.slice pn pins.length cn9) (.ns .i64 pins)), (3, .dat (.slice pw (ws.map wrD).length cw) (.l 2 (ws.map wrD))), (4, .dat (.slice pi items.length ci) (.l 2 (items.map itD)))] w0) :
   Calls Try.prog 85 #[.agg #[.int .i64 vo, .int .i64 bl, .int .i64 sz, .int .i64 pe, .slice pp place.length cp, .int .i64 to, .int .i64 ne, .bool hi, .int .i64 fl, .slice pn pins.length cn9, .slice pw (ws.map wrD).length cw], .agg #[.int .i64 kd, .int .i64 v1, .int .i64 v2, .int .i64 v3, .int .i64 v4, .slice q1 n1 c1, .int .i64 v5, .int .i64 at0, .int .i64 ix, .slice pi items.length ci]] w0 fun e w' => ∃ (ne' : Int) (hi' : Bool) (fl' : Int) (ws' : List (Int × List (Int × List Int))) (e9 : Int) (p3' : Option Addr) (d3' : Nat), e = .returned (.tuple #[.agg #[.int .i64 vo, .int .i64 bl, .int .i64 sz, .int .i64 pe, .slice pp place.length cp, .int .i64 to, .int .i64 ne', .bool hi', .int .i64 fl', .slice pn pins.length cn9, .slice p3' (ws'.map wrD).length d3'], .int .i64 e9]) ∧ doR bl sz to ne fl hi pins ws kd at0 ix items = (ne', hi', fl', ws', e9) ∧ MemOk X w0 [(1, .dat (.slice pp place.length cp) (.ns .i64 place)), (2, .dat (.slice pn pins.length cn9) (.ns .i64 pins)), (3, .dat (.slice pw (ws.map wrD).length cw) (.l 2 (ws.map wrD))), (4, .dat (.slice pi items.length ci) (.l 2 (items.map itD))), (7, .dat (.slice p3' (ws'.map wrD).length d3') (.l 2 (ws'.map wrD)))] w' := by
 refine ent2 Try.func85 rfl Try.ntmps85 fun Az Hz => ?_
 refine zsr fun K0 hK0 => ?_
 refine plz (e_box Hz m0 20 (cs := [_, _, _, _, _, _, _, _, _, _, _]) rfl rfl rfl fun g1 Az w2 Hz m2 _ _ => ?_)
 refine plz (e_box Hz m2 21 (cs := [_, _, _, _, _, _, _, _, _, _]) rfl rfl rfl fun g3 Az w4 Hz m4 _ _ => ?_)
 refine plz (e_alloc Hz m4 22 fct20 rfl fun g5 Az w6 Hz m6 _ _ => ?_)
 refine gz hK0 Hz (.assign rfl .nil) fun Az Hz => ?_
 refine wsk fun K1 hK1 => ?_
 refine regS Hz (.fa 0 rfl U73 <| .lb m6 21 U3 rfl rfl rfl .nil) fun Az Hz => ?_
 refine wp_block ?_
 refine wsk fun K2 hK2 => ?_
 refine regS Hz (.eql rfl rfl <| .assign rfl .nil) fun Az Hz => ?_
 refine bc Hz 10 ?_ ?_
 ·
  intro hb12 Hz; try simp only [QQ, Qax] at hb12
  refine wct Hz ?_
  refine zss (hK2 _ _ ?_)
  refine wct Hz ?_
  refine regS Hz (.fa 7 rfl U28 <| .lb m6 20 U4 rfl rfl rfl .nil) fun Az Hz => ?_
  refine bc Hz 16 ?_ ?_
  ·
   intro hb15 Hz; try simp only [QQ, Qax] at hb15
   refine wct Hz ?_
   replace Hz := Hz.oz [2, 3, 4, 5, 10, 16]
   refine zsr fun K3 hK3 => ?_
   refine goCh Hz (.loadBR m6 (i := 20) rfl rfl U28 rfl fct17 (by simp) (by dsimp only [List.drop, List.take] <;> rfl) .nil) fun Az Hz => ?_
   refine plz (stw Hz m6 22 fct17 fun w19 m19 _ => ?_)
   refine gz hK3 Hz (.assign rfl .nil) fun Az Hz => ?_
   refine rtd (retCT (fn := Try.f85) Hz m19 (i := 22) rfl rfl rfl rfl U28 rfl fct17 ?_)
   have m21 := m19.dat 23 rfl (m19.rd (i := 3) rfl)
   exact ⟨ne, hi, fl, ws, 28, _, _, rfl, by rw [doR, if_pos (by omega), putR, if_pos (by assumption)], m21.ren [(1, 1), (2, 2), (3, 3), (4, 4), (7, 23)] (by decide)⟩
  intro hb15 Hz; try simp only [QQ, Qax] at hb15
  refine wcf Hz ?_
  refine zss (hK1 _ _ ?_)
  refine wsk fun K4 hK4 => ?_
  replace Hz := Hz.oz [2, 3, 4, 5, 10, 16]
  refine regS Hz (.fa 0 rfl U73 <| .lb m6 21 U3 rfl rfl rfl .nil) fun Az Hz => ?_
  refine wp_block ?_
  refine regS Hz (.eql rfl rfl <| .assign rfl .nil) fun Az Hz => ?_
  refine bc Hz 21 ?_ ?_
  rotate_left
  · intro hb _; exact absurd hb (by simp; omega)
  clear Hz; intro _ Hz
  refine wct Hz ?_
  refine wsk fun K5 hK5 => ?_
  refine zsr fun K6 hK6 => ?_
  refine goCh Hz (.fa 1 rfl U28 <| .lb m6 20 U3 rfl rfl rfl <| .fa 2 rfl U28 <| .lb m6 20 U3 rfl rfl rfl <| .fa 9 rfl U73 <| .lb m6 21 U51 rfl rfl rfl .nil) fun Az Hz => ?_
  refine plz (ecl Hz Try.func94 rfl (ritems_any _ _ items _ _ _ _ ((m6.rd (i := 4) rfl).any) hil) ?_)
  rintro e w40 ⟨ib, rfl, hib, hb40⟩
  have m41 := m6.later hb40
  refine ⟨_, rfl, ?_⟩; intro Az Hz
  refine gz hK6 Hz (.not rfl .nil) fun Az Hz => ?_
  refine bc Hz 30 ?_ ?_
  ·
   intro hb44 Hz; try simp only [QQ, Qax] at hb44
   refine wct Hz ?_
   replace Hz := Hz.oz [2, 3, 4, 5, 10, 16, 19, 21, 28, 30]
   refine zsr fun K7 hK7 => ?_
   refine goCh Hz (.loadBR m41 (i := 20) rfl rfl U28 rfl fct17 (by simp) (by dsimp only [List.drop, List.take] <;> rfl) .nil) fun Az Hz => ?_
   refine plz (stw Hz m41 22 fct17 fun w48 m48 _ => ?_)
   refine gz hK7 Hz (.assign rfl .nil) fun Az Hz => ?_
   refine rtd (retCT (fn := Try.f85) Hz m48 (i := 22) rfl rfl rfl rfl U28 rfl fct17 ?_)
   have m50 := m48.dat 23 rfl (m48.rd (i := 3) rfl)
   exact ⟨ne, hi, fl, ws, 23, _, _, rfl, by rw [doR, if_pos (by omega), putR, if_neg (by simp_all), wrR, if_neg (fun h => by have h9 := hib.2 h; simp_all)], m50.ren [(1, 1), (2, 2), (3, 3), (4, 4), (7, 23)] (by decide)⟩
  intro hb44 Hz; try simp only [QQ, Qax] at hb44
  refine wcf Hz ?_
  refine zss (hK5 _ _ ?_)
  replace Hz := Hz.oz [2, 3, 4, 5, 10, 16, 19, 21, 28, 30]
  refine zsr fun K8 hK8 => ?_
  refine goCh Hz (.loadBR m41 (i := 20) rfl rfl U28 rfl fct17 (by simp) (by dsimp only [List.drop, List.take] <;> rfl) <| .fa 9 rfl U73 <| .lb m41 21 U51 rfl rfl rfl .nil) fun Az Hz => ?_
  refine plz (ecl Hz Try.func95 rfl (rwrite_fr _ _ _ _ _ _ _ _ _ place pins ws items _ _ _ _ _ _ _ _ _ hl hil hio (m41.into [(1, 1), (2, 2), (3, 3), (4, 4)] (by decide) rfl)) ?_)
  rintro e w58 ⟨p58, c58, rfl, hm58⟩
  have mx58 := m41.back hm58 [(1, 1), (2, 2), (3, 3), (4, 4), (23, 7)] (by decide); clear hm58 m41
  have m58 := mx58.oz [1, 2, 3, 4, 23, 20, 21, 22]
  refine ⟨_, rfl, ?_⟩; intro Az Hz
  refine plz (stw Hz m58 22 fct17 fun w60 m60 _ => ?_)
  refine gz hK8 Hz (.assign rfl .nil) fun Az Hz => ?_
  refine rtd (retCT (fn := Try.f85) Hz m60 (i := 22) rfl rfl rfl rfl U28 rfl fct17 ?_)
  exact ⟨ne, hi, fl, (ws ++ [((ws.length : Int) + 1, items)]), 0, _, _, rfl, by rw [doR, if_pos (by omega), putR, if_neg (by simp_all), wrR, if_pos (hib.1 (by simp_all))], m60.ren [(1, 1), (2, 2), (3, 3), (4, 4), (7, 23)] (by decide)⟩
 intro hb12 Hz; try simp only [QQ, Qax] at hb12
 refine wcf Hz ?_
 refine regS Hz (.eql rfl rfl <| .assign rfl .nil) fun Az Hz => ?_
 refine bc Hz 10 ?_ ?_
 ·
  intro hb64 Hz; try simp only [QQ, Qax] at hb64
  refine wct Hz ?_
  refine zss (hK2 _ _ ?_)
  refine wct Hz ?_
  replace Hz := Hz.oz [2, 3, 4, 5, 10]
  refine regS Hz (.fa 7 rfl U28 <| .lb m6 20 U4 rfl rfl rfl .nil) fun Az Hz => ?_
  refine bc Hz 16 ?_ ?_
  ·
   intro hb68 Hz; try simp only [QQ, Qax] at hb68
   refine wct Hz ?_
   refine zsr fun K9 hK9 => ?_
   refine goCh Hz (.loadBR m6 (i := 20) rfl rfl U28 rfl fct17 (by simp) (by dsimp only [List.drop, List.take] <;> rfl) .nil) fun Az Hz => ?_
   refine plz (stw Hz m6 22 fct17 fun w71 m71 _ => ?_)
   refine gz hK9 Hz (.assign rfl .nil) fun Az Hz => ?_
   refine rtd (retCT (fn := Try.f85) Hz m71 (i := 22) rfl rfl rfl rfl U28 rfl fct17 ?_)
   have m73 := m71.dat 23 rfl (m71.rd (i := 3) rfl)
   exact ⟨ne, hi, fl, ws, 28, _, _, rfl, by rw [doR, if_neg (by omega), if_pos (by omega), pruneR]; simp_all [reachR], m73.ren [(1, 1), (2, 2), (3, 3), (4, 4), (7, 23)] (by decide)⟩
  intro hb68 Hz; try simp only [QQ, Qax] at hb68
  refine wcf Hz ?_
  refine zss (hK1 _ _ ?_)
  refine wsk fun K10 hK10 => ?_
  refine regS Hz (.fa 0 rfl U73 <| .lb m6 21 U3 rfl rfl rfl .nil) fun Az Hz => ?_
  refine wp_block ?_
  refine regS Hz (.eql rfl rfl <| .assign rfl .nil) fun Az Hz => ?_
  refine bc Hz 21 ?_ ?_
  · intro hb _; exact absurd hb (by simp; omega)
  clear Hz; intro _ Hz
  refine wcf Hz ?_
  refine regS Hz (.eql rfl rfl <| .assign rfl .nil) fun Az Hz => ?_
  refine bc Hz 36 ?_ ?_
  rotate_left
  · intro hb _; exact absurd hb (by simp; omega)
  clear Hz; intro _ Hz
  refine wct Hz ?_
  refine wsk fun K11 hK11 => ?_
  refine regS Hz (.fa 7 rfl U73 <| .lb m6 21 U2 rfl rfl rfl <| .fa 8 rfl U28 <| .lb m6 20 U2 rfl rfl rfl <| .lss rfl rfl .nil) fun Az Hz => ?_
  refine bc Hz 42 ?_ ?_
  ·
   intro hb87 Hz; try simp only [QQ, Qax] at hb87
   refine wct Hz ?_
   replace Hz := Hz.oz [2, 3, 4, 5, 10, 16, 19, 21, 36, 42]
   refine zsr fun K12 hK12 => ?_
   refine goCh Hz (.loadBR m6 (i := 20) rfl rfl U28 rfl fct17 (by simp) (by dsimp only [List.drop, List.take] <;> rfl) .nil) fun Az Hz => ?_
   refine plz (stw Hz m6 22 fct17 fun w91 m91 _ => ?_)
   refine gz hK12 Hz (.assign rfl .nil) fun Az Hz => ?_
   refine rtd (retCT (fn := Try.f85) Hz m91 (i := 22) rfl rfl rfl rfl U28 rfl fct17 ?_)
   have m93 := m91.dat 23 rfl (m91.rd (i := 3) rfl)
   exact ⟨ne, hi, fl, ws, 30, _, _, rfl, by rw [doR, if_neg (by omega), if_pos (by omega), pruneR]; rw [show reachR hi fl at0 (lowL ws.length pins) = 30 from by rw [reachR, if_neg (by simp_all), if_pos (by omega)]]; rfl, m93.ren [(1, 1), (2, 2), (3, 3), (4, 4), (7, 23)] (by decide)⟩
  intro hb87 Hz; try simp only [QQ, Qax] at hb87
  refine wcf Hz ?_
  refine zss (hK11 _ _ ?_)
  refine wsk fun K13 hK13 => ?_
  refine wsk fun K14 hK14 => ?_
  replace Hz := Hz.oz [2, 3, 4, 5, 10, 16, 19, 21, 36, 42]
  have m95 := m6.oz [1, 2, 3, 4, 20, 21, 22]
  refine region_p 5 (B := [(1, _), (2, _), (3, _), (4, _), (20, _), (21, _), (22, _)]) (m95.to ⟨il, il, il, il, il, il, il, trivial⟩) m95 (by kernel_rfl) (fun w96 hP96 m96 => ?_); clear m95
  refine goR hP96 [0, 1, 2] [1, 2] 3 0 7 Hz (m96.to ⟨il, il, il, il, il, il, il, trivial⟩) (.fa 7 rfl U73 <| .lb hh 21 U2 rfl rfl rfl <| .loadBR hh (i := 20) rfl rfl U28 rfl fct17 (by simp) (by dsimp only [List.drop, List.take] <;> rfl) .nil) fun Az Hz => ?_
  refine stepE_only 3 rfl (by kernel_rfl) rfl (fun K hK => ?_)
  refine e_call Hz Try.func96 rfl rfl rfl rfl (rlow_any _ _ _ _ _ _ _ _ pins _ _ _ _ _ _ _ _ _ ((m96.rd (i := 2) rfl).any) hp) ?_
  rintro e w100 ⟨rfl, hb100⟩
  rw [List.length_map]
  have m101 := m96.later hb100
  refine ⟨_, rfl, ?_⟩; intro Az Hz
  refine hK _ _ (m101.to ⟨il, il, il, il, il, il, il, trivial⟩) ?_; clear hK K
  refine goA hP96 [4] 1 15 31 Hz (m101.to ⟨il, il, il, il, il, il, il, trivial⟩) (.gtr rfl rfl .nil) fun Az Hz => ?_
  refine wpAnyE_done (by kernel_rfl) ?_ _
  refine hK14 _ _ ?_
  refine bc Hz 48 ?_ ?_
  ·
   intro hb104 Hz; try simp only [QQ, Qax] at hb104
   refine wct Hz ?_
   refine zsr fun K15 hK15 => ?_
   refine goCh Hz (.loadBR m101 (i := 20) rfl rfl U28 rfl fct17 (by simp) (by dsimp only [List.drop, List.take] <;> rfl) .nil) fun Az Hz => ?_
   refine plz (stw Hz m101 22 fct17 fun w107 m107 _ => ?_)
   refine gz hK15 Hz (.assign rfl .nil) fun Az Hz => ?_
   refine rtd (retCT (fn := Try.f85) Hz m107 (i := 22) rfl rfl rfl rfl U28 rfl fct17 ?_)
   have m109 := m107.dat 23 rfl (m107.rd (i := 3) rfl)
   exact ⟨ne, hi, fl, ws, 31, _, _, rfl, by rw [doR, if_neg (by omega), if_pos (by omega), pruneR]; rw [show reachR hi fl at0 (lowL ws.length pins) = 31 from by rw [reachR, if_neg (by simp_all), if_neg (by omega), if_pos (by omega)]]; rfl, m109.ren [(1, 1), (2, 2), (3, 3), (4, 4), (7, 23)] (by decide)⟩
  intro hb104 Hz; try simp only [QQ, Qax] at hb104
  refine wcf Hz ?_
  refine zss (hK13 _ _ ?_)
  refine wp_region_lit ?_
  refine goCh Hz (.fa 7 rfl U73 <| .lb m101 21 U2 rfl rfl rfl <| .fa 8 rfl U28 .nil) fun Az Hz => ?_
  refine plz (st1 Hz m101 20 fct9 fun w113 m113 _ => ?_)
  refine znl (hK10 _ _ ?_)
  replace Hz := Hz.oz [2, 4, 5, 10, 16, 21, 36, 42, 48]
  refine zsr fun K16 hK16 => ?_
  refine goCh Hz (.loadBR m113 (i := 20) rfl rfl U28 rfl fct17 (by simp) (by dsimp only [List.drop, List.take] <;> rfl) .nil) fun Az Hz => ?_
  refine plz (stw Hz m113 22 fct17 fun w117 m117 _ => ?_)
  refine gz hK16 Hz (.assign rfl .nil) fun Az Hz => ?_
  refine rtd (retCT (fn := Try.f85) Hz m117 (i := 22) rfl rfl rfl rfl U28 rfl fct17 ?_)
  have m119 := m117.dat 23 rfl (m117.rd (i := 3) rfl)
  exact ⟨ne, hi, at0, ws, 0, _, _, rfl, by rw [doR, if_neg (by omega), if_pos (by omega), pruneR]; rw [show reachR hi fl at0 (lowL ws.length pins) = 0 from by rw [reachR, if_neg (by simp_all), if_neg (by omega), if_neg (by omega)]]; rfl, m119.ren [(1, 1), (2, 2), (3, 3), (4, 4), (7, 23)] (by decide)⟩
 intro hb64 Hz; try simp only [QQ, Qax] at hb64
 refine wcf Hz ?_
 refine regS Hz (.eql rfl rfl <| .assign rfl .nil) fun Az Hz => ?_
 refine bc Hz 10 ?_ ?_
 · intro hb _; exact absurd hb (by simp; omega)
 clear Hz; intro _ Hz
 refine wcf Hz ?_
 replace Hz := Hz.oz [2, 3, 4, 5, 9, 10]
 refine wp_region_lit ?_
 refine gz hK2 Hz (.eql rfl rfl <| .assign rfl <| .nil) fun Az Hz => ?_
 refine bc Hz 10 ?_ ?_
 · intro hb _; exact absurd hb (by simp; omega)
 clear Hz; intro _ Hz
 refine wcf Hz ?_
 refine zss (hK1 _ _ ?_)
 refine wsk fun K17 hK17 => ?_
 refine regS Hz (.fa 0 rfl U73 <| .lb m6 21 U3 rfl rfl rfl .nil) fun Az Hz => ?_
 refine wp_block ?_
 refine regS Hz (.eql rfl rfl <| .assign rfl .nil) fun Az Hz => ?_
 refine bc Hz 21 ?_ ?_
 · intro hb _; exact absurd hb (by simp; omega)
 clear Hz; intro _ Hz
 refine wcf Hz ?_
 refine regS Hz (.eql rfl rfl <| .assign rfl .nil) fun Az Hz => ?_
 refine bc Hz 36 ?_ ?_
 · intro hb _; exact absurd hb (by simp; omega)
 clear Hz; intro _ Hz
 refine wcf Hz ?_
 refine regS Hz (.eql rfl rfl <| .assign rfl .nil) fun Az Hz => ?_
 refine bc Hz 53 ?_ ?_
 · intro hb _; exact absurd hb (by simp; omega)
 clear Hz; intro _ Hz
 refine wcf Hz ?_
 replace Hz := Hz.oz [2, 3, 4, 5, 10, 19, 21, 36]
 refine regS Hz (.eql rfl rfl <| .assign rfl .nil) fun Az Hz => ?_
 refine bc Hz 99 ?_ ?_
 · intro hb _; exact absurd hb (by simp; omega)
 clear Hz; intro _ Hz
 refine wcf Hz ?_
 refine regS Hz (.eql rfl rfl <| .assign rfl .nil) fun Az Hz => ?_
 refine bc Hz 130 ?_ ?_
 ·
  intro hb144 Hz; try simp only [QQ, Qax] at hb144
  refine wct Hz ?_
  refine wsk fun K18 hK18 => ?_
  refine regS Hz (.fa 7 rfl U28 <| .lb m6 20 U4 rfl rfl rfl <| .not rfl .nil) fun Az Hz => ?_
  refine bc Hz 134 ?_ ?_
  ·
   intro hb148 Hz; try simp only [QQ, Qax] at hb148
   refine wct Hz ?_
   refine zsr fun K19 hK19 => ?_
   refine goCh Hz (.loadBR m6 (i := 20) rfl rfl U28 rfl fct17 (by simp) (by dsimp only [List.drop, List.take] <;> rfl) .nil) fun Az Hz => ?_
   refine plz (stw Hz m6 22 fct17 fun w151 m151 _ => ?_)
   refine gz hK19 Hz (.assign rfl .nil) fun Az Hz => ?_
   refine rtd (retCT (fn := Try.f85) Hz m151 (i := 22) rfl rfl rfl rfl U28 rfl fct17 ?_)
   have m153 := m151.dat 23 rfl (m151.rd (i := 3) rfl)
   exact ⟨ne, hi, fl, ws, 33, _, _, rfl, by rw [doR, if_neg (by omega), if_neg (by omega), if_pos (by omega), takeR, if_pos (by simp_all)], m153.ren [(1, 1), (2, 2), (3, 3), (4, 4), (7, 23)] (by decide)⟩
  intro hb148 Hz; try simp only [QQ, Qax] at hb148
  refine wcf Hz ?_
  refine zss (hK18 _ _ ?_)
  refine wsk fun K20 hK20 => ?_
  refine zsr fun K21 hK21 => ?_
  refine goCh Hz (.fa 8 rfl U73 <| .lb m6 21 U3 rfl rfl rfl <| .geq rfl rfl <| .move rfl .nil) fun Az Hz => ?_
  refine bc Hz 139 ?_ ?_
  ·
   intro hb162 Hz; try simp only [QQ, Qax] at hb162
   refine gz hK21 Hz (.faZ 8 rfl U73 <| .loadB1Z m6 (i := 21) rfl rfl rfl U3 rfl <| .faZ 6 rfl U28 <| .loadB1Z m6 (i := 20) rfl rfl rfl U3 rfl <| .lssZ rfl rfl <| .pickT rfl rfl <| .nil) fun Az Hz => ?_
   refine bc Hz 145 ?_ ?_
   ·
    intro hb169 Hz; try simp only [QQ, Qax] at hb169
    refine wct Hz ?_
    replace Hz := Hz.oz [2, 3, 4, 5, 10, 19, 21, 36, 130, 134, 139, 145]
    refine zsr fun K22 hK22 => ?_
    refine goCh Hz (.loadBR m6 (i := 20) rfl rfl U28 rfl fct17 (by simp) (by dsimp only [List.drop, List.take] <;> rfl) .nil) fun Az Hz => ?_
    refine plz (stw Hz m6 22 fct17 fun w173 m173 _ => ?_)
    refine gz hK22 Hz (.assign rfl .nil) fun Az Hz => ?_
    refine rtd (retCT (fn := Try.f85) Hz m173 (i := 22) rfl rfl rfl rfl U28 rfl fct17 ?_)
    have m175 := m173.dat 23 rfl (m173.rd (i := 3) rfl)
    exact ⟨ne, hi, fl, ws, 0, _, _, rfl, by rw [doR, if_neg (by omega), if_neg (by omega), if_pos (by omega), takeR, if_neg (by simp_all), if_pos (by omega)], m175.ren [(1, 1), (2, 2), (3, 3), (4, 4), (7, 23)] (by decide)⟩
   intro hb169 Hz; try simp only [QQ, Qax] at hb169
   refine wcf Hz ?_
   refine zss (hK20 _ _ ?_)
   refine wsk fun K23 hK23 => ?_
   replace Hz := Hz.oz [2, 3, 4, 5, 10, 19, 21, 36, 130, 134, 139, 145]
   refine zsr fun K24 hK24 => ?_
   refine goCh Hz (.fa 8 rfl U73 <| .lb m6 21 U3 rfl rfl rfl <| .fa 6 rfl U28 <| .lb m6 20 U3 rfl rfl rfl <| .neq rfl rfl <| .move rfl .nil) fun Az Hz => ?_
   refine bc Hz 152 ?_ ?_
   ·
    intro hb189 Hz; try simp only [QQ, Qax] at hb189
    refine gz hK24 Hz (.sk <| .sk <| .sk <| .sk <| .sk <| .pickT rfl rfl <| .nil) fun Az Hz => ?_
    refine wct Hz ?_
    replace Hz := Hz.oz [2, 3, 4, 5, 10, 19, 21, 36, 130, 134, 139, 145, 152, 158]
    refine zsr fun K25 hK25 => ?_
    refine goCh Hz (.loadBR m6 (i := 20) rfl rfl U28 rfl fct17 (by simp) (by dsimp only [List.drop, List.take] <;> rfl) .nil) fun Az Hz => ?_
    refine plz (stw Hz m6 22 fct17 fun w199 m199 _ => ?_)
    refine gz hK25 Hz (.assign rfl .nil) fun Az Hz => ?_
    refine rtd (retCT (fn := Try.f85) Hz m199 (i := 22) rfl rfl rfl rfl U28 rfl fct17 ?_)
    have m201 := m199.dat 23 rfl (m199.rd (i := 3) rfl)
    exact ⟨ne, hi, fl, ws, 33, _, _, rfl, by rw [doR, if_neg (by omega), if_neg (by omega), if_pos (by omega), takeR, if_neg (by simp_all), if_neg (by omega), if_pos (by omega)], m201.ren [(1, 1), (2, 2), (3, 3), (4, 4), (7, 23)] (by decide)⟩
   intro hb189 Hz; try simp only [QQ, Qax] at hb189
   refine gz hK24 Hz (.faZ 6 rfl U28 <| .loadB1Z m6 (i := 20) rfl rfl rfl U3 rfl <| .faZ 5 rfl U28 <| .loadB1Z m6 (i := 20) rfl rfl rfl U3 rfl <| .eqlZ rfl rfl <| .pickF rfl rfl <| .nil) fun Az Hz => ?_
   refine bc Hz 158 ?_ ?_
   ·
    intro hb208 Hz; try simp only [QQ, Qax] at hb208
    refine wct Hz ?_
    replace Hz := Hz.oz [2, 3, 4, 5, 10, 19, 21, 36, 130, 134, 139, 145, 152, 158]
    refine zsr fun K26 hK26 => ?_
    refine goCh Hz (.loadBR m6 (i := 20) rfl rfl U28 rfl fct17 (by simp) (by dsimp only [List.drop, List.take] <;> rfl) .nil) fun Az Hz => ?_
    refine plz (stw Hz m6 22 fct17 fun w212 m212 _ => ?_)
    refine gz hK26 Hz (.assign rfl .nil) fun Az Hz => ?_
    refine rtd (retCT (fn := Try.f85) Hz m212 (i := 22) rfl rfl rfl rfl U28 rfl fct17 ?_)
    have m214 := m212.dat 23 rfl (m212.rd (i := 3) rfl)
    exact ⟨ne, hi, fl, ws, 33, _, _, rfl, by rw [doR, if_neg (by omega), if_neg (by omega), if_pos (by omega), takeR, if_neg (by simp_all), if_neg (by omega), if_pos (by omega)], m214.ren [(1, 1), (2, 2), (3, 3), (4, 4), (7, 23)] (by decide)⟩
   intro hb208 Hz; try simp only [QQ, Qax] at hb208
   refine wcf Hz ?_
   refine zss (hK23 _ _ ?_)
   refine wsk fun K27 hK27 => ?_
   replace Hz := Hz.oz [2, 3, 4, 5, 10, 19, 21, 36, 130, 134, 139, 145, 152, 158]
   refine zsr fun K28 hK28 => ?_
   refine goCh Hz (.fa 1 rfl U28 <| .lb m6 20 U3 rfl rfl rfl <| .fa 2 rfl U28 <| .lb m6 20 U3 rfl rfl rfl <| .fa 9 rfl U73 <| .lb m6 21 U51 rfl rfl rfl .nil) fun Az Hz => ?_
   refine plz (ecl Hz Try.func94 rfl (ritems_any _ _ items _ _ _ _ ((m6.rd (i := 4) rfl).any) hil) ?_)
   rintro e w228 ⟨ib, rfl, hib, hb228⟩
   have m229 := m6.later hb228
   refine ⟨_, rfl, ?_⟩; intro Az Hz
   refine gz hK28 Hz (.not rfl .nil) fun Az Hz => ?_
   refine bc Hz 167 ?_ ?_
   ·
    intro hb232 Hz; try simp only [QQ, Qax] at hb232
    refine wct Hz ?_
    replace Hz := Hz.oz [2, 3, 4, 5, 10, 19, 21, 36, 130, 134, 139, 145, 152, 158, 167]
    refine zsr fun K29 hK29 => ?_
    refine goCh Hz (.loadBR m229 (i := 20) rfl rfl U28 rfl fct17 (by simp) (by dsimp only [List.drop, List.take] <;> rfl) .nil) fun Az Hz => ?_
    refine plz (stw Hz m229 22 fct17 fun w236 m236 _ => ?_)
    refine gz hK29 Hz (.assign rfl .nil) fun Az Hz => ?_
    refine rtd (retCT (fn := Try.f85) Hz m236 (i := 22) rfl rfl rfl rfl U28 rfl fct17 ?_)
    have m238 := m236.dat 23 rfl (m236.rd (i := 3) rfl)
    exact ⟨ne, hi, fl, ws, 23, _, _, rfl, by rw [doR, if_neg (by omega), if_neg (by omega), if_pos (by omega), takeR, if_neg (by simp_all), if_neg (by omega), if_neg (by omega), show wrR bl sz ws items = (ws, 23) from by rw [wrR, if_neg (fun h => by have h9 := hib.2 h; simp_all)]]; rfl, m238.ren [(1, 1), (2, 2), (3, 3), (4, 4), (7, 23)] (by decide)⟩
   intro hb232 Hz; try simp only [QQ, Qax] at hb232
   refine wcf Hz ?_
   refine zss (hK27 _ _ ?_)
   replace Hz := Hz.oz [2, 3, 4, 5, 10, 19, 21, 36, 130, 134, 139, 145, 152, 158, 167]
   refine zsr fun K30 hK30 => ?_
   refine goCh Hz (.loadBR m229 (i := 20) rfl rfl U28 rfl fct17 (by simp) (by dsimp only [List.drop, List.take] <;> rfl) <| .fa 9 rfl U73 <| .lb m229 21 U51 rfl rfl rfl .nil) fun Az Hz => ?_
   refine plz (ecl Hz Try.func95 rfl (rwrite_fr _ _ _ _ _ _ _ _ _ place pins ws items _ _ _ _ _ _ _ _ _ hl hil hio (m229.into [(1, 1), (2, 2), (3, 3), (4, 4)] (by decide) rfl)) ?_)
   rintro e w246 ⟨p246, c246, rfl, hm246⟩
   have mx246 := m229.back hm246 [(1, 1), (2, 2), (3, 3), (4, 4), (23, 7)] (by decide); clear hm246 m229
   have m246 := mx246.oz [1, 2, 3, 4, 23, 20, 21, 22]
   refine ⟨_, rfl, ?_⟩; intro Az Hz
   refine plz (stw Hz m246 20 fct17 fun w248 m248 _ => ?_)
   refine znl (hK30 _ _ ?_)
   refine wp_region_lit ?_
   refine goCh Hz (.fa 6 rfl U28 <| .lb m248 20 U3 rfl rfl rfl <| .add rfl rfl (r := ne + 1) (IntWalk.i64_in _ (by omega)) <| .fa 6 rfl U28 .nil) fun Az Hz => ?_
   refine plz (st1 Hz m248 20 fct22 fun w253 m253 _ => ?_)
   refine znl (hK17 _ _ ?_)
   replace Hz := Hz.oz [2, 4, 5, 10, 21, 36, 130, 134, 139, 145, 152, 158, 167]
   refine zsr fun K31 hK31 => ?_
   refine goCh Hz (.loadBR m253 (i := 20) rfl rfl U28 rfl fct17 (by simp) (by dsimp only [List.drop, List.take] <;> rfl) .nil) fun Az Hz => ?_
   refine plz (stw Hz m253 22 fct17 fun w257 m257 _ => ?_)
   refine gz hK31 Hz (.assign rfl .nil) fun Az Hz => ?_
   refine rtd (retCT (fn := Try.f85) Hz m257 (i := 22) rfl rfl rfl rfl U28 rfl fct17 ?_)
   exact ⟨(ne + 1), hi, fl, (ws ++ [((ws.length : Int) + 1, items)]), 0, _, _, rfl, by rw [doR, if_neg (by omega), if_neg (by omega), if_pos (by omega), takeR, if_neg (by simp_all), if_neg (by omega), if_neg (by omega), show wrR bl sz ws items = ((ws ++ [((ws.length : Int) + 1, items)]), 0) from by rw [wrR, if_pos (hib.1 (by simp_all))]]; rfl, m257.ren [(1, 1), (2, 2), (3, 3), (4, 4), (7, 23)] (by decide)⟩
  intro hb162 Hz; try simp only [QQ, Qax] at hb162
  refine gz hK21 Hz (.sk <| .sk <| .sk <| .sk <| .sk <| .pickF rfl rfl <| .nil) fun Az Hz => ?_
  refine wcf Hz ?_
  refine zss (hK20 _ _ ?_)
  refine wsk fun K32 hK32 => ?_
  replace Hz := Hz.oz [2, 3, 4, 5, 10, 19, 21, 36, 130, 134, 139, 145]
  refine zsr fun K33 hK33 => ?_
  refine goCh Hz (.fa 8 rfl U73 <| .lb m6 21 U3 rfl rfl rfl <| .fa 6 rfl U28 <| .lb m6 20 U3 rfl rfl rfl <| .neq rfl rfl <| .move rfl .nil) fun Az Hz => ?_
  refine bc Hz 152 ?_ ?_
  ·
   intro hb278 Hz; try simp only [QQ, Qax] at hb278
   refine gz hK33 Hz (.sk <| .sk <| .sk <| .sk <| .sk <| .pickT rfl rfl <| .nil) fun Az Hz => ?_
   refine wct Hz ?_
   replace Hz := Hz.oz [2, 3, 4, 5, 10, 19, 21, 36, 130, 134, 139, 145, 152, 158]
   refine zsr fun K34 hK34 => ?_
   refine goCh Hz (.loadBR m6 (i := 20) rfl rfl U28 rfl fct17 (by simp) (by dsimp only [List.drop, List.take] <;> rfl) .nil) fun Az Hz => ?_
   refine plz (stw Hz m6 22 fct17 fun w288 m288 _ => ?_)
   refine gz hK34 Hz (.assign rfl .nil) fun Az Hz => ?_
   refine rtd (retCT (fn := Try.f85) Hz m288 (i := 22) rfl rfl rfl rfl U28 rfl fct17 ?_)
   have m290 := m288.dat 23 rfl (m288.rd (i := 3) rfl)
   exact ⟨ne, hi, fl, ws, 33, _, _, rfl, by rw [doR, if_neg (by omega), if_neg (by omega), if_pos (by omega), takeR, if_neg (by simp_all), if_neg (by omega), if_pos (by omega)], m290.ren [(1, 1), (2, 2), (3, 3), (4, 4), (7, 23)] (by decide)⟩
  intro hb278 Hz; try simp only [QQ, Qax] at hb278
  refine gz hK33 Hz (.faZ 6 rfl U28 <| .loadB1Z m6 (i := 20) rfl rfl rfl U3 rfl <| .faZ 5 rfl U28 <| .loadB1Z m6 (i := 20) rfl rfl rfl U3 rfl <| .eqlZ rfl rfl <| .pickF rfl rfl <| .nil) fun Az Hz => ?_
  refine bc Hz 158 ?_ ?_
  ·
   intro hb297 Hz; try simp only [QQ, Qax] at hb297
   refine wct Hz ?_
   replace Hz := Hz.oz [2, 3, 4, 5, 10, 19, 21, 36, 130, 134, 139, 145, 152, 158]
   refine zsr fun K35 hK35 => ?_
   refine goCh Hz (.loadBR m6 (i := 20) rfl rfl U28 rfl fct17 (by simp) (by dsimp only [List.drop, List.take] <;> rfl) .nil) fun Az Hz => ?_
   refine plz (stw Hz m6 22 fct17 fun w301 m301 _ => ?_)
   refine gz hK35 Hz (.assign rfl .nil) fun Az Hz => ?_
   refine rtd (retCT (fn := Try.f85) Hz m301 (i := 22) rfl rfl rfl rfl U28 rfl fct17 ?_)
   have m303 := m301.dat 23 rfl (m301.rd (i := 3) rfl)
   exact ⟨ne, hi, fl, ws, 33, _, _, rfl, by rw [doR, if_neg (by omega), if_neg (by omega), if_pos (by omega), takeR, if_neg (by simp_all), if_neg (by omega), if_pos (by omega)], m303.ren [(1, 1), (2, 2), (3, 3), (4, 4), (7, 23)] (by decide)⟩
  intro hb297 Hz; try simp only [QQ, Qax] at hb297
  refine wcf Hz ?_
  refine zss (hK32 _ _ ?_)
  refine wsk fun K36 hK36 => ?_
  replace Hz := Hz.oz [2, 3, 4, 5, 10, 19, 21, 36, 130, 134, 139, 145, 152, 158]
  refine zsr fun K37 hK37 => ?_
  refine goCh Hz (.fa 1 rfl U28 <| .lb m6 20 U3 rfl rfl rfl <| .fa 2 rfl U28 <| .lb m6 20 U3 rfl rfl rfl <| .fa 9 rfl U73 <| .lb m6 21 U51 rfl rfl rfl .nil) fun Az Hz => ?_
  refine plz (ecl Hz Try.func94 rfl (ritems_any _ _ items _ _ _ _ ((m6.rd (i := 4) rfl).any) hil) ?_)
  rintro e w317 ⟨ib, rfl, hib, hb317⟩
  have m318 := m6.later hb317
  refine ⟨_, rfl, ?_⟩; intro Az Hz
  refine gz hK37 Hz (.not rfl .nil) fun Az Hz => ?_
  refine bc Hz 167 ?_ ?_
  ·
   intro hb321 Hz; try simp only [QQ, Qax] at hb321
   refine wct Hz ?_
   replace Hz := Hz.oz [2, 3, 4, 5, 10, 19, 21, 36, 130, 134, 139, 145, 152, 158, 167]
   refine zsr fun K38 hK38 => ?_
   refine goCh Hz (.loadBR m318 (i := 20) rfl rfl U28 rfl fct17 (by simp) (by dsimp only [List.drop, List.take] <;> rfl) .nil) fun Az Hz => ?_
   refine plz (stw Hz m318 22 fct17 fun w325 m325 _ => ?_)
   refine gz hK38 Hz (.assign rfl .nil) fun Az Hz => ?_
   refine rtd (retCT (fn := Try.f85) Hz m325 (i := 22) rfl rfl rfl rfl U28 rfl fct17 ?_)
   have m327 := m325.dat 23 rfl (m325.rd (i := 3) rfl)
   exact ⟨ne, hi, fl, ws, 23, _, _, rfl, by rw [doR, if_neg (by omega), if_neg (by omega), if_pos (by omega), takeR, if_neg (by simp_all), if_neg (by omega), if_neg (by omega), show wrR bl sz ws items = (ws, 23) from by rw [wrR, if_neg (fun h => by have h9 := hib.2 h; simp_all)]]; rfl, m327.ren [(1, 1), (2, 2), (3, 3), (4, 4), (7, 23)] (by decide)⟩
  intro hb321 Hz; try simp only [QQ, Qax] at hb321
  refine wcf Hz ?_
  refine zss (hK36 _ _ ?_)
  replace Hz := Hz.oz [2, 3, 4, 5, 10, 19, 21, 36, 130, 134, 139, 145, 152, 158, 167]
  refine zsr fun K39 hK39 => ?_
  refine goCh Hz (.loadBR m318 (i := 20) rfl rfl U28 rfl fct17 (by simp) (by dsimp only [List.drop, List.take] <;> rfl) <| .fa 9 rfl U73 <| .lb m318 21 U51 rfl rfl rfl .nil) fun Az Hz => ?_
  refine plz (ecl Hz Try.func95 rfl (rwrite_fr _ _ _ _ _ _ _ _ _ place pins ws items _ _ _ _ _ _ _ _ _ hl hil hio (m318.into [(1, 1), (2, 2), (3, 3), (4, 4)] (by decide) rfl)) ?_)
  rintro e w335 ⟨p335, c335, rfl, hm335⟩
  have mx335 := m318.back hm335 [(1, 1), (2, 2), (3, 3), (4, 4), (23, 7)] (by decide); clear hm335 m318
  have m335 := mx335.oz [1, 2, 3, 4, 23, 20, 21, 22]
  refine ⟨_, rfl, ?_⟩; intro Az Hz
  refine plz (stw Hz m335 20 fct17 fun w337 m337 _ => ?_)
  refine znl (hK39 _ _ ?_)
  refine wp_region_lit ?_
  refine goCh Hz (.fa 6 rfl U28 <| .lb m337 20 U3 rfl rfl rfl <| .add rfl rfl (r := ne + 1) (IntWalk.i64_in _ (by omega)) <| .fa 6 rfl U28 .nil) fun Az Hz => ?_
  refine plz (st1 Hz m337 20 fct22 fun w342 m342 _ => ?_)
  refine znl (hK17 _ _ ?_)
  replace Hz := Hz.oz [2, 4, 5, 10, 21, 36, 130, 134, 139, 145, 152, 158, 167]
  refine zsr fun K40 hK40 => ?_
  refine goCh Hz (.loadBR m342 (i := 20) rfl rfl U28 rfl fct17 (by simp) (by dsimp only [List.drop, List.take] <;> rfl) .nil) fun Az Hz => ?_
  refine plz (stw Hz m342 22 fct17 fun w346 m346 _ => ?_)
  refine gz hK40 Hz (.assign rfl .nil) fun Az Hz => ?_
  refine rtd (retCT (fn := Try.f85) Hz m346 (i := 22) rfl rfl rfl rfl U28 rfl fct17 ?_)
  exact ⟨(ne + 1), hi, fl, (ws ++ [((ws.length : Int) + 1, items)]), 0, _, _, rfl, by rw [doR, if_neg (by omega), if_neg (by omega), if_pos (by omega), takeR, if_neg (by simp_all), if_neg (by omega), if_neg (by omega), show wrR bl sz ws items = ((ws ++ [((ws.length : Int) + 1, items)]), 0) from by rw [wrR, if_pos (hib.1 (by simp_all))]]; rfl, m346.ren [(1, 1), (2, 2), (3, 3), (4, 4), (7, 23)] (by decide)⟩
 intro hb144 Hz; try simp only [QQ, Qax] at hb144
 refine wcf Hz ?_
 refine regS Hz (.eql rfl rfl <| .assign rfl .nil) fun Az Hz => ?_
 refine bc Hz 177 ?_ ?_
 ·
  intro hb350 Hz; try simp only [QQ, Qax] at hb350
  refine wct Hz ?_
  refine wsk fun K41 hK41 => ?_
  refine zsr fun K42 hK42 => ?_
  refine goCh Hz (.fa 7 rfl U28 <| .lb m6 20 U4 rfl rfl rfl <| .not rfl <| .move rfl .nil) fun Az Hz => ?_
  refine bc Hz 182 ?_ ?_
  ·
   intro hb359 Hz; try simp only [QQ, Qax] at hb359
   refine gz hK42 Hz (.sk <| .sk <| .sk <| .sk <| .sk <| .pickT rfl rfl <| .nil) fun Az Hz => ?_
   refine wct Hz ?_
   replace Hz := Hz.oz [2, 4, 5, 10, 19, 21, 36, 130, 177, 182, 188]
   refine zsr fun K43 hK43 => ?_
   refine goCh Hz (.loadBR m6 (i := 20) rfl rfl U28 rfl fct17 (by simp) (by dsimp only [List.drop, List.take] <;> rfl) .nil) fun Az Hz => ?_
   refine plz (stw Hz m6 22 fct17 fun w369 m369 _ => ?_)
   refine gz hK43 Hz (.assign rfl .nil) fun Az Hz => ?_
   refine rtd (retCT (fn := Try.f85) Hz m369 (i := 22) rfl rfl rfl rfl U28 rfl fct17 ?_)
   have m371 := m369.dat 23 rfl (m369.rd (i := 3) rfl)
   exact ⟨ne, hi, fl, ws, 33, _, _, rfl, by rw [doR, if_neg (by omega), if_neg (by omega), if_neg (by omega), if_pos (by omega), publishR, if_pos (by first | (left; simp_all; done) | (right; assumption) | omega)], m371.ren [(1, 1), (2, 2), (3, 3), (4, 4), (7, 23)] (by decide)⟩
  intro hb359 Hz; try simp only [QQ, Qax] at hb359
  refine gz hK42 Hz (.faZ 6 rfl U28 <| .loadB1Z m6 (i := 20) rfl rfl rfl U3 rfl <| .faZ 5 rfl U28 <| .loadB1Z m6 (i := 20) rfl rfl rfl U3 rfl <| .neqZ rfl rfl <| .pickF rfl rfl <| .nil) fun Az Hz => ?_
  refine bc Hz 188 ?_ ?_
  ·
   intro hb378 Hz; try simp only [QQ, Qax] at hb378
   refine wct Hz ?_
   replace Hz := Hz.oz [2, 4, 5, 10, 19, 21, 36, 130, 177, 182, 188]
   refine zsr fun K44 hK44 => ?_
   refine goCh Hz (.loadBR m6 (i := 20) rfl rfl U28 rfl fct17 (by simp) (by dsimp only [List.drop, List.take] <;> rfl) .nil) fun Az Hz => ?_
   refine plz (stw Hz m6 22 fct17 fun w382 m382 _ => ?_)
   refine gz hK44 Hz (.assign rfl .nil) fun Az Hz => ?_
   refine rtd (retCT (fn := Try.f85) Hz m382 (i := 22) rfl rfl rfl rfl U28 rfl fct17 ?_)
   have m384 := m382.dat 23 rfl (m382.rd (i := 3) rfl)
   exact ⟨ne, hi, fl, ws, 33, _, _, rfl, by rw [doR, if_neg (by omega), if_neg (by omega), if_neg (by omega), if_pos (by omega), publishR, if_pos (by first | (left; simp_all; done) | (right; assumption) | omega)], m384.ren [(1, 1), (2, 2), (3, 3), (4, 4), (7, 23)] (by decide)⟩
  intro hb378 Hz; try simp only [QQ, Qax] at hb378
  refine wcf Hz ?_
  refine zss (hK41 _ _ ?_)
  replace Hz := Hz.oz [2, 4, 5, 10, 19, 21, 36, 130, 177, 182, 188]
  refine wp_region_lit ?_
  refine goCh Hz (.loadBR m6 (i := 20) rfl rfl U28 rfl fct17 (by simp) (by dsimp only [List.drop, List.take] <;> rfl) .nil) fun Az Hz => ?_
  refine wpList_plain rfl (fun K hK => ?_)
  refine e_call Hz Try.func9 rfl rfl rfl rfl (rlen_any _ _ _ _ _ _ _ _ _ _ _ _ _ _ _ _ _ _) ?_
  rintro e w387 ⟨rfl, hb387⟩
  rw [List.length_map]
  have m388 := m6.later hb387
  refine ⟨_, rfl, ?_⟩; intro Az Hz
  refine hK _ _ ?_; clear hK
  refine goCh Hz (.fieldAddr (off := 7) rfl U28 rfl (s := 0) (by kernel_rfl) rfl .nil) fun Az Hz => ?_
  refine plz (st1 Hz m388 20 fct40 fun w391 m391 _ => ?_)
  refine goCh Hz (.fieldAddr (off := 8) rfl U28 rfl (s := 0) (by kernel_rfl) rfl .nil) fun Az Hz => ?_
  refine plz (st1 Hz m391 20 fct9 fun w393 m393 _ => ?_)
  refine znl (hK17 _ _ ?_)
  refine zsr fun K45 hK45 => ?_
  refine goCh Hz (.loadBR m393 (i := 20) rfl rfl U28 rfl fct17 (by simp) (by dsimp only [List.drop, List.take] <;> rfl) .nil) fun Az Hz => ?_
  refine plz (stw Hz m393 22 fct17 fun w396 m396 _ => ?_)
  refine gz hK45 Hz (.assign rfl .nil) fun Az Hz => ?_
  refine rtd (retCT (fn := Try.f85) Hz m396 (i := 22) rfl rfl rfl rfl U28 rfl fct17 ?_)
  have m398 := m396.dat 23 rfl (m396.rd (i := 3) rfl)
  exact ⟨ne, false, ws.length, ws, 0, _, _, rfl, by rw [doR, if_neg (by omega), if_neg (by omega), if_neg (by omega), if_pos (by omega), publishR, if_neg (by rintro (h | h) <;> simp_all)], m398.ren [(1, 1), (2, 2), (3, 3), (4, 4), (7, 23)] (by decide)⟩
 intro hb350 Hz; try simp only [QQ, Qax] at hb350
 refine wcf Hz ?_
 refine regS Hz (.eql rfl rfl <| .assign rfl .nil) fun Az Hz => ?_
 refine bc Hz 194 ?_ ?_
 ·
  intro hb401 Hz; try simp only [QQ, Qax] at hb401
  refine wct Hz ?_
  refine zss (hK17 _ _ ?_)
  replace Hz := Hz.oz [2, 4, 5, 10, 21, 36, 130, 177, 194]
  refine zsr fun K46 hK46 => ?_
  refine goCh Hz (.loadBR m6 (i := 20) rfl rfl U28 rfl fct17 (by simp) (by dsimp only [List.drop, List.take] <;> rfl) .nil) fun Az Hz => ?_
  refine plz (stw Hz m6 22 fct17 fun w405 m405 _ => ?_)
  refine gz hK46 Hz (.assign rfl .nil) fun Az Hz => ?_
  refine rtd (retCT (fn := Try.f85) Hz m405 (i := 22) rfl rfl rfl rfl U28 rfl fct17 ?_)
  have m407 := m405.dat 23 rfl (m405.rd (i := 3) rfl)
  exact ⟨ne, hi, fl, ws, 0, _, _, rfl, by rw [doR, if_neg (by omega), if_neg (by omega), if_neg (by omega), if_neg (by omega), if_pos (by omega)], m407.ren [(1, 1), (2, 2), (3, 3), (4, 4), (7, 23)] (by decide)⟩
 intro hb401 Hz; try simp only [QQ, Qax] at hb401
 refine wcf Hz ?_
 replace Hz := Hz.oz [2, 4, 5, 10, 21, 36, 130, 177, 194]
 refine zsr fun K47 hK47 => ?_
 refine goCh Hz (.loadBR m6 (i := 20) rfl rfl U28 rfl fct17 (by simp) (by dsimp only [List.drop, List.take] <;> rfl) .nil) fun Az Hz => ?_
 refine plz (stw Hz m6 22 fct17 fun w411 m411 _ => ?_)
 refine gz hK47 Hz (.assign rfl .nil) fun Az Hz => ?_
 refine rtd (retCT (fn := Try.f85) Hz m411 (i := 22) rfl rfl rfl rfl U28 rfl fct17 ?_)
 have m413 := m411.dat 23 rfl (m411.rd (i := 3) rfl)
 exact ⟨ne, hi, fl, ws, 23, _, _, rfl, by rw [doR, if_neg (by omega), if_neg (by omega), if_neg (by omega), if_neg (by omega), if_neg (by omega)], m413.ren [(1, 1), (2, 2), (3, 3), (4, 4), (7, 23)] (by decide)⟩
theorem rdone4 (X : Cx) (vo bl sz pe to ne fl : Int) (hi : Bool) (place pins : List Int) (ws : List (Int × List (Int × List Int))) (pp pn pw : Option Addr) (cp cn9 cw : Nat) (v1 v2 v3 v4 v5 at0 v6 : Int) (q1 : Option Addr) (n1 c1 : Nat) (q2 : Option Addr) (n2 c2 : Nat) (w0 : World) (hp : pins.length ≤ 900000) (hsp : pins.Pairwise (· ≤ ·)) (m0 : MemOk X w0 [(1, .dat (.slice pp place.length cp) (.ns .i64 place)), (2, .dat (.slice pn pins.length cn9) (.ns .i64 pins)), (3, .dat (.slice pw (ws.map wrD).length cw) (.l 2 (ws.map wrD)))] w0) :
   Calls Try.prog 85 #[.agg #[.int .i64 vo, .int .i64 bl, .int .i64 sz, .int .i64 pe, .slice pp place.length cp, .int .i64 to, .int .i64 ne, .bool hi, .int .i64 fl, .slice pn pins.length cn9, .slice pw (ws.map wrD).length cw], .agg #[.int .i64 4, .int .i64 v1, .int .i64 v2, .int .i64 v3, .int .i64 v4, .slice q1 n1 c1, .int .i64 v5, .int .i64 at0, .int .i64 v6, .slice q2 n2 c2]] w0 fun e w' => ∃ (pins' : List Int) (e9 : Int) (p2' : Option Addr) (d2' : Nat), e = .returned (.tuple #[.agg #[.int .i64 vo, .int .i64 bl, .int .i64 sz, .int .i64 pe, .slice pp place.length cp, .int .i64 to, .int .i64 ne, .bool hi, .int .i64 fl, .slice p2' pins'.length d2', .slice pw (ws.map wrD).length cw], .int .i64 e9]) ∧ pinR hi fl at0 ws.length pins = (pins', e9) ∧ MemOk X w0 [(1, .dat (.slice pp place.length cp) (.ns .i64 place)), (2, .dat (.slice pn pins.length cn9) (.ns .i64 pins)), (3, .dat (.slice pw (ws.map wrD).length cw) (.l 2 (ws.map wrD))), (6, .dat (.slice p2' pins'.length d2') (.ns .i64 pins'))] w' := by
 refine ent2 Try.func85 rfl Try.ntmps85 fun Az Hz => ?_
 refine zsr fun K0 hK0 => ?_
 refine plz (e_box Hz m0 20 (cs := [_, _, _, _, _, _, _, _, _, _, _]) rfl rfl rfl fun g1 Az w2 Hz m2 _ _ => ?_)
 refine plz (e_box Hz m2 21 (cs := [_, _, _, _, _, _, _, _, _, _]) rfl rfl rfl fun g3 Az w4 Hz m4 _ _ => ?_)
 refine plz (e_alloc Hz m4 22 fct20 rfl fun g5 Az w6 Hz m6 _ _ => ?_)
 refine gz hK0 Hz (.assign rfl .nil) fun Az Hz => ?_
 refine wsk fun K1 hK1 => ?_
 refine regS Hz (.fa 0 rfl U73 <| .lb m6 21 U3 rfl rfl rfl .nil) fun Az Hz => ?_
 refine wp_block ?_
 refine wsk fun K2 hK2 => ?_
 refine regS Hz (.eql rfl rfl <| .assign rfl .nil) fun Az Hz => ?_
 refine bc Hz 10 ?_ ?_
 · intro hb _; exact absurd hb (by simp)
 clear Hz; intro _ Hz
 refine wcf Hz ?_
 refine regS Hz (.eql rfl rfl <| .assign rfl .nil) fun Az Hz => ?_
 refine bc Hz 10 ?_ ?_
 · intro hb _; exact absurd hb (by simp)
 clear Hz; intro _ Hz
 refine wcf Hz ?_
 refine regS Hz (.eql rfl rfl <| .assign rfl .nil) fun Az Hz => ?_
 refine bc Hz 10 ?_ ?_
 rotate_left
 · intro hb _; exact absurd hb (by simp)
 clear Hz; intro _ Hz
 refine wct Hz ?_
 refine zss (hK2 _ _ ?_)
 refine wct Hz ?_
 replace Hz := Hz.oz [2, 3, 4, 5]
 refine regS Hz (.fa 7 rfl U28 <| .lb m6 20 U4 rfl rfl rfl .nil) fun Az Hz => ?_
 refine bc Hz 16 ?_ ?_
 ·
  intro hb22 Hz; try simp only [QQ, Qax] at hb22
  refine wct Hz ?_
  refine zsr fun K3 hK3 => ?_
  refine goCh Hz (.loadBR m6 (i := 20) rfl rfl U28 rfl fct17 (by simp) (by dsimp only [List.drop, List.take] <;> rfl) .nil) fun Az Hz => ?_
  refine plz (stw Hz m6 22 fct17 fun w25 m25 _ => ?_)
  refine gz hK3 Hz (.assign rfl .nil) fun Az Hz => ?_
  refine rtd (retCT (fn := Try.f85) Hz m25 (i := 22) rfl rfl rfl rfl U28 rfl fct17 ?_)
  have m27 := m25.dat 23 rfl (m25.rd (i := 2) rfl)
  exact ⟨pins, 28, _, _, rfl, by rw [pinR, show reachR hi fl at0 ws.length = 28 from by rw [reachR, if_pos (by assumption)]]; rfl, m27.ren [(1, 1), (2, 2), (3, 3), (6, 23)] (by decide)⟩
 intro hb22 Hz; try simp only [QQ, Qax] at hb22
 refine wcf Hz ?_
 refine zss (hK1 _ _ ?_)
 refine wsk fun K4 hK4 => ?_
 refine regS Hz (.fa 0 rfl U73 <| .lb m6 21 U3 rfl rfl rfl .nil) fun Az Hz => ?_
 refine wp_block ?_
 refine regS Hz (.eql rfl rfl <| .assign rfl .nil) fun Az Hz => ?_
 refine bc Hz 21 ?_ ?_
 · intro hb _; exact absurd hb (by simp)
 clear Hz; intro _ Hz
 refine wcf Hz ?_
 refine regS Hz (.eql rfl rfl <| .assign rfl .nil) fun Az Hz => ?_
 refine bc Hz 36 ?_ ?_
 · intro hb _; exact absurd hb (by simp)
 clear Hz; intro _ Hz
 refine wcf Hz ?_
 replace Hz := Hz.oz [2, 3, 4, 5, 16, 19]
 refine regS Hz (.eql rfl rfl <| .assign rfl .nil) fun Az Hz => ?_
 refine bc Hz 53 ?_ ?_
 rotate_left
 · intro hb _; exact absurd hb (by simp)
 clear Hz; intro _ Hz
 refine wct Hz ?_
 refine wsk fun K5 hK5 => ?_
 refine regS Hz (.fa 7 rfl U73 <| .lb m6 21 U2 rfl rfl rfl <| .fa 8 rfl U28 <| .lb m6 20 U2 rfl rfl rfl <| .lss rfl rfl .nil) fun Az Hz => ?_
 refine bc Hz 59 ?_ ?_
 ·
  intro hb45 Hz; try simp only [QQ, Qax] at hb45
  refine wct Hz ?_
  replace Hz := Hz.oz [2, 3, 4, 5, 16, 19, 59]
  refine zsr fun K6 hK6 => ?_
  refine goCh Hz (.loadBR m6 (i := 20) rfl rfl U28 rfl fct17 (by simp) (by dsimp only [List.drop, List.take] <;> rfl) .nil) fun Az Hz => ?_
  refine plz (stw Hz m6 22 fct17 fun w49 m49 _ => ?_)
  refine gz hK6 Hz (.assign rfl .nil) fun Az Hz => ?_
  refine rtd (retCT (fn := Try.f85) Hz m49 (i := 22) rfl rfl rfl rfl U28 rfl fct17 ?_)
  have m51 := m49.dat 23 rfl (m49.rd (i := 2) rfl)
  exact ⟨pins, 30, _, _, rfl, by rw [pinR, show reachR hi fl at0 ws.length = 30 from by rw [reachR, if_neg (by simp_all), if_pos (by omega)]]; rfl, m51.ren [(1, 1), (2, 2), (3, 3), (6, 23)] (by decide)⟩
 intro hb45 Hz; try simp only [QQ, Qax] at hb45
 refine wcf Hz ?_
 refine zss (hK5 _ _ ?_)
 refine wsk fun K7 hK7 => ?_
 refine wsk fun K8 hK8 => ?_
 replace Hz := Hz.oz [2, 3, 4, 5, 16, 19, 59]
 have m53 := m6.oz [1, 2, 3, 20, 21, 22]
 refine region_p 5 (B := [(1, _), (2, _), (3, _), (20, _), (21, _), (22, _)]) (m53.to ⟨il, il, il, il, il, il, trivial⟩) m53 (by kernel_rfl) (fun w54 hP54 m54 => ?_); clear m53
 refine goR hP54 [0, 1, 2] [1, 2] 3 0 7 Hz (m54.to ⟨il, il, il, il, il, il, trivial⟩) (.fa 7 rfl U73 <| .lb hh 21 U2 rfl rfl rfl <| .loadBR hh (i := 20) rfl rfl U28 rfl fct17 (by simp) (by dsimp only [List.drop, List.take] <;> rfl) .nil) fun Az Hz => ?_
 refine stepE_only 3 rfl (by kernel_rfl) rfl (fun K hK => ?_)
 refine e_call Hz Try.func9 rfl rfl rfl rfl (rlen_any _ _ _ _ _ _ _ _ _ _ _ _ _ _ _ _ _ _) ?_
 rintro e w58 ⟨rfl, hb58⟩
 rw [List.length_map]
 have m59 := m54.later hb58
 refine ⟨_, rfl, ?_⟩; intro Az Hz
 refine hK _ _ (m59.to ⟨il, il, il, il, il, il, trivial⟩) ?_; clear hK K
 refine goA hP54 [4] 1 15 31 Hz (m59.to ⟨il, il, il, il, il, il, trivial⟩) (.gtr rfl rfl .nil) fun Az Hz => ?_
 refine wpAnyE_done (by kernel_rfl) ?_ _
 refine hK8 _ _ ?_
 refine bc Hz 65 ?_ ?_
 ·
  intro hb62 Hz; try simp only [QQ, Qax] at hb62
  refine wct Hz ?_
  refine zsr fun K9 hK9 => ?_
  refine goCh Hz (.loadBR m59 (i := 20) rfl rfl U28 rfl fct17 (by simp) (by dsimp only [List.drop, List.take] <;> rfl) .nil) fun Az Hz => ?_
  refine plz (stw Hz m59 22 fct17 fun w65 m65 _ => ?_)
  refine gz hK9 Hz (.assign rfl .nil) fun Az Hz => ?_
  refine rtd (retCT (fn := Try.f85) Hz m65 (i := 22) rfl rfl rfl rfl U28 rfl fct17 ?_)
  have m67 := m65.dat 23 rfl (m65.rd (i := 2) rfl)
  exact ⟨pins, 31, _, _, rfl, by rw [pinR, show reachR hi fl at0 ws.length = 31 from by rw [reachR, if_neg (by simp_all), if_neg (by omega), if_pos (by omega)]]; rfl, m67.ren [(1, 1), (2, 2), (3, 3), (6, 23)] (by decide)⟩
 intro hb62 Hz; try simp only [QQ, Qax] at hb62
 refine wcf Hz ?_
 refine zss (hK7 _ _ ?_)
 refine regS Hz (.assign rfl .nil) fun Az Hz => ?_
 refine wsk fun K10 hK10 => ?_
 refine wp_block ?_
 refine wp_loop_ghost (fun g a w => ∃ (k B8 B9 B10 : Nat), k ≤ pins.length ∧ g = pins.length - k ∧ (∀ j, j < k → pins.getD j 0 ≤ at0) ∧ Has 197 [(2, .pointer (some ⟨B8, 0, none⟩)), (3, .pointer (some ⟨B9, 0, none⟩)), (4, .pointer (some ⟨B10, 0, none⟩)), (6, .int .i64 k)] a ∧ MemOk X w0 [(1, .dat (.slice pp place.length cp) (.ns .i64 place)), (2, .dat (.slice pn pins.length cn9) (.ns .i64 pins)), (3, .dat (.slice pw (ws.map wrD).length cw) (.l 2 (ws.map wrD))), (8, .box B8 28 [.int .i64 vo, .int .i64 bl, .int .i64 sz, .int .i64 pe, .slice pp place.length cp, .int .i64 to, .int .i64 ne, .bool hi, .int .i64 fl, .slice pn pins.length cn9, .slice pw (ws.map wrD).length cw]), (9, .box B9 73 [.int .i64 4, .int .i64 v1, .int .i64 v2, .int .i64 v3, .int .i64 v4, .slice q1 n1 c1, .int .i64 v5, .int .i64 at0, .int .i64 v6, .slice q2 n2 c2]), (10, .box B10 28 [.int .i64 0, .int .i64 0, .int .i64 0, .int .i64 0, .slice none 0 0, .int .i64 0, .int .i64 0, .bool false, .int .i64 0, .slice none 0 0, .slice none 0 0])] w) (pins.length) ?_ ?_
 · exact ⟨0, _, _, _, Nat.zero_le _, rfl, (fun j hj => by omega), Hz.only [2, 3, 4, 6], m59.ren [(1, 1), (2, 2), (3, 3), (8, 20), (9, 21), (10, 22)] (by decide)⟩
 clear Hz m59
 rintro g Az w69 ⟨k, B8, B9, B10, hkl, hg, hall, Hz, m69⟩
 refine wsk fun K11 hK11 => ?_
 refine wsk fun K12 hK12 => ?_
 by_cases hk : k < pins.length
 ·
  obtain ⟨b70, o70, hp70, m70⟩ := m69.openN (i := 2) rfl (k) hk 100 rfl
  revert Hz
  cases hp70
  intro Hz
  have m71 := m70.oz [1, 2, 3, 8, 9, 10, 100]
  refine region_p 15 (B := [(1, _), (2, _), (3, _), (8, _), (9, _), (10, _), (100, _)]) (m71.to ⟨il, il, il, il, il, il, il, trivial⟩) m71 (by kernel_rfl) (fun w72 hP72 m72 => ?_); clear m71
  refine goR hP72 [0, 1, 2, 3, 4, 5] [2] 6 0 63 Hz (m72.to ⟨il, il, il, il, il, il, il, trivial⟩) (.move rfl <| .fa 9 rfl U28 <| .lb hh 8 U25 rfl rfl rfl <| .len rfl U25 <| .lss rfl rfl <| .move rfl .nil) fun Az Hz => ?_
  refine bc Hz 72 ?_ ?_
  rotate_left
  · intro hb _; exact absurd hb (by simp; omega)
  clear Hz; intro _ Hz
  refine goR hP72 [6, 7, 8, 9, 10, 11, 12, 13, 14] [7, 10, 12] 9 63 32767 Hz (m72.to ⟨il, il, il, il, il, il, il, trivial⟩) (.fa 9 rfl U28 <| .lb hh 8 U25 rfl rfl rfl <| .move rfl <| .p (fun _ _ h => y_idx h rfl rfl U25 fct9 (k) rfl hk) <| .loadC0 hh (i := 100) rfl rfl U2 rfl <| .fa 7 rfl U73 <| .lb hh 9 U2 rfl rfl rfl <| .leq rfl rfl <| .pickT rfl rfl .nil) fun Az Hz => ?_
  refine wpAnyE_done (by kernel_rfl) ?_ _
  refine hK12 _ _ ?_
  refine bc Hz 81 ?_ ?_
  ·
   intro hb89 Hz; try simp only [QQ, Qax] at hb89
   refine wct Hz ?_
   refine zss (hK11 _ _ ?_)
   refine wp_block ?_
   replace Hz := Hz.oz [2, 3, 4, 6, 72, 81]
   refine wp_region_lit ?_
   refine goCh Hz (.move rfl <| .inc (k + 1) <| .assign rfl .nil) fun Az Hz => ?_
   refine wpList_nil ?_
   show ∃ n', n' < _ ∧ _
   exact ⟨pins.length - (k + 1), by omega, k + 1, _, _, _, by omega, rfl, le_snoc hall (by omega), Hz.only [2, 3, 4, 6], m72.only [1, 2, 3, 8, 9, 10]⟩
  intro hb89 Hz; try simp only [QQ, Qax] at hb89
  refine wcf Hz ?_
  refine wp_exit ?_
  refine hK10 _ _ ?_
  replace Hz := Hz.oz [2, 3, 4, 6, 72, 81]
  have m95 := m72.oz [1, 2, 3, 8, 9, 10, 100]
  refine region_p 15 (B := [(1, _), (2, _), (3, _), (8, _), (9, _), (10, _), (100, _)]) (m95.to ⟨il, il, il, il, il, il, il, trivial⟩) m95 (by kernel_rfl) (fun w96 hP96 m96 => ?_); clear m95
  refine goR hP96 [0, 1, 2] [1] 3 0 7 Hz (m96.to ⟨il, il, il, il, il, il, il, trivial⟩) (.fa 9 rfl U28 <| .lb hh 8 U25 rfl rfl rfl <| .move rfl .nil) fun Az Hz => ?_
  have hcap100 := (m96.rd (i := 2) rfl).ns_out.cap
  have m100 := m96.takeN (i := 2) rfl (k) hkl 101 rfl
  refine goR hP96 [3, 5, 6, 9, 10, 11] [6, 10] 6 7 3695 Hz (m100.to ⟨il, il, il, il, il, il, il, trivial⟩) (.p (fun _ _ h => y_sliceHn h (k) rfl rfl U25 fct9 rfl (Nat.le_trans hkl hcap100.1)) <| .fa 7 rfl U73 <| .lb hh 9 U2 rfl rfl rfl <| .fa 9 rfl U28 <| .lb hh 8 U25 rfl rfl rfl <| .move rfl .nil) fun Az Hz => ?_
  have m107 := m100.dropN (i := 2) rfl (k) hkl 102 rfl
  refine goA hP96 [12] 1 3695 7791 Hz (m107.to ⟨il, il, il, il, il, il, il, trivial⟩) (.p (fun _ _ h => y_sliceLn h (k) rfl rfl U25 fct9 rfl hkl) .nil) fun Az Hz => ?_
  refine dtw 4 7 ?_ ?_
  ·
   refine e_app0N Hz m107 103 rfl rfl (m107.nums (i := 101) rfl) U25 fct25 (by decide) (by simp; omega) rfl fun p109 c109 Az w110 Hz m110 => ?_
   refine ⟨fun _ => (m110.to ⟨il, il, il, il, il, il, il, trivial⟩), ?_⟩
   refine so 7 ?_
   refine e_litN Hz m110 104 (k := .i64) rfl rfl U25 fct25 rfl rfl rfl rfl fun g111 Az w112 Hz m112 => ?_
   refine ⟨m112.to ⟨il, il, il, il, il, il, il, trivial⟩, ?_⟩
   refine so 8 ?_
   refine e_appN Hz m112 103 rfl rfl rfl (m112.numsO (i := 104) rfl) U25 fct25 (by decide) (by simp; omega) rfl fun p113 c113 Az w114 Hz m114 => ?_
   refine ⟨m114.to ⟨il, il, il, il, il, il, il, trivial⟩, ?_⟩
   refine so 13 ?_
   refine e_appN Hz m114 103 rfl rfl rfl (m114.nums (i := 102) rfl) U25 fct25 (by decide) (by simp; omega) rfl fun p115 c115 Az w116 Hz m116 => ?_
   refine ⟨m116.to ⟨il, il, il, il, il, il, il, trivial⟩, ?_⟩
   refine goA hP96 [14] 1 16383 32767 Hz (m116.to ⟨il, il, il, il, il, il, il, trivial⟩) (.fa 9 rfl U28 .nil) fun Az Hz => ?_
   refine se 15 ?_
   refine st1 Hz m116 8 fct41 fun w118 m118 _ => ?_
   refine wpAnyE_done (by kernel_rfl) ?_ _
   refine hK4 _ _ ?_
   replace Hz := Hz.oz [2, 3, 4, 6, 72, 81]
   refine zsr fun K13 hK13 => ?_
   refine goCh Hz (.loadBR m118 (i := 8) rfl rfl U28 rfl fct17 (by simp) (by dsimp only [List.drop, List.take] <;> rfl) .nil) fun Az Hz => ?_
   refine plz (stw Hz m118 10 fct17 fun w122 m122 _ => ?_)
   refine gz hK13 Hz (.assign rfl .nil) fun Az Hz => ?_
   refine rtd (retCT (fn := Try.f85) Hz m122 (i := 10) rfl rfl rfl rfl U28 rfl fct17 ?_)
   have m124 := m122.freezeN 103 rfl
   have hS := pin_sorted (k := k) hsp hall (by omega) (by omega)
   rw [hS] at m124 ⊢
   exact ⟨sortP (pins ++ [at0]), 0, _, _, rfl, by rw [pinR, show reachR hi fl at0 ws.length = 0 from by rw [reachR, if_neg (by simp_all), if_neg (by omega), if_neg (by omega)]]; rfl, m124.ren [(1, 1), (2, 2), (3, 3), (6, 103)] (by decide)⟩
  refine e_litN Hz m107 103 (k := .i64) rfl rfl U25 fct25 rfl rfl rfl rfl fun g125 Az w126 Hz m126 => ?_
  refine ⟨fun _ => (m126.to ⟨il, il, il, il, il, il, il, trivial⟩), ?_⟩
  refine so 4 ?_
  refine e_app0N Hz m126 104 rfl rfl (m126.nums (i := 101) rfl) U25 fct25 (by decide) (by simp; omega) rfl fun p127 c127 Az w128 Hz m128 => ?_
  refine ⟨m128.to ⟨il, il, il, il, il, il, il, trivial⟩, ?_⟩
  refine so 8 ?_
  refine e_appN Hz m128 104 rfl rfl rfl (m128.numsO (i := 103) rfl) U25 fct25 (by decide) (by simp; omega) rfl fun p129 c129 Az w130 Hz m130 => ?_
  refine ⟨m130.to ⟨il, il, il, il, il, il, il, trivial⟩, ?_⟩
  refine so 13 ?_
  refine e_appN Hz m130 104 rfl rfl rfl (m130.nums (i := 102) rfl) U25 fct25 (by decide) (by simp; omega) rfl fun p131 c131 Az w132 Hz m132 => ?_
  refine ⟨m132.to ⟨il, il, il, il, il, il, il, trivial⟩, ?_⟩
  refine goA hP96 [14] 1 16383 32767 Hz (m132.to ⟨il, il, il, il, il, il, il, trivial⟩) (.fa 9 rfl U28 .nil) fun Az Hz => ?_
  refine se 15 ?_
  refine st1 Hz m132 8 fct41 fun w134 m134 _ => ?_
  refine wpAnyE_done (by kernel_rfl) ?_ _
  refine hK4 _ _ ?_
  replace Hz := Hz.oz [2, 3, 4, 6, 72, 81]
  refine zsr fun K14 hK14 => ?_
  refine goCh Hz (.loadBR m134 (i := 8) rfl rfl U28 rfl fct17 (by simp) (by dsimp only [List.drop, List.take] <;> rfl) .nil) fun Az Hz => ?_
  refine plz (stw Hz m134 10 fct17 fun w138 m138 _ => ?_)
  refine gz hK14 Hz (.assign rfl .nil) fun Az Hz => ?_
  refine rtd (retCT (fn := Try.f85) Hz m138 (i := 10) rfl rfl rfl rfl U28 rfl fct17 ?_)
  have m140 := m138.freezeN 104 rfl
  have hS := pin_sorted (k := k) hsp hall (by omega) (by omega)
  rw [hS] at m140 ⊢
  exact ⟨sortP (pins ++ [at0]), 0, _, _, rfl, by rw [pinR, show reachR hi fl at0 ws.length = 0 from by rw [reachR, if_neg (by simp_all), if_neg (by omega), if_neg (by omega)]]; rfl, m140.ren [(1, 1), (2, 2), (3, 3), (6, 104)] (by decide)⟩
 have hk9 : k = pins.length := by omega
 have m141 := m69.oz [1, 2, 3, 8, 9, 10]
 refine region_p 15 (B := [(1, _), (2, _), (3, _), (8, _), (9, _), (10, _)]) (m141.to ⟨il, il, il, il, il, il, trivial⟩) m141 (by kernel_rfl) (fun w142 hP142 m142 => ?_); clear m141
 refine goR hP142 [0, 1, 2, 3, 4, 5] [2] 6 0 63 Hz (m142.to ⟨il, il, il, il, il, il, trivial⟩) (.move rfl <| .fa 9 rfl U28 <| .lb hh 8 U25 rfl rfl rfl <| .len rfl U25 <| .lss rfl rfl <| .move rfl .nil) fun Az Hz => ?_
 refine bc Hz 72 ?_ ?_
 · intro hb _; exact absurd hb (by simp; omega)
 clear Hz; intro _ Hz
 refine goA hP142 [6, 7, 8, 9, 10, 11, 12, 13, 14] 9 63 32767 Hz (m142.to ⟨il, il, il, il, il, il, trivial⟩) (.s <| .s <| .s <| .s <| .s <| .s <| .s <| .s <| .pickF rfl rfl .nil) fun Az Hz => ?_
 refine wpAnyE_done (by kernel_rfl) ?_ _
 refine hK12 _ _ ?_
 refine wcf Hz ?_
 refine wp_exit ?_
 refine hK10 _ _ ?_
 replace Hz := Hz.oz [2, 3, 4, 6, 72, 81]
 have m160 := m142.oz [1, 2, 3, 8, 9, 10]
 refine region_p 15 (B := [(1, _), (2, _), (3, _), (8, _), (9, _), (10, _)]) (m160.to ⟨il, il, il, il, il, il, trivial⟩) m160 (by kernel_rfl) (fun w161 hP161 m161 => ?_); clear m160
 refine goR hP161 [0, 1, 2] [1] 3 0 7 Hz (m161.to ⟨il, il, il, il, il, il, trivial⟩) (.fa 9 rfl U28 <| .lb hh 8 U25 rfl rfl rfl <| .move rfl .nil) fun Az Hz => ?_
 have hcap165 := (m161.rd (i := 2) rfl).ns_out.cap
 have m165 := m161.takeN (i := 2) rfl (k) hkl 100 rfl
 refine goR hP161 [3, 5, 6, 9, 10, 11] [6, 10] 6 7 3695 Hz (m165.to ⟨il, il, il, il, il, il, trivial⟩) (.p (fun _ _ h => y_sliceHn h (k) rfl rfl U25 fct9 rfl (Nat.le_trans hkl hcap165.1)) <| .fa 7 rfl U73 <| .lb hh 9 U2 rfl rfl rfl <| .fa 9 rfl U28 <| .lb hh 8 U25 rfl rfl rfl <| .move rfl .nil) fun Az Hz => ?_
 have m172 := m165.dropN (i := 2) rfl (k) hkl 101 rfl
 refine goA hP161 [12] 1 3695 7791 Hz (m172.to ⟨il, il, il, il, il, il, trivial⟩) (.p (fun _ _ h => y_sliceLn h (k) rfl rfl U25 fct9 rfl hkl) .nil) fun Az Hz => ?_
 refine dtw 4 7 ?_ ?_
 ·
  refine e_app0N Hz m172 102 rfl rfl (m172.nums (i := 100) rfl) U25 fct25 (by decide) (by simp; omega) rfl fun p174 c174 Az w175 Hz m175 => ?_
  refine ⟨fun _ => (m175.to ⟨il, il, il, il, il, il, trivial⟩), ?_⟩
  refine so 7 ?_
  refine e_litN Hz m175 103 (k := .i64) rfl rfl U25 fct25 rfl rfl rfl rfl fun g176 Az w177 Hz m177 => ?_
  refine ⟨m177.to ⟨il, il, il, il, il, il, trivial⟩, ?_⟩
  refine so 8 ?_
  refine e_appN Hz m177 102 rfl rfl rfl (m177.numsO (i := 103) rfl) U25 fct25 (by decide) (by simp; omega) rfl fun p178 c178 Az w179 Hz m179 => ?_
  refine ⟨m179.to ⟨il, il, il, il, il, il, trivial⟩, ?_⟩
  refine so 13 ?_
  refine e_appN Hz m179 102 rfl rfl rfl (m179.nums (i := 101) rfl) U25 fct25 (by decide) (by simp; omega) rfl fun p180 c180 Az w181 Hz m181 => ?_
  refine ⟨m181.to ⟨il, il, il, il, il, il, trivial⟩, ?_⟩
  refine goA hP161 [14] 1 16383 32767 Hz (m181.to ⟨il, il, il, il, il, il, trivial⟩) (.fa 9 rfl U28 .nil) fun Az Hz => ?_
  refine se 15 ?_
  refine st1 Hz m181 8 fct41 fun w183 m183 _ => ?_
  refine wpAnyE_done (by kernel_rfl) ?_ _
  refine hK4 _ _ ?_
  replace Hz := Hz.oz [2, 3, 4, 6, 72, 81]
  refine zsr fun K15 hK15 => ?_
  refine goCh Hz (.loadBR m183 (i := 8) rfl rfl U28 rfl fct17 (by simp) (by dsimp only [List.drop, List.take] <;> rfl) .nil) fun Az Hz => ?_
  refine plz (stw Hz m183 10 fct17 fun w187 m187 _ => ?_)
  refine gz hK15 Hz (.assign rfl .nil) fun Az Hz => ?_
  refine rtd (retCT (fn := Try.f85) Hz m187 (i := 10) rfl rfl rfl rfl U28 rfl fct17 ?_)
  have m189 := m187.freezeN 102 rfl
  have hS := pin_sorted (k := k) hsp hall (by omega) (by omega)
  rw [hS] at m189 ⊢
  exact ⟨sortP (pins ++ [at0]), 0, _, _, rfl, by rw [pinR, show reachR hi fl at0 ws.length = 0 from by rw [reachR, if_neg (by simp_all), if_neg (by omega), if_neg (by omega)]]; rfl, m189.ren [(1, 1), (2, 2), (3, 3), (6, 102)] (by decide)⟩
 refine e_litN Hz m172 102 (k := .i64) rfl rfl U25 fct25 rfl rfl rfl rfl fun g190 Az w191 Hz m191 => ?_
 refine ⟨fun _ => (m191.to ⟨il, il, il, il, il, il, trivial⟩), ?_⟩
 refine so 4 ?_
 refine e_app0N Hz m191 103 rfl rfl (m191.nums (i := 100) rfl) U25 fct25 (by decide) (by simp; omega) rfl fun p192 c192 Az w193 Hz m193 => ?_
 refine ⟨m193.to ⟨il, il, il, il, il, il, trivial⟩, ?_⟩
 refine so 8 ?_
 refine e_appN Hz m193 103 rfl rfl rfl (m193.numsO (i := 102) rfl) U25 fct25 (by decide) (by simp; omega) rfl fun p194 c194 Az w195 Hz m195 => ?_
 refine ⟨m195.to ⟨il, il, il, il, il, il, trivial⟩, ?_⟩
 refine so 13 ?_
 refine e_appN Hz m195 103 rfl rfl rfl (m195.nums (i := 101) rfl) U25 fct25 (by decide) (by simp; omega) rfl fun p196 c196 Az w197 Hz m197 => ?_
 refine ⟨m197.to ⟨il, il, il, il, il, il, trivial⟩, ?_⟩
 refine goA hP161 [14] 1 16383 32767 Hz (m197.to ⟨il, il, il, il, il, il, trivial⟩) (.fa 9 rfl U28 .nil) fun Az Hz => ?_
 refine se 15 ?_
 refine st1 Hz m197 8 fct41 fun w199 m199 _ => ?_
 refine wpAnyE_done (by kernel_rfl) ?_ _
 refine hK4 _ _ ?_
 replace Hz := Hz.oz [2, 3, 4, 6, 72, 81]
 refine zsr fun K16 hK16 => ?_
 refine goCh Hz (.loadBR m199 (i := 8) rfl rfl U28 rfl fct17 (by simp) (by dsimp only [List.drop, List.take] <;> rfl) .nil) fun Az Hz => ?_
 refine plz (stw Hz m199 10 fct17 fun w203 m203 _ => ?_)
 refine gz hK16 Hz (.assign rfl .nil) fun Az Hz => ?_
 refine rtd (retCT (fn := Try.f85) Hz m203 (i := 10) rfl rfl rfl rfl U28 rfl fct17 ?_)
 have m205 := m203.freezeN 103 rfl
 have hS := pin_sorted (k := k) hsp hall (by omega) (by omega)
 rw [hS] at m205 ⊢
 exact ⟨sortP (pins ++ [at0]), 0, _, _, rfl, by rw [pinR, show reachR hi fl at0 ws.length = 0 from by rw [reachR, if_neg (by simp_all), if_neg (by omega), if_neg (by omega)]]; rfl, m205.ren [(1, 1), (2, 2), (3, 3), (6, 103)] (by decide)⟩
theorem rdone5 (X : Cx) (vo bl sz pe to ne fl : Int) (hi : Bool) (place pins : List Int) (ws : List (Int × List (Int × List Int))) (pp pn pw : Option Addr) (cp cn9 cw : Nat) (v1 v2 v3 v4 v5 at0 v6 : Int) (q1 : Option Addr) (n1 c1 : Nat) (q2 : Option Addr) (n2 c2 : Nat) (w0 : World) (hp : pins.length ≤ 900000) (m0 : MemOk X w0 [(1, .dat (.slice pp place.length cp) (.ns .i64 place)), (2, .dat (.slice pn pins.length cn9) (.ns .i64 pins)), (3, .dat (.slice pw (ws.map wrD).length cw) (.l 2 (ws.map wrD)))] w0) :
   Calls Try.prog 85 #[.agg #[.int .i64 vo, .int .i64 bl, .int .i64 sz, .int .i64 pe, .slice pp place.length cp, .int .i64 to, .int .i64 ne, .bool hi, .int .i64 fl, .slice pn pins.length cn9, .slice pw (ws.map wrD).length cw], .agg #[.int .i64 5, .int .i64 v1, .int .i64 v2, .int .i64 v3, .int .i64 v4, .slice q1 n1 c1, .int .i64 v5, .int .i64 at0, .int .i64 v6, .slice q2 n2 c2]] w0 fun e w' => ∃ (pins' : List Int) (e9 : Int) (p2' : Option Addr) (d2' : Nat), e = .returned (.tuple #[.agg #[.int .i64 vo, .int .i64 bl, .int .i64 sz, .int .i64 pe, .slice pp place.length cp, .int .i64 to, .int .i64 ne, .bool hi, .int .i64 fl, .slice p2' pins'.length d2', .slice pw (ws.map wrD).length cw], .int .i64 e9]) ∧ unpinR hi at0 pins = (pins', e9) ∧ MemOk X w0 [(1, .dat (.slice pp place.length cp) (.ns .i64 place)), (2, .dat (.slice pn pins.length cn9) (.ns .i64 pins)), (3, .dat (.slice pw (ws.map wrD).length cw) (.l 2 (ws.map wrD))), (6, .dat (.slice p2' pins'.length d2') (.ns .i64 pins'))] w' := by
 refine ent2 Try.func85 rfl Try.ntmps85 fun Az Hz => ?_
 refine zsr fun K0 hK0 => ?_
 refine plz (e_box Hz m0 20 (cs := [_, _, _, _, _, _, _, _, _, _, _]) rfl rfl rfl fun g1 Az w2 Hz m2 _ _ => ?_)
 refine plz (e_box Hz m2 21 (cs := [_, _, _, _, _, _, _, _, _, _]) rfl rfl rfl fun g3 Az w4 Hz m4 _ _ => ?_)
 refine plz (e_alloc Hz m4 22 fct20 rfl fun g5 Az w6 Hz m6 _ _ => ?_)
 refine gz hK0 Hz (.assign rfl .nil) fun Az Hz => ?_
 refine wsk fun K1 hK1 => ?_
 refine regS Hz (.fa 0 rfl U73 <| .lb m6 21 U3 rfl rfl rfl .nil) fun Az Hz => ?_
 refine wp_block ?_
 refine wsk fun K2 hK2 => ?_
 refine regS Hz (.eql rfl rfl <| .assign rfl .nil) fun Az Hz => ?_
 refine bc Hz 10 ?_ ?_
 · intro hb _; exact absurd hb (by simp)
 clear Hz; intro _ Hz
 refine wcf Hz ?_
 refine regS Hz (.eql rfl rfl <| .assign rfl .nil) fun Az Hz => ?_
 refine bc Hz 10 ?_ ?_
 · intro hb _; exact absurd hb (by simp)
 clear Hz; intro _ Hz
 refine wcf Hz ?_
 refine regS Hz (.eql rfl rfl <| .assign rfl .nil) fun Az Hz => ?_
 refine bc Hz 10 ?_ ?_
 · intro hb _; exact absurd hb (by simp)
 clear Hz; intro _ Hz
 refine wcf Hz ?_
 replace Hz := Hz.oz [2, 3, 4, 5, 9, 10]
 refine wp_region_lit ?_
 refine gz hK2 Hz (.eql rfl rfl <| .assign rfl <| .nil) fun Az Hz => ?_
 refine bc Hz 10 ?_ ?_
 rotate_left
 · intro hb _; exact absurd hb (by simp)
 clear Hz; intro _ Hz
 refine wct Hz ?_
 refine regS Hz (.fa 7 rfl U28 <| .lb m6 20 U4 rfl rfl rfl .nil) fun Az Hz => ?_
 refine bc Hz 16 ?_ ?_
 ·
  intro hb25 Hz; try simp only [QQ, Qax] at hb25
  refine wct Hz ?_
  refine zsr fun K3 hK3 => ?_
  refine goCh Hz (.loadBR m6 (i := 20) rfl rfl U28 rfl fct17 (by simp) (by dsimp only [List.drop, List.take] <;> rfl) .nil) fun Az Hz => ?_
  refine plz (stw Hz m6 22 fct17 fun w28 m28 _ => ?_)
  refine gz hK3 Hz (.assign rfl .nil) fun Az Hz => ?_
  refine rtd (retCT (fn := Try.f85) Hz m28 (i := 22) rfl rfl rfl rfl U28 rfl fct17 ?_)
  have m30 := m28.dat 23 rfl (m28.rd (i := 2) rfl)
  exact ⟨pins, 28, _, _, rfl, by rw [unpinR, if_pos (by left; assumption)], m30.ren [(1, 1), (2, 2), (3, 3), (6, 23)] (by decide)⟩
 intro hb25 Hz; try simp only [QQ, Qax] at hb25
 refine wcf Hz ?_
 refine zss (hK1 _ _ ?_)
 refine wsk fun K4 hK4 => ?_
 refine regS Hz (.fa 0 rfl U73 <| .lb m6 21 U3 rfl rfl rfl .nil) fun Az Hz => ?_
 refine wp_block ?_
 refine regS Hz (.eql rfl rfl <| .assign rfl .nil) fun Az Hz => ?_
 refine bc Hz 21 ?_ ?_
 · intro hb _; exact absurd hb (by simp)
 clear Hz; intro _ Hz
 refine wcf Hz ?_
 replace Hz := Hz.oz [2, 3, 4, 5, 16, 19]
 refine regS Hz (.eql rfl rfl <| .assign rfl .nil) fun Az Hz => ?_
 refine bc Hz 36 ?_ ?_
 · intro hb _; exact absurd hb (by simp)
 clear Hz; intro _ Hz
 refine wcf Hz ?_
 refine regS Hz (.eql rfl rfl <| .assign rfl .nil) fun Az Hz => ?_
 refine bc Hz 53 ?_ ?_
 · intro hb _; exact absurd hb (by simp)
 clear Hz; intro _ Hz
 refine wcf Hz ?_
 refine regS Hz (.eql rfl rfl <| .assign rfl .nil) fun Az Hz => ?_
 refine bc Hz 99 ?_ ?_
 rotate_left
 · intro hb _; exact absurd hb (by simp)
 clear Hz; intro _ Hz
 refine wct Hz ?_
 refine wsk fun K5 hK5 => ?_
 replace Hz := Hz.oz [2, 3, 4, 5, 16, 19]
 refine regS Hz (.assign rfl .nil) fun Az Hz => ?_
 refine wp_block ?_
 refine wp_loop_ghost (fun g a w => ∃ (k B8 B9 B10 : Nat), k ≤ pins.length ∧ g = pins.length - k ∧ (∀ j, j < k → pins.getD j 0 ≠ at0) ∧ Has 197 [(2, .pointer (some ⟨B8, 0, none⟩)), (3, .pointer (some ⟨B9, 0, none⟩)), (4, .pointer (some ⟨B10, 0, none⟩)), (7, .int .i64 k)] a ∧ MemOk X w0 [(1, .dat (.slice pp place.length cp) (.ns .i64 place)), (2, .dat (.slice pn pins.length cn9) (.ns .i64 pins)), (3, .dat (.slice pw (ws.map wrD).length cw) (.l 2 (ws.map wrD))), (8, .box B8 28 [.int .i64 vo, .int .i64 bl, .int .i64 sz, .int .i64 pe, .slice pp place.length cp, .int .i64 to, .int .i64 ne, .bool hi, .int .i64 fl, .slice pn pins.length cn9, .slice pw (ws.map wrD).length cw]), (9, .box B9 73 [.int .i64 5, .int .i64 v1, .int .i64 v2, .int .i64 v3, .int .i64 v4, .slice q1 n1 c1, .int .i64 v5, .int .i64 at0, .int .i64 v6, .slice q2 n2 c2]), (10, .box B10 28 [.int .i64 0, .int .i64 0, .int .i64 0, .int .i64 0, .slice none 0 0, .int .i64 0, .int .i64 0, .bool false, .int .i64 0, .slice none 0 0, .slice none 0 0])] w) (pins.length) ?_ ?_
 · exact ⟨0, _, _, _, Nat.zero_le _, rfl, (fun j hj => by omega), Hz.only [2, 3, 4, 7], m6.ren [(1, 1), (2, 2), (3, 3), (8, 20), (9, 21), (10, 22)] (by decide)⟩
 clear Hz m6
 rintro g Az w48 ⟨k, B8, B9, B10, hkl, hg, hall, Hz, m48⟩
 refine wsk fun K6 hK6 => ?_
 refine regS Hz (.move rfl <| .fa 9 rfl U28 <| .lb m48 8 U25 rfl rfl rfl <| .len rfl U25 <| .lss rfl rfl .nil) fun Az Hz => ?_
 refine bc Hz 105 ?_ ?_
 ·
  intro hb54 Hz; try simp only [QQ, Qax] at hb54
  obtain ⟨hk, hkk⟩ : k < pins.length ∧ True := ⟨by omega, trivial⟩
  refine wct Hz ?_
  refine zss (hK6 _ _ ?_)
  refine wsk fun K7 hK7 => ?_
  refine wp_block ?_
  refine wsk fun K8 hK8 => ?_
  obtain ⟨b55, o55, hp55, m55⟩ := m48.openN (i := 2) rfl (k) (by omega) 100 rfl
  revert Hz
  cases hp55
  intro Hz
  have m56 := m55.oz [1, 2, 3, 8, 9, 10, 100]
  refine region_p 8 (B := [(1, _), (2, _), (3, _), (8, _), (9, _), (10, _), (100, _)]) (m56.to ⟨il, il, il, il, il, il, il, trivial⟩) m56 (by kernel_rfl) (fun w57 hP57 m57 => ?_); clear m56
  refine goR hP57 [0, 1, 2, 3, 4, 5, 6, 7] [1, 4, 6] 8 0 255 Hz (m57.to ⟨il, il, il, il, il, il, il, trivial⟩) (.fa 9 rfl U28 <| .lb hh 8 U25 rfl rfl rfl <| .move rfl <| .p (fun _ _ h => y_idx h rfl rfl U25 fct9 (k) rfl (by omega)) <| .loadC0 hh (i := 100) rfl rfl U2 rfl <| .fa 7 rfl U73 <| .lb hh 9 U2 rfl rfl rfl <| .eql rfl rfl .nil) fun Az Hz => ?_
  refine wpAnyE_done (by kernel_rfl) ?_ _
  refine hK8 _ _ ?_
  refine bc Hz 115 ?_ ?_
  ·
   intro hb66 Hz; try simp only [QQ, Qax] at hb66
   refine wct Hz ?_
   refine wsk fun K9 hK9 => ?_
   replace Hz := Hz.oz [2, 3, 4, 7, 105, 115]
   have m68 := m57.oz [1, 2, 3, 8, 9, 10, 100]
   refine region_p 12 (B := [(1, _), (2, _), (3, _), (8, _), (9, _), (10, _), (100, _)]) (m68.to ⟨il, il, il, il, il, il, il, trivial⟩) m68 (by kernel_rfl) (fun w69 hP69 m69 => ?_); clear m68
   refine goR hP69 [0, 1, 2] [1] 3 0 7 Hz (m69.to ⟨il, il, il, il, il, il, il, trivial⟩) (.fa 9 rfl U28 <| .lb hh 8 U25 rfl rfl rfl <| .move rfl .nil) fun Az Hz => ?_
   have hcap73 := (m69.rd (i := 2) rfl).ns_out.cap
   have m73 := m69.takeN (i := 2) rfl (k) hkl 101 rfl
   refine goR hP69 [3, 5, 6, 7, 8] [6] 5 7 495 Hz (m73.to ⟨il, il, il, il, il, il, il, trivial⟩) (.p (fun _ _ h => y_sliceHn h (k) rfl rfl U25 fct9 rfl (Nat.le_trans hkl hcap73.1)) <| .fa 9 rfl U28 <| .lb hh 8 U25 rfl rfl rfl <| .move rfl <| .add rfl rfl (r := ((k + 1 : Nat) : Int)) (by rw [IntWalk.i64_in _ (by omega)]; omega) .nil) fun Az Hz => ?_
   have m79 := m73.dropN (i := 2) rfl (k + 1) (show k + 1 ≤ pins.length by omega) 102 rfl
   refine goA hP69 [9] 1 495 1007 Hz (m79.to ⟨il, il, il, il, il, il, il, trivial⟩) (.p (fun _ _ h => y_sliceLn h (k + 1) rfl rfl U25 fct9 rfl (show k + 1 ≤ pins.length by omega)) .nil) fun Az Hz => ?_
   refine so 4 ?_
   refine e_app0N Hz m79 103 rfl rfl (m79.nums (i := 101) rfl) U25 fct25 (by decide) (by simp; omega) rfl fun p81 c81 Az w82 Hz m82 => ?_
   refine ⟨m82.to ⟨il, il, il, il, il, il, il, trivial⟩, ?_⟩
   refine so 10 ?_
   refine e_appN Hz m82 103 rfl rfl rfl (m82.nums (i := 102) rfl) U25 fct25 (by decide) (by simp; omega) rfl fun p83 c83 Az w84 Hz m84 => ?_
   refine ⟨m84.to ⟨il, il, il, il, il, il, il, trivial⟩, ?_⟩
   refine goA hP69 [11] 1 2047 4095 Hz (m84.to ⟨il, il, il, il, il, il, il, trivial⟩) (.fa 9 rfl U28 .nil) fun Az Hz => ?_
   refine se 12 ?_
   refine st1 Hz m84 8 fct41 fun w86 m86 _ => ?_
   refine wpAnyE_done (by kernel_rfl) ?_ _
   refine hK9 _ _ ?_
   replace Hz := Hz.oz [2, 3, 4, 7, 105, 115]
   refine zsr fun K10 hK10 => ?_
   refine goCh Hz (.loadBR m86 (i := 8) rfl rfl U28 rfl fct17 (by simp) (by dsimp only [List.drop, List.take] <;> rfl) .nil) fun Az Hz => ?_
   refine plz (stw Hz m86 10 fct17 fun w90 m90 _ => ?_)
   refine gz hK10 Hz (.assign rfl .nil) fun Az Hz => ?_
   refine rtd (retCT (fn := Try.f85) Hz m90 (i := 10) rfl rfl rfl rfl U28 rfl fct17 ?_)
   have m92 := m90.freezeN 103 rfl
   have hI := Lib.idxOf_hit pins pins.length k at0 hk (Nat.le_refl _) (by omega) hall
   rw [List.take_length] at hI
   exact ⟨pins.take k ++ pins.drop (k + 1), 0, _, _, rfl, by rw [unpinR, if_neg (by rintro (h | h) <;> first | omega | simp_all), hI]; simp, m92.ren [(1, 1), (2, 2), (3, 3), (6, 103)] (by decide)⟩
  intro hb66 Hz; try simp only [QQ, Qax] at hb66
  refine wcf Hz ?_
  refine zss (hK7 _ _ ?_)
  replace Hz := Hz.oz [2, 3, 4, 7, 105, 115]
  refine wp_region_lit ?_
  refine goCh Hz (.move rfl <| .inc (k + 1) <| .assign rfl .nil) fun Az Hz => ?_
  refine wpList_nil ?_
  show ∃ n', n' < _ ∧ _
  exact ⟨pins.length - (k + 1), by omega, k + 1, _, _, _, by omega, rfl, nn_snoc hall (by omega), Hz.only [2, 3, 4, 7], m57.only [1, 2, 3, 8, 9, 10]⟩
 intro hb54 Hz; try simp only [QQ, Qax] at hb54
 revert Hz
 obtain rfl : k = pins.length := by omega
 intro Hz
 refine wcf Hz ?_
 refine wp_exit ?_
 refine hK5 _ _ ?_
 refine zsr fun K11 hK11 => ?_
 refine goCh Hz (.loadBR m48 (i := 8) rfl rfl U28 rfl fct17 (by simp) (by dsimp only [List.drop, List.take] <;> rfl) .nil) fun Az Hz => ?_
 refine plz (stw Hz m48 10 fct17 fun w99 m99 _ => ?_)
 refine gz hK11 Hz (.assign rfl .nil) fun Az Hz => ?_
 refine rtd (retCT (fn := Try.f85) Hz m99 (i := 10) rfl rfl rfl rfl U28 rfl fct17 ?_)
 have m101 := m99.dat 100 rfl (m99.rd (i := 2) rfl)
 have hI := Lib.idxOf_miss pins pins.length at0 hall
 rw [List.take_length] at hI
 exact ⟨pins, 28, _, _, rfl, by rw [unpinR, if_pos (by right; omega)], m101.ren [(1, 1), (2, 2), (3, 3), (6, 100)] (by decide)⟩
end Go.Proofs.Yteglmahnkfgelaa.K
end
