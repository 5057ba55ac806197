/- volume: the reference's items, Len, Low, own, write. -/
import Derived.Test.YtflcgpajodfkoaaDoorVol14
namespace Go.Proofs.YtflcgpajodfkoaaDoor.K
open Go.ChangeShapes Go.WideShapes Go.ChangeAt Go.RowKit
set_option linter.unusedVariables false
set_option linter.unusedSimpArgs false
theorem fl58ro : flatS Tryd.prog 58 [.int .i64 0, .slice none 0 0] = true := by kernel_rfl
theorem fl64rr : flatS Tryd.prog 64 [.int .i64 0, .slice none 0 0] = true := by kernel_rfl
theorem notin_take {l : List (Int × List Int)} {k : Nat} {xb : Int} (h : ∀ i, i < k → (l.getD i i0).1 ≠ xb) (hk : k ≤ l.length) : ¬ ∃ e ∈ l.take k, e.1 = xb := fun ⟨e, h1, h2⟩ => by
 obtain ⟨j, hj, rfl⟩ := List.getElem_of_mem h1
 have hj2 : j < k := by rw [List.length_take] at hj; omega
 have h3 := h j hj2
 rw [List.getD, List.getElem?_eq_getElem (by omega)] at h3
 rw [List.getElem_take] at h2
 exact h3 h2
set_option maxRecDepth 100000
set_option maxHeartbeats 4000000
theorem ritems_any (bl sz : Int) (l : List (Int × List Int)) (p : Option Addr) (nn c : Nat) (w0 : World) (h0 : Rd (fun _ => True) w0 (.slice p nn c) (.l 2 (l.map itD))) (hl : l.length ≤ 1000000) :
   Calls Tryd.prog 97 #[.int .i64 bl, .int .i64 sz, .slice p nn c] w0 fun e w' => ∃ b : Bool, e = .returned (.bool b) ∧ (b = true ↔ ItemsR bl sz l) ∧ Below w0.heap.size w0 w' := by
 obtain rfl : nn = l.length := by obtain ⟨pq, cq, hv, _⟩ := h0.l_shape; injection hv with _ e2 _; rw [List.length_map] at e2; exact e2
 refine ent3 Tryd.func97 rfl Tryd.ntmps97 fun Az Hz => ?_
 have m0 := MemOk.start (fun _ => False) w0
 refine regS Hz (.assign rfl <| .nil) ?_
 clear Hz Az; intro Az Hz
 refine wp_seq_k (fun K0 hK0 => ?_)
 refine zsr fun K1 hK1 => ?_
 refine goCh Hz (.move rfl <| .len rfl U33 <| .lss rfl rfl <| .move rfl <| .nil) ?_
 clear Hz Az; intro Az Hz
 refine bool_cases Hz (t := 12) rfl ?_ ?_
 ·
  clear Hz; intro hb10 Hz; try simp only [QQ, Qax] at hb10
  refine goCh Hz (.sk <| .sk <| .sk <| .pickT rfl rfl <| .nil) ?_
  clear Hz Az; intro Az Hz
  refine znl (hK1 _ _ ?_); clear hK1
  refine wp_cond_true (Hz.ev (x := .tmp 16) rfl) ?_
  replace Hz : Has 64 [(0, _), (1, _), (2, _), (6, _), (12, _), (16, _)] Az := Hz.only [0, 1, 2, 6, 12, 16]
  refine regS Hz (.assign rfl <| .nil) ?_
  clear Hz Az; intro Az Hz
  refine wp_ret ?_
  try dsimp only [Exit.then, Exit.inBlock]
  refine (ret1 (fn := Tryd.f97) Hz rfl rfl ?_)
  exact ⟨false, rfl, iff_of_false (by simp) (fun h => by have h8 := h.1; have h9 := h.2.1; omega), m0.below⟩
 clear Hz; intro hb10 Hz; try simp only [QQ, Qax] at hb10
 refine goCh Hz (.moveZ rfl <| .lenZ rfl U33 <| .gtrZ rfl rfl <| .pickF rfl rfl <| .nil) ?_
 clear Hz Az; intro Az Hz
 refine znl (hK1 _ _ ?_); clear hK1
 refine bool_cases Hz (t := 16) rfl ?_ ?_
 ·
  clear Hz; intro hb21 Hz; try simp only [QQ, Qax] at hb21
  refine wp_cond_true (Hz.ev (x := .tmp 16) rfl) ?_
  replace Hz : Has 64 [(0, _), (1, _), (2, _), (6, _), (12, _), (16, _)] Az := Hz.only [0, 1, 2, 6, 12, 16]
  refine regS Hz (.assign rfl <| .nil) ?_
  clear Hz Az; intro Az Hz
  refine wp_ret ?_
  try dsimp only [Exit.then, Exit.inBlock]
  refine (ret1 (fn := Tryd.f97) Hz rfl rfl ?_)
  exact ⟨false, rfl, iff_of_false (by simp) (fun h => by have h8 := h.1; have h9 := h.2.1; omega), m0.below⟩
 clear Hz; intro hb21 Hz; try simp only [QQ, Qax] at hb21
 refine wp_cond_false (Hz.ev (x := .tmp 16) rfl) ?_
 refine zss (hK0 _ _ ?_); clear hK0
 refine wp_seq_k (fun K2 hK2 => ?_)
 replace Hz : Has 64 [(0, _), (1, _), (2, _), (6, _), (12, _), (16, _)] Az := Hz.only [0, 1, 2, 6, 12, 16]
 refine regS Hz (.assign rfl <| .nil) ?_
 clear Hz Az; intro Az Hz
 refine wp_block ?_
 refine wp_loop_ghost (fun g a w => ∃ k : Nat, k ≤ l.length ∧ g = l.length - k ∧ ItPre bl sz l k ∧ Has 64 [(0, .int .i64 bl), (1, .int .i64 sz), (2, .slice p l.length c), (7, .int .i64 k)] a ∧ MemOk (cn w0) w0 [] w) (l.length) ?_ ?_
 · exact ⟨0, Nat.zero_le _, rfl, (fun j hj => by omega), Hz.only [0, 1, 2, 7], m0.only []⟩
 clear Hz m0
 rintro g Az w26 ⟨k, hkl, hg, hall, Hz, m26⟩
 refine wp_seq_k (fun K3 hK3 => ?_)
 refine regS Hz (.move rfl <| .move rfl <| .len rfl U33 <| .lss rfl rfl <| .nil) ?_
 clear Hz Az; intro Az Hz
 refine bool_cases Hz (t := 20) rfl ?_ ?_
 ·
  clear Hz; intro hb31 Hz; try simp only [QQ, Qax] at hb31
  have hk : k < l.length := by omega
  obtain ⟨⟨xb, xd⟩, hes⟩ : ∃ e, l[k]? = some e := ⟨_, List.getElem?_eq_getElem hk⟩
  refine wp_cond_true (Hz.ev (x := .tmp 20) rfl) ?_
  refine zss (hK3 _ _ ?_); clear hK3
  refine wp_seq_k (fun K4 hK4 => ?_)
  refine wp_block ?_
  refine wp_seq_k (fun K5 hK5 => ?_)
  refine zsr fun K6 hK6 => ?_
  refine goCh Hz (.move rfl <| .move rfl <| .nil) ?_
  clear Hz Az; intro Az Hz
  obtain ⟨gx37, ox37, vx37, hp37, hl37, hR37, hrg37⟩ := h0.extA (k) (r := [.v (.int .i64 xb), .ns .u8 xd]) (itD_get hes)
  cases hp37; clear hl37
  rcases hR37 with _ | ⟨hd37_0, _ | ⟨hd37_1, _ | _⟩⟩
  obtain rfl := hd37_0.v_out
  clear hd37_0
  obtain ⟨p38, c38, hv38, hw38⟩ := hd37_1.ns_shape; subst hv38
  refine goCh Hz (.c rfl (fun _ h => y_idx h rfl rfl U33 fct2 (k) rfl hk) <| .fieldAddrQ 0 rfl U58 rfl (s := 0) (by kernel_rfl) rfl <| .loadAt1 (hrg37 m26 rfl) (q := 0) rfl rfl rfl U3 rfl <| .lss rfl rfl <| .move rfl <| .nil) ?_
  clear Hz Az; intro Az Hz
  refine bool_cases Hz (t := 29) rfl ?_ ?_
  ·
   clear Hz; intro hb44 Hz; try simp only [QQ, Qax] at hb44
   refine goCh Hz (.sk <| .sk <| .sk <| .sk <| .sk <| .sk <| .sk <| .pickT rfl rfl <| .move rfl <| .sk <| .sk <| .sk <| .sk <| .sk <| .sk <| .sk <| .sk <| .pickT rfl rfl <| .nil) ?_
   clear Hz Az; intro Az Hz
   refine znl (hK6 _ _ ?_); clear hK6
   refine wp_cond_true (Hz.ev (x := .tmp 47) rfl) ?_
   replace Hz : Has 64 [(0, _), (1, _), (2, _), (7, _), (20, _), (29, _), (38, _), (47, _)] Az := Hz.only [0, 1, 2, 7, 20, 29, 38, 47]
   refine regS Hz (.assign rfl <| .nil) ?_
   clear Hz Az; intro Az Hz
   refine wp_ret ?_
   try dsimp only [Exit.then, Exit.inBlock]
   refine (ret1 (fn := Tryd.f97) Hz rfl rfl ?_)
   exact ⟨false, rfl, iff_of_false (by simp) (fun h => by have h9 := h.2.2 k hk; rw [getI hes] at h9; dsimp only at h9; omega), m26.below⟩
  clear Hz; intro hb44 Hz; try simp only [QQ, Qax] at hb44
  refine goCh Hz (.moveZ rfl <| .moveZ rfl <| .nil) ?_
  clear Hz Az; intro Az Hz
  obtain ⟨gx67, ox67, vx67, hp67, hl67, hR67, hrg67⟩ := h0.extA (k) (r := [.v (.int .i64 xb), .ns .u8 xd]) (itD_get hes)
  cases hp67; clear hl67
  rcases hR67 with _ | ⟨hd67_0, _ | ⟨hd67_1, _ | _⟩⟩
  obtain rfl := hd67_0.v_out
  clear hd67_0
  obtain ⟨p68, c68, hv68, hw68⟩ := hd67_1.ns_shape; subst hv68
  refine goCh Hz (.g rfl rfl rfl rfl (fun _ h => y_idx h rfl rfl U33 fct2 (k) rfl hk) <| .fieldAddrQZ 0 rfl U58 rfl (s := 0) (by kernel_rfl) rfl <| .loadAt1Z (hrg67 m26 rfl) (q := 0) rfl rfl rfl U3 rfl <| .moveZ rfl <| .geqZ rfl rfl <| .pickF rfl rfl <| .move rfl <| .nil) ?_
  clear Hz Az; intro Az Hz
  refine bool_cases Hz (t := 38) rfl ?_ ?_
  ·
   clear Hz; intro hb76 Hz; try simp only [QQ, Qax] at hb76
   refine goCh Hz (.sk <| .sk <| .sk <| .sk <| .sk <| .sk <| .sk <| .sk <| .pickT rfl rfl <| .nil) ?_
   clear Hz Az; intro Az Hz
   refine znl (hK6 _ _ ?_); clear hK6
   refine wp_cond_true (Hz.ev (x := .tmp 47) rfl) ?_
   replace Hz : Has 64 [(0, _), (1, _), (2, _), (7, _), (20, _), (29, _), (38, _), (47, _)] Az := Hz.only [0, 1, 2, 7, 20, 29, 38, 47]
   refine regS Hz (.assign rfl <| .nil) ?_
   clear Hz Az; intro Az Hz
   refine wp_ret ?_
   try dsimp only [Exit.then, Exit.inBlock]
   refine (ret1 (fn := Tryd.f97) Hz rfl rfl ?_)
   exact ⟨false, rfl, iff_of_false (by simp) (fun h => by have h9 := h.2.2 k hk; rw [getI hes] at h9; dsimp only at h9; omega), m26.below⟩
  clear Hz; intro hb76 Hz; try simp only [QQ, Qax] at hb76
  refine goCh Hz (.moveZ rfl <| .moveZ rfl <| .nil) ?_
  clear Hz Az; intro Az Hz
  obtain ⟨gx90, ox90, vx90, hp90, hl90, hR90, hrg90⟩ := h0.extA (k) (r := [.v (.int .i64 xb), .ns .u8 xd]) (itD_get hes)
  cases hp90; clear hl90
  rcases hR90 with _ | ⟨hd90_0, _ | ⟨hd90_1, _ | _⟩⟩
  obtain rfl := hd90_0.v_out
  clear hd90_0
  obtain ⟨p91, c91, hv91, hw91⟩ := hd90_1.ns_shape; subst hv91
  refine goCh Hz (.g rfl rfl rfl rfl (fun _ h => y_idx h rfl rfl U33 fct2 (k) rfl hk) <| .fieldAddrQZ 1 rfl U58 rfl (s := 0) (by kernel_rfl) rfl <| .loadAt1Z (hrg90 m26 rfl) (q := 1) rfl rfl rfl U22 rfl <| .lenZ rfl U22 <| .moveZ rfl <| .neqZ rfl rfl <| .pickF rfl rfl <| .nil) ?_
  clear Hz Az; intro Az Hz
  refine znl (hK6 _ _ ?_); clear hK6
  refine bool_cases Hz (t := 47) rfl ?_ ?_
  ·
   clear Hz; intro hb99 Hz; try simp only [QQ, Qax] at hb99
   refine wp_cond_true (Hz.ev (x := .tmp 47) rfl) ?_
   replace Hz : Has 64 [(0, _), (1, _), (2, _), (7, _), (20, _), (29, _), (38, _), (47, _)] Az := Hz.only [0, 1, 2, 7, 20, 29, 38, 47]
   refine regS Hz (.assign rfl <| .nil) ?_
   clear Hz Az; intro Az Hz
   refine wp_ret ?_
   try dsimp only [Exit.then, Exit.inBlock]
   refine (ret1 (fn := Tryd.f97) Hz rfl rfl ?_)
   exact ⟨false, rfl, iff_of_false (by simp) (fun h => by have h9 := h.2.2 k hk; rw [getI hes] at h9; dsimp only at h9; omega), m26.below⟩
  clear Hz; intro hb99 Hz; try simp only [QQ, Qax] at hb99
  refine wp_cond_false (Hz.ev (x := .tmp 47) rfl) ?_
  refine zss (hK5 _ _ ?_); clear hK5
  replace Hz : Has 64 [(0, _), (1, _), (2, _), (7, _), (20, _), (29, _), (38, _), (47, _)] Az := Hz.only [0, 1, 2, 7, 20, 29, 38, 47]
  refine regS Hz (.assign rfl <| .nil) ?_
  clear Hz Az; intro Az Hz
  refine wp_block ?_
  refine wp_loop_ghost (fun g a w => ∃ j : Nat, j ≤ k ∧ g = k - j ∧ (∀ i, i < j → (l.getD i i0).1 ≠ xb) ∧ Has 64 [(0, .int .i64 bl), (1, .int .i64 sz), (2, .slice (some ⟨gx37, ox37, none⟩) l.length c), (7, .int .i64 k), (8, .int .i64 j)] a ∧ MemOk (cn w0) w0 [] w) (k) ?_ ?_
  · exact ⟨0, Nat.zero_le _, rfl, (fun i hi => by omega), Hz.only [0, 1, 2, 7, 8], m26.only []⟩
  clear Hz m26
  rintro g Az w104 ⟨j, hjk, hg2, hall2, Hz, m104⟩
  refine wp_seq_k (fun K7 hK7 => ?_)
  refine regS Hz (.move rfl <| .move rfl <| .lss rfl rfl <| .nil) ?_
  clear Hz Az; intro Az Hz
  refine bool_cases Hz (t := 50) rfl ?_ ?_
  ·
   clear Hz; intro hb108 Hz; try simp only [QQ, Qax] at hb108
   have hj : j < k := by omega
   obtain ⟨⟨yb, yd⟩, hej⟩ : ∃ e, l[j]? = some e := ⟨_, List.getElem?_eq_getElem (by omega)⟩
   refine wp_cond_true (Hz.ev (x := .tmp 50) rfl) ?_
   refine zss (hK7 _ _ ?_); clear hK7
   refine wp_seq_k (fun K8 hK8 => ?_)
   refine wp_block ?_
   refine wp_seq_k (fun K9 hK9 => ?_)
   obtain ⟨gx110, ox110, vx110, hp110, hl110, hR110, hrg110⟩ := h0.extA (j) (r := [.v (.int .i64 yb), .ns .u8 yd]) (itD_get hej)
   cases hp110; clear hl110
   rcases hR110 with _ | ⟨hd110_0, _ | ⟨hd110_1, _ | _⟩⟩
   obtain rfl := hd110_0.v_out
   clear hd110_0
   obtain ⟨p111, c111, hv111, hw111⟩ := hd110_1.ns_shape; subst hv111
   obtain ⟨gx113, ox113, vx113, hp113, hl113, hR113, hrg113⟩ := h0.extA (k) (r := [.v (.int .i64 xb), .ns .u8 xd]) (itD_get hes)
   cases hp113; clear hl113
   rcases hR113 with _ | ⟨hd113_0, _ | ⟨hd113_1, _ | _⟩⟩
   obtain rfl := hd113_0.v_out
   clear hd113_0
   obtain ⟨p114, c114, hv114, hw114⟩ := hd113_1.ns_shape; subst hv114
   have m115 : MemOk _ _ [] _ := m104.only []; clear m104
   refine region_p 11 (B := []) (m115.to trivial) m115 (by kernel_rfl) (fun w116 hP116 m116 => ?_); clear m115
   refine goR hP116 [0, 1, 2, 3, 4, 5, 6, 7, 8, 9, 10] [4, 9] 11 0 2047 Hz (m116.to trivial) (.move rfl <| .move rfl <| .p (fun _ _ h => y_idx h rfl rfl U33 fct2 (j) rfl (by omega)) <| .fieldAddrQ 0 rfl U58 rfl (s := 0) (by kernel_rfl) rfl <| .loadAt1 (fun _ h => (hrg110 h rfl)) (q := 0) rfl rfl rfl U3 rfl <| .move rfl <| .move rfl <| .p (fun _ _ h => y_idx h rfl rfl U33 fct2 (k) rfl hk) <| .fieldAddrQ 0 rfl U58 rfl (s := 0) (by kernel_rfl) rfl <| .loadAt1 (fun _ h => (hrg113 h rfl)) (q := 0) rfl rfl rfl U3 rfl <| .eql rfl rfl <| .nil) ?_
   clear Hz Az; intro Az Hz
   refine wpAnyE_done (by kernel_rfl) ?_ _
   refine hK9 _ _ ?_; clear hK9
   refine bool_cases Hz (t := 63) rfl ?_ ?_
   ·
    clear Hz; intro hb128 Hz; try simp only [QQ, Qax] at hb128
    refine wp_cond_true (Hz.ev (x := .tmp 63) rfl) ?_
    replace Hz : Has 64 [(0, _), (1, _), (2, _), (7, _), (8, _), (63, _)] Az := Hz.only [0, 1, 2, 7, 8, 63]
    refine regS Hz (.assign rfl <| .nil) ?_
    clear Hz Az; intro Az Hz
    refine wp_ret ?_
    try dsimp only [Exit.then, Exit.inBlock]
    refine (ret1 (fn := Tryd.f97) Hz rfl rfl ?_)
    exact ⟨false, rfl, iff_of_false (by simp) (fun h => by have h9 := (h.2.2 k hk).2.2.2; rw [getI hes] at h9; exact h9 ⟨_, List.mem_of_getElem? (i := j) (by rw [List.getElem?_take_of_lt hj]; exact hej), hb128⟩), m116.below⟩
   clear Hz; intro hb128 Hz; try simp only [QQ, Qax] at hb128
   refine wp_cond_false (Hz.ev (x := .tmp 63) rfl) ?_
   refine zss (hK8 _ _ ?_); clear hK8
   replace Hz : Has 64 [(0, _), (1, _), (2, _), (7, _), (8, _), (63, _)] Az := Hz.only [0, 1, 2, 7, 8, 63]
   refine wp_region_lit ?_
   refine goCh Hz (.move rfl <| .add rfl rfl (r := ((j + 1 : Nat) : Int)) (by rw [IntWalk.i64_in _ (by omega)]; omega) <| .assign rfl <| .nil) ?_
   clear Hz Az; intro Az Hz
   refine wpList_nil ?_
   show ∃ n', n' < _ ∧ _
   exact ⟨k - (j + 1), by omega, j + 1, by omega, rfl, ne_snoc hall2 hej hb128, Hz.only [0, 1, 2, 7, 8], m116.only []⟩
  clear Hz; intro hb108 Hz; try simp only [QQ, Qax] at hb108
  have hjk2 : j = k := by omega
  rw [hjk2] at hall2
  refine wp_cond_false (Hz.ev (x := .tmp 50) rfl) ?_
  refine wp_exit ?_
  refine hK4 _ _ ?_; clear hK4
  refine wp_region_lit ?_
  refine goCh Hz (.move rfl <| .add rfl rfl (r := ((k + 1 : Nat) : Int)) (by rw [IntWalk.i64_in _ (by omega)]; omega) <| .assign rfl <| .nil) ?_
  clear Hz Az; intro Az Hz
  refine wpList_nil ?_
  show ∃ n', n' < _ ∧ _
  exact ⟨l.length - (k + 1), by omega, k + 1, by omega, rfl, itpre_snoc hall hes (by omega) (by omega) (notin_take hall2 (by omega)), Hz.only [0, 1, 2, 7], m104.only []⟩
 clear Hz; intro hb31 Hz; try simp only [QQ, Qax] at hb31
 obtain rfl : k = l.length := by omega
 refine wp_cond_false (Hz.ev (x := .tmp 20) rfl) ?_
 refine wp_exit ?_
 refine hK2 _ _ ?_; clear hK2
 refine regS Hz (.assign rfl <| .nil) ?_
 clear Hz Az; intro Az Hz
 refine wp_ret ?_
 try dsimp only [Exit.then, Exit.inBlock]
 refine (ret1 (fn := Tryd.f97) Hz rfl rfl ?_)
 exact ⟨true, rfl, iff_of_true rfl ⟨by omega, by omega, hall⟩, m26.below⟩
theorem rlen_any (vo bl sz pe to ne fl : Int) (hi : Bool) (pp pn pw : Option Addr) (np cp nn cn nw cw : Nat) (w0 : World) :
   Calls Tryd.prog 22 #[.agg #[.int .i64 vo, .int .i64 bl, .int .i64 sz, .int .i64 pe, .slice pp np cp, .int .i64 to, .int .i64 ne, .bool hi, .int .i64 fl, .slice pn nn cn, .slice pw nw cw]] w0 fun e w' => e = .returned (.int .i64 (nw : Int)) ∧ Below w0.heap.size w0 w' := by
 refine ent1 Tryd.func22 rfl Tryd.ntmps22 fun Az Hz => ?_
 have m0 := MemOk.start (fun _ => False) w0
 refine zsr fun K0 hK0 => ?_
 refine wpList_plain rfl (fun K hK => ?_)
 refine e_box Hz m0 4 (cs := [_, _, _, _, _, _, _, _, _, _, _]) rfl rfl rfl ?_
 clear Hz Az m0; intro g1 Az w2 Hz m2 hB2 hg2
 clear hB2 hg2
 refine hK _ _ ?_; clear hK
 refine goCh Hz (.assign rfl .nil) ?_
 clear Hz Az; intro Az Hz
 refine znl (hK0 _ _ ?_); clear hK0
 refine regS Hz (.fa 10 rfl U30 <| .lb m2 4 U28 rfl rfl rfl <| .len rfl U28 <| .assign rfl <| .nil) ?_
 clear Hz Az; intro Az Hz
 refine wp_ret ?_
 try dsimp only [Exit.then, Exit.inBlock]
 refine (ret1 (fn := Tryd.f22) Hz rfl rfl ?_)
 exact ⟨rfl, m2.below⟩
theorem rlow_any (vo bl sz pe to ne fl : Int) (hi : Bool) (pins : List Int) (pp pn pw : Option Addr) (np cp cn9 nw cw : Nat) (w0 : World) (h1 : Rd (fun _ => True) w0 (.slice pn pins.length cn9) (.ns .i64 pins)) (hp : pins.length ≤ 1000000) :
   Calls Tryd.prog 99 #[.agg #[.int .i64 vo, .int .i64 bl, .int .i64 sz, .int .i64 pe, .slice pp np cp, .int .i64 to, .int .i64 ne, .bool hi, .int .i64 fl, .slice pn pins.length cn9, .slice pw nw cw]] w0 fun e w' => e = .returned (.int .i64 (lowL nw pins)) ∧ Below w0.heap.size w0 w' := by
 refine ent1 Tryd.func99 rfl Tryd.ntmps99 fun Az Hz => ?_
 have m0 := MemOk.start (fun _ => False) w0
 refine zsr fun K0 hK0 => ?_
 refine wpList_plain rfl (fun K hK => ?_)
 refine e_box Hz m0 20 (cs := [_, _, _, _, _, _, _, _, _, _, _]) rfl rfl rfl ?_
 clear Hz Az m0; intro g1 Az w2 Hz m2 hB2 hg2
 clear hB2 hg2
 refine hK _ _ ?_; clear hK
 refine goCh Hz (.assign rfl .nil) ?_
 clear Hz Az; intro Az Hz
 refine znl (hK0 _ _ ?_); clear hK0
 refine zsr fun K1 hK1 => ?_
 refine goCh Hz (.loadBR m2 (i := 20) rfl rfl U30 rfl fct10 (by simp) (by dsimp only [List.drop, List.take] <;> rfl) .nil) ?_
 clear Hz Az; intro Az Hz
 refine wpList_plain rfl (fun K hK => ?_)
 refine e_call Hz Tryd.func22 rfl rfl rfl rfl (rlen_any _ _ _ _ _ _ _ _ _ _ _ _ _ _ _ _ _ _) ?_
 rintro e w6 ⟨rfl, hb6⟩
 have m7 := m2.later hb6
 clear m2
 clear hb6
 refine ⟨_, rfl, ?_⟩; clear Hz Az; intro Az Hz
 refine hK _ _ ?_; clear hK
 refine goCh Hz (.assign rfl .nil) ?_
 clear Hz Az; intro Az Hz
 refine znl (hK1 _ _ ?_); clear hK1
 refine wp_seq_k (fun K2 hK2 => ?_)
 refine regS Hz (.assign rfl <| .nil) ?_
 clear Hz Az; intro Az Hz
 refine wp_block ?_
 refine wp_loop_ghost (fun g a w => ∃ (k B : Nat), k ≤ pins.length ∧ g = pins.length - k ∧ Has 22 [(1, .pointer (some ⟨B, 0, none⟩)), (3, .int .i64 (lowL nw (pins.take k))), (4, .int .i64 k)] a ∧ MemOk (cn w0) w0 [(9, .box B 30 [.int .i64 vo, .int .i64 bl, .int .i64 sz, .int .i64 pe, .slice pp np cp, .int .i64 to, .int .i64 ne, .bool hi, .int .i64 fl, .slice pn pins.length cn9, .slice pw nw cw])] w) (pins.length) ?_ ?_
 · exact ⟨0, _, Nat.zero_le _, rfl, Hz.only [1, 3, 4], m7.ren [(9, 20)] (by decide)⟩
 clear Hz m7
 rintro g Az w11 ⟨k, B, hkl, hg, Hz, m11⟩
 refine wp_seq_k (fun K3 hK3 => ?_)
 refine regS Hz (.move rfl <| .fa 9 rfl U30 <| .lb m11 9 U27 rfl rfl rfl <| .len rfl U27 <| .lss rfl rfl <| .nil) ?_
 clear Hz Az; intro Az Hz
 refine bool_cases Hz (t := 11) rfl ?_ ?_
 ·
  clear Hz; intro hb17 Hz; try simp only [QQ, Qax] at hb17
  have hk : k < pins.length := by omega
  refine wp_cond_true (Hz.ev (x := .tmp 11) rfl) ?_
  refine zss (hK3 _ _ ?_); clear hK3
  refine wp_seq_k (fun K4 hK4 => ?_)
  refine wp_block ?_
  refine wp_region_lit ?_
  refine goCh Hz (.move rfl <| .fa 9 rfl U30 <| .lb m11 9 U27 rfl rfl rfl <| .move rfl <| .nil) ?_
  clear Hz Az; intro Az Hz
  obtain ⟨gx22, ox22, hp22, hl22, hrg22⟩ := h1.extN (k) hk
  cases hp22; clear hl22
  refine goCh Hz (.c rfl (fun _ h => y_idx h rfl rfl U27 fct23 (k) rfl hk) <| .loadAt1 (hrg22 m11 rfl) (q := 0) rfl rfl rfl U2 rfl <| .c rfl (fun _ h => y_min h rfl rfl rfl) <| .assign rfl <| .nil) ?_
  clear Hz Az; intro Az Hz
  refine znl (hK4 _ _ ?_); clear hK4
  replace Hz : Has 22 [(1, _), (3, _), (4, _)] Az := Hz.only [1, 3, 4]
  refine wp_region_lit ?_
  refine goCh Hz (.move rfl <| .add rfl rfl (r := ((k + 1 : Nat) : Int)) (by rw [IntWalk.i64_in _ (by omega)]; omega) <| .assign rfl <| .nil) ?_
  clear Hz Az; intro Az Hz
  refine wpList_nil ?_
  show ∃ n', n' < _ ∧ _
  rw [low_snoc hk] at Hz
  exact ⟨pins.length - (k + 1), by omega, k + 1, _, by omega, rfl, Hz.only [1, 3, 4], m11.only [9]⟩
 clear Hz; intro hb17 Hz; try simp only [QQ, Qax] at hb17
 obtain rfl : k = pins.length := by omega
 refine wp_cond_false (Hz.ev (x := .tmp 11) rfl) ?_
 refine wp_exit ?_
 refine hK2 _ _ ?_; clear hK2
 refine regS Hz (.move rfl <| .assign rfl <| .nil) ?_
 clear Hz Az; intro Az Hz
 refine wp_ret ?_
 try dsimp only [Exit.then, Exit.inBlock]
 refine (ret1 (fn := Tryd.f99) Hz rfl rfl ?_)
 exact ⟨by rw [List.take_length], m11.below⟩
theorem rown_any (es : List (Int × List Int)) (p0 : Option Addr) (c0 nn : Nat) (w0 : World) (h0 : Rd (fun _ => True) w0 (.slice p0 nn c0) (.l 2 (es.map itD))) (hl : es.length ≤ 1000000) (hok : ItsOk es) :
   Calls Tryd.prog 103 #[.slice p0 nn c0] w0 fun e w' => ∃ p c, e = .returned (.slice p (es.map itD).length c) ∧ Rd (New w0) w' (.slice p (es.map itD).length c) (.l 2 (es.map itD)) ∧ Below w0.heap.size w0 w' := by
 obtain rfl : nn = es.length := by obtain ⟨pq, cq, hv, _⟩ := h0.l_shape; injection hv with _ e2 _; rw [List.length_map] at e2; exact e2
 refine ent1 Tryd.func103 rfl Tryd.ntmps103 fun Az Hz => ?_
 have m0 := MemOk.start (fun _ => False) w0
 refine regS Hz (.assign rfl <| .nil) ?_
 clear Hz Az; intro Az Hz
 refine regS Hz (.assign rfl <| .nil) ?_
 clear Hz Az; intro Az Hz
 refine wp_seq_k (fun K0 hK0 => ?_)
 refine regS Hz (.assign rfl <| .nil) ?_
 clear Hz Az; intro Az Hz
 refine wp_block ?_
 refine wp_loop_ghost (fun g a w => ∃ (k : Nat) (p : Option Addr) (c : Nat), k ≤ es.length ∧ g = es.length - k ∧ Has 27 [(0, .slice p0 es.length c0), (3, .slice p ((es.take k).map itD).length c), (4, .int .i64 k)] a ∧ MemOk (cn w0) w0 [(9, .row (.slice p ((es.take k).map itD).length c) 58 2 ((es.take k).map itD))] w) (es.length) ?_ ?_
 · have mz := m0.nilR 9 58 2
   exact ⟨0, _, _, Nat.zero_le _, rfl, Hz.only [0, 3, 4], mz.only [9]⟩
 clear Hz m0
 rintro g Az w4 ⟨k, p, c, hkl, hg, Hz, m4⟩
 refine wp_seq_k (fun K1 hK1 => ?_)
 refine regS Hz (.move rfl <| .move rfl <| .len rfl U33 <| .lss rfl rfl <| .nil) ?_
 clear Hz Az; intro Az Hz
 refine bool_cases Hz (t := 8) rfl ?_ ?_
 ·
  clear Hz; intro hb9 Hz; try simp only [QQ, Qax] at hb9
  have hk : k < es.length := by omega
  obtain ⟨⟨xb, xd⟩, hes⟩ : ∃ e, es[k]? = some e := ⟨_, List.getElem?_eq_getElem hk⟩
  have hed := hok _ (List.mem_of_getElem? hes)
  dsimp only at hed
  refine wp_cond_true (Hz.ev (x := .tmp 8) rfl) ?_
  refine zss (hK1 _ _ ?_); clear hK1
  refine wp_seq_k (fun K2 hK2 => ?_)
  refine wp_block ?_
  obtain ⟨gx11, ox11, vx11, hp11, hl11, hR11, hrg11⟩ := h0.extA (k) (r := [.v (.int .i64 xb), .ns .u8 xd]) (itD_get hes)
  cases hp11; clear hl11
  rcases hR11 with _ | ⟨hd11_0, _ | ⟨hd11_1, _ | _⟩⟩
  obtain rfl := hd11_0.v_out
  clear hd11_0
  obtain ⟨p12, c12, hv12, hw12⟩ := hd11_1.ns_shape; subst hv12
  obtain ⟨gx14, ox14, vx14, hp14, hl14, hR14, hrg14⟩ := h0.extA (k) (r := [.v (.int .i64 xb), .ns .u8 xd]) (itD_get hes)
  cases hp14; clear hl14
  rcases hR14 with _ | ⟨hd14_0, _ | ⟨hd14_1, _ | _⟩⟩
  obtain rfl := hd14_0.v_out
  clear hd14_0
  obtain ⟨p15, c15, hv15, hw15⟩ := hd14_1.ns_shape; subst hv15
  have m16 : MemOk _ _ [(9, _)] _ := m4.only [9]; clear m4
  refine region_p 14 (B := [(9, _)]) (m16.to ⟨il, trivial⟩) m16 (by kernel_rfl) (fun w17 hP17 m17 => ?_); clear m16
  refine goR hP17 [0, 1, 2, 3, 4, 5, 6, 7, 8, 9, 10] [5, 10] 11 0 2047 Hz (m17.to ⟨il, trivial⟩) (.move rfl <| .move rfl <| .move rfl <| .p (fun _ _ h => y_idx h rfl rfl U33 fct2 (k) rfl hk) <| .fieldAddrQ 0 rfl U58 rfl (s := 0) (by kernel_rfl) rfl <| .loadAt1 (fun _ h => (hrg11 h rfl)) (q := 0) rfl rfl rfl U3 rfl <| .move rfl <| .move rfl <| .p (fun _ _ h => y_idx h rfl rfl U33 fct2 (k) rfl hk) <| .fieldAddrQ 1 rfl U58 rfl (s := 0) (by kernel_rfl) rfl <| .loadAt1 (fun _ h => (hrg14 h rfl)) (q := 1) rfl rfl rfl U22 rfl <| .nil) ?_
  clear Hz Az; intro Az Hz
  refine stepE_only 11 rfl (by kernel_rfl) rfl (fun K hK => ?_)
  refine e_app0M Hz m17 102 rfl rfl (hd14_1.now' m17 rfl).ns_out.nums U22 fct0 (by decide) (by omega) rfl ?_
  clear Hz Az m17; intro p29 c29 Az w30 Hz m30
  refine hK _ _ (m30.to ⟨il, trivial⟩) ?_; clear hK K
  refine goA hP17 [12] 1 4095 8191 Hz (m30.to ⟨il, trivial⟩) (.build rfl fct3 fl58ro rfl (by dsimp only [setL, List.set] <;> rfl) <| .nil) ?_
  clear Hz Az; intro Az Hz
  have m33 := m30.freezeN 102 rfl; clear m30
  refine stepE_only 13 rfl (by kernel_rfl) rfl (fun K hK => ?_)
  refine e_litR Hz m33 103 (mm := 2) rfl (.cons rfl rfl (.cons (.v _) (.cons (m33.rd (i := 102) rfl) .nil)) <| .nil) U33 fct4 rfl rfl rfl rfl rfl ?_
  clear Hz Az m33; intro g32 Az w34 Hz m34
  refine hK _ _ (m34.to ⟨il, trivial⟩) ?_; clear hK K
  have m36 := m34.freezeR 103 rfl; clear m34
  refine stepE_end 14 rfl (by kernel_rfl) rfl (by rfl) (fun K hK => ?_)
  refine e_appR Hz m36 9 rfl rfl rfl (m36.rd (i := 103) rfl) U33 fct4 rfl rfl (by decide) (by simp; omega) rfl ?_
  clear Hz Az m36; intro p35 c35 Az w37 Hz m37
  refine hK _ _ ?_; clear hK
  refine goB hP17 [15] 1 32767 65535 Hz (.assign rfl <| .nil) ?_
  clear Hz Az; intro Az Hz
  refine wpAnyE_done (by kernel_rfl) ?_ _
  refine hK2 _ _ ?_; clear hK2
  replace Hz : Has 27 [(0, _), (3, _), (4, _)] Az := Hz.only [0, 3, 4]
  refine wp_region_lit ?_
  refine goCh Hz (.move rfl <| .add rfl rfl (r := ((k + 1 : Nat) : Int)) (by rw [IntWalk.i64_in _ (by omega)]; omega) <| .assign rfl <| .nil) ?_
  clear Hz Az; intro Az Hz
  refine wpList_nil ?_
  show ∃ n', n' < _ ∧ _
  have hE : (es.take k).map itD ++ [[D.v (.int .i64 xb), .ns .u8 xd]] = (es.take (k + 1)).map itD := by rw [take_snoc hes, List.map_append]; rfl
  rw [hE] at m37 Hz
  exact ⟨es.length - (k + 1), by omega, k + 1, _, _, by omega, rfl, Hz.only [0, 3, 4], m37.only [9]⟩
 clear Hz; intro hb9 Hz; try simp only [QQ, Qax] at hb9
 obtain rfl : k = es.length := by omega
 refine wp_cond_false (Hz.ev (x := .tmp 8) rfl) ?_
 refine wp_exit ?_
 refine hK0 _ _ ?_; clear hK0
 refine regS Hz (.move rfl <| .assign rfl <| .nil) ?_
 clear Hz Az; intro Az Hz
 refine wp_ret ?_
 try dsimp only [Exit.then, Exit.inBlock]
 refine (ret1 (fn := Tryd.f103) Hz rfl rfl ?_)
 rw [List.take_length] at *
 have m45 := m4.freezeR 9 rfl; clear m4
 exact ⟨_, _, rfl, m45.outF (i := 9) rfl, m45.below⟩
theorem rwrite_fr (X : Cx) (vo bl sz pe to ne fl : Int) (hi : Bool) (place pins : List Int) (ws : List (Int × List (Int × List Int))) (items : List (Int × List Int)) (pp pn pw : Option Addr) (cp cn9 cw : Nat) (pi : Option Addr) (ci : Nat) (w0 : World) (hl : ws.length ≤ 900000) (hil : items.length ≤ 1000000) (hio : ItsOk items) (m0 : MemOk X w0 [(1, .dat (.slice pp place.length cp) (.ns .i64 place)), (2, .dat (.slice pn pins.length cn9) (.ns .i64 pins)), (3, .dat (.slice pw (ws.map wrD).length cw) (.l 2 (ws.map wrD))), (4, .dat (.slice pi items.length ci) (.l 2 (items.map itD)))] w0) :
   Calls Tryd.prog 98 #[.agg #[.int .i64 vo, .int .i64 bl, .int .i64 sz, .int .i64 pe, .slice pp place.length cp, .int .i64 to, .int .i64 ne, .bool hi, .int .i64 fl, .slice pn pins.length cn9, .slice pw (ws.map wrD).length cw], .slice pi items.length ci] w0 fun e w' => ∃ p c, e = .returned (.agg #[.int .i64 vo, .int .i64 bl, .int .i64 sz, .int .i64 pe, .slice pp place.length cp, .int .i64 to, .int .i64 ne, .bool hi, .int .i64 fl, .slice pn pins.length cn9, .slice p ((ws ++ [((ws.length : Int) + 1, items)]).map wrD).length c]) ∧ MemOk X w0 [(1, .dat (.slice pp place.length cp) (.ns .i64 place)), (2, .dat (.slice pn pins.length cn9) (.ns .i64 pins)), (3, .dat (.slice pw (ws.map wrD).length cw) (.l 2 (ws.map wrD))), (4, .dat (.slice pi items.length ci) (.l 2 (items.map itD))), (7, .dat (.slice p ((ws ++ [((ws.length : Int) + 1, items)]).map wrD).length c) (.l 2 ((ws ++ [((ws.length : Int) + 1, items)]).map wrD)))] w' := by
 refine ent2 Tryd.func98 rfl Tryd.ntmps98 fun Az Hz => ?_
 refine zsr fun K0 hK0 => ?_
 refine wpList_plain rfl (fun K hK => ?_)
 refine e_box Hz m0 20 (cs := [_, _, _, _, _, _, _, _, _, _, _]) rfl rfl rfl ?_
 clear Hz Az m0; intro g1 Az w2 Hz m2 hB2 hg2
 clear hB2 hg2
 refine hK _ _ ?_; clear hK
 refine wpList_plain rfl (fun K hK => ?_)
 refine e_alloc Hz m2 21 fct12 rfl ?_
 clear Hz Az m2; intro g3 Az w4 Hz m4 hB4 hg4
 clear hB4 hg4
 refine hK _ _ ?_; clear hK
 refine znl (hK0 _ _ ?_); clear hK0
 refine wp_seq_k (fun K1 hK1 => ?_)
 have m5 : MemOk _ _ [(1, _), (2, _), (3, _), (4, _), (20, _), (21, _)] _ := m4.only [1, 2, 3, 4, 20, 21]; clear m4
 refine region_p 12 (B := [(1, _), (2, _), (3, _), (4, _), (20, _), (21, _)]) (m5.to ⟨il, il, il, il, il, il, trivial⟩) m5 (by kernel_rfl) (fun w6 hP6 m6 => ?_); clear m5
 refine goR hP6 [0, 1, 3, 6] [1, 3] 4 0 75 Hz (m6.to ⟨il, il, il, il, il, il, trivial⟩) (.fa 10 rfl U30 <| .lb hh 20 U28 rfl rfl rfl <| .loadBR hh (i := 20) rfl rfl U30 rfl fct10 (by simp) (by dsimp only [List.drop, List.take] <;> rfl) <| .move rfl <| .nil) ?_
 clear Hz Az; intro Az Hz
 have m11 := m6.nilR 22 64 2
 clear m6
 refine stepE_only 2 rfl (by kernel_rfl) rfl (fun K hK => ?_)
 refine e_appR Hz m11 22 rfl rfl rfl (m11.rd (i := 3) rfl) U28 fct24 rfl rfl (by decide) (by simp; omega) rfl ?_
 clear Hz Az m11; intro p12 c12 Az w13 Hz m13
 refine hK _ _ (m13.to ⟨il, il, il, il, il, il, trivial⟩) ?_; clear hK K
 refine stepE_only 4 rfl (by kernel_rfl) rfl (fun K hK => ?_)
 refine e_call Hz Tryd.func22 rfl rfl rfl rfl (rlen_any _ _ _ _ _ _ _ _ _ _ _ _ _ _ _ _ _ _) ?_
 rintro e w14 ⟨rfl, hb14⟩
 have m15 := m13.later hb14
 clear m13
 clear hb14
 refine ⟨_, rfl, ?_⟩; clear Hz Az; intro Az Hz
 refine hK _ _ (m15.to ⟨il, il, il, il, il, il, trivial⟩) ?_; clear hK K
 refine goA hP6 [5] 1 95 127 Hz (m15.to ⟨il, il, il, il, il, il, trivial⟩) (.add rfl rfl (r := (ws.length : Int) + 1) (by rw [List.length_map]; exact IntWalk.i64_in _ (by omega)) <| .nil) ?_
 clear Hz Az; intro Az Hz
 refine stepE_only 7 rfl (by kernel_rfl) rfl (fun K hK => ?_)
 refine e_call Hz Tryd.func103 rfl rfl rfl rfl (rown_any items _ _ _ _ ((m15.rd (i := 4) rfl).any) hil hio) ?_
 rintro e w18 ⟨p18, c18, rfl, hd18, hb18⟩
 have m19 := m15.callF 23 rfl hb18 hd18
 clear m15
 clear hb18 hd18
 refine ⟨_, rfl, ?_⟩; clear Hz Az; intro Az Hz
 refine hK _ _ (m19.to ⟨il, il, il, il, il, il, trivial⟩) ?_; clear hK K
 refine goA hP6 [8] 1 255 511 Hz (m19.to ⟨il, il, il, il, il, il, trivial⟩) (.build rfl fct26 fl64rr rfl (by dsimp only [setL, List.set] <;> rfl) <| .nil) ?_
 clear Hz Az; intro Az Hz
 refine stepE_only 9 rfl (by kernel_rfl) rfl (fun K hK => ?_)
 refine e_litR Hz m19 24 (mm := 2) rfl (.cons rfl rfl (.cons (.v _) (.cons (m19.rd (i := 23) rfl) .nil)) <| .nil) U28 fct24 rfl rfl rfl rfl rfl ?_
 clear Hz Az m19; intro g22 Az w23 Hz m23
 refine hK _ _ (m23.to ⟨il, il, il, il, il, il, trivial⟩) ?_; clear hK K
 have m25 := m23.freezeR 24 rfl; clear m23
 refine stepE_only 10 rfl (by kernel_rfl) rfl (fun K hK => ?_)
 refine e_appR Hz m25 22 rfl rfl rfl (m25.rd (i := 24) rfl) U28 fct24 rfl rfl (by decide) (by simp; omega) rfl ?_
 clear Hz Az m25; intro p24 c24 Az w26 Hz m26
 refine hK _ _ (m26.to ⟨il, il, il, il, il, il, trivial⟩) ?_; clear hK K
 refine goA hP6 [11] 1 2047 4095 Hz (m26.to ⟨il, il, il, il, il, il, trivial⟩) (.fa 10 rfl U30 <| .nil) ?_
 clear Hz Az; intro Az Hz
 refine stepE_end 12 rfl (by kernel_rfl) rfl (by rfl) (fun K hK => ?_)
 refine e_store1 Hz m26 20 rfl rfl rfl rfl rfl fct25 (by dsimp only [List.set] <;> rfl) ?_
 clear m26; intro w28 m28 hB28
 clear hB28
 refine hK _ _ ?_; clear hK
 refine wpAnyE_done (by kernel_rfl) ?_ _
 refine hK1 _ _ ?_; clear hK1
 replace Hz : Has 18 [(2, _), (4, _)] Az := Hz.only [2, 4]
 refine zsr fun K2 hK2 => ?_
 refine goCh Hz (.loadBR m28 (i := 20) rfl rfl U30 rfl fct10 (by simp) (by dsimp only [List.drop, List.take] <;> rfl) .nil) ?_
 clear Hz Az; intro Az Hz
 refine wpList_plain rfl (fun K hK => ?_)
 refine e_storeW Hz m28 21 rfl rfl rfl rfl rfl fct10 ?_
 clear m28; intro w32 m32 hB32
 clear hB32
 refine hK _ _ ?_; clear hK
 refine znl (hK2 _ _ ?_); clear hK2
 refine wp_ret ?_
 try dsimp only [Exit.then, Exit.inBlock]
 refine (retC (fn := Tryd.f98) Hz m32 (i := 21) rfl rfl rfl U30 rfl fct10 ?_)
 have hE : [] ++ ws.map wrD ++ [[D.v (.int .i64 ((ws.length : Int) + 1)), .l 2 (items.map itD)]] = (ws ++ [((ws.length : Int) + 1, items)]).map wrD := by rw [List.map_append]; rfl
 rw [hE] at m32 ⊢
 have m33 := m32.freezeR 22 rfl; clear m32
 exact ⟨_, _, rfl, m33.ren [(1, 1), (2, 2), (3, 3), (4, 4), (7, 22)] (by decide)⟩
end Go.Proofs.YtflcgpajodfkoaaDoor.K
