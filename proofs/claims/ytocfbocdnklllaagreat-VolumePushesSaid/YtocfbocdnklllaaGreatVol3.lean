/- volume: which items may be. -/
import Derived.Test.YtocfbocdnklllaaGreatG2
import Derived.Test.YtocfbocdnklllaaGreatVol2
namespace Go.Proofs.YtocfbocdnklllaaGreat.K
open Go.ChangeShapes Go.WideShapes Go.ChangeAt Go.RowKit
set_option linter.unusedVariables false
set_option linter.unusedSimpArgs false


theorem sz56ix : (Tryz.prog.info? 56).map (·.size) = some 2 := by kernel_rfl

theorem sz56ir : (Tryz.prog.info? 56).map (·.size) = some 2 := by kernel_rfl
theorem zc56ir : ((Tryz.prog.info? 56).bind (·.zero)).map (·.cells.toList) = some [.int .i64 0, .slice none 0 0] := by kernel_rfl


abbrev i0 : Int × List Int := (0, [])
theorem getI {l : List (Int × List Int)} {k : Nat} {e : Int × List Int} (h : l[k]? = some e) : l.getD k i0 = e := by rw [List.getD, h]; rfl
theorem ne_snoc {l : List (Int × List Int)} {k : Nat} {xb yb : Int} {yd : List Int} (h : ∀ j, j < k → (l.getD j i0).1 ≠ xb) (hes : l[k]? = some (yb, yd)) (hne : ¬ yb = xb) : ∀ j, j < k + 1 → (l.getD j i0).1 ≠ xb := fun j hj => by
 rcases Nat.lt_or_ge j k with h1 | h1
 · exact h j h1
 · obtain rfl : j = k := by omega
   rw [getI hes]; exact hne
def ItPre (bl sz : Int) (l : List (Int × List Int)) (k : Nat) : Prop := ∀ j, j < k → 0 ≤ (l.getD j i0).1 ∧ (l.getD j i0).1 < bl ∧ ((l.getD j i0).2.length : Int) = sz ∧ ¬ ∃ e ∈ l.take j, e.1 = (l.getD j i0).1
def ItemsR (bl sz : Int) (l : List (Int × List Int)) : Prop := 1 ≤ l.length ∧ l.length ≤ 8 ∧ ItPre bl sz l l.length
theorem itpre_snoc {bl sz : Int} {l : List (Int × List Int)} {k : Nat} {yb : Int} {yd : List Int} (h : ItPre bl sz l k) (hes : l[k]? = some (yb, yd)) (hb : 0 ≤ yb ∧ yb < bl) (hs : (yd.length : Int) = sz) (hn : ¬ ∃ e ∈ l.take k, e.1 = yb) : ItPre bl sz l (k + 1) := fun j hj => by
 rcases Nat.lt_or_ge j k with h1 | h1
 · exact h j h1
 · obtain rfl : j = k := by omega
   rw [getI hes]; exact ⟨hb.1, hb.2, hs, hn⟩
set_option maxRecDepth 100000
set_option maxHeartbeats 4000000
theorem eqblk_fr (X : Cx) (B : Nat) (xb yb : Int) (px py : Option Addr) (nx cx ny cy : Nat) (w0 : World) (m0 : MemOk X w0 [(2, .box B 56 [.int .i64 xb, .slice px nx cx])] w0) :
   Calls Tryz.prog 79 #[.agg #[.int .i64 yb, .slice py ny cy], .pointer (some ⟨B, 0, none⟩)] w0 fun e w' => e = .returned (.bool (decide (yb = xb))) ∧ MemOk X w0 [(2, .box B 56 [.int .i64 xb, .slice px nx cx])] w' := by
 refine enter (fn := Tryz.f79) Tryz.func79 rfl Tryz.ntmps79 rfl (fun Az Hz => ?_)
 simp only [List.zipIdx_cons, List.zipIdx_nil, List.map_cons, List.map_nil, Nat.reduceAdd, Nat.zero_add] at Hz
 refine wp_seq_k (fun K0 hK0 => ?_)
 refine wp_region_lit ?_
 refine wpList_plain rfl (fun K hK => ?_)
 refine e_box Hz m0 20 (cs := [_, _]) rfl rfl rfl ?_
 clear Hz Az m0; intro g1 Az w2 Hz m2 hB2 hg2
 clear hB2 hg2
 refine hK _ _ ?_; clear hK K
 refine goCh Hz (.assign rfl .nil) ?_
 clear Hz Az; intro Az Hz
 refine wpList_nil ?_
 refine hK0 _ _ ?_; clear hK0; try clear K0
 refine regS Hz (.fieldAddr (off := 0) rfl Tryz.underlying56 rfl (s := 0) (by kernel_rfl) rfl <| .loadB1 m2 (i := 20) rfl rfl rfl Tryz.underlying3 rfl <| .fieldAddr (off := 0) rfl Tryz.underlying56 rfl (s := 0) (by kernel_rfl) rfl <| .loadB1 m2 (i := 2) rfl rfl rfl Tryz.underlying3 rfl <| .eql rfl rfl <| .assign rfl <| .nil) ?_
 clear Hz Az; intro Az Hz
 refine wp_ret ?_
 try dsimp only [Exit.then, Exit.inBlock]
 refine (ret1 (fn := Tryz.f79) Hz rfl rfl ?_)
 exact ⟨rfl, m2.only [2]⟩
theorem ixfunc_fr (X : Cx) (B : Nat) (l : List (Int × List Int)) (xb : Int) (p px : Option Addr) (nn c nx cx : Nat) (w0 : World) (hl : l.length ≤ 1000000) (hnn : nn = l.length) (m0 : MemOk X w0 [(1, .dat (.slice p nn c) (.l 2 (l.map itD))), (2, .box B 56 [.int .i64 xb, .slice px nx cx])] w0) :
   Calls Tryz.prog 89 #[.slice p nn c, .func (.func 79) #[] #[.pointer (some ⟨B, 0, none⟩)]] w0 fun e w' => ∃ q : Int, e = .returned (.int .i64 q) ∧ (0 ≤ q ↔ ∃ e ∈ l, e.1 = xb) ∧ MemOk X w0 [(1, .dat (.slice p nn c) (.l 2 (l.map itD))), (2, .box B 56 [.int .i64 xb, .slice px nx cx])] w' := by
 subst hnn
 refine enter (fn := Tryz.f89) Tryz.func89 rfl Tryz.ntmps89 rfl (fun Az Hz => ?_)
 simp only [List.zipIdx_cons, List.zipIdx_nil, List.map_cons, List.map_nil, Nat.reduceAdd, Nat.zero_add] at Hz
 refine regS Hz (.assign rfl <| .nil) ?_
 clear Hz Az; intro Az Hz
 refine wp_seq_k (fun K0 hK0 => ?_)
 refine regS Hz (.move rfl <| .len rfl Tryz.underlying48 <| .move rfl <| .nil) ?_
 clear Hz Az; intro Az Hz
 refine wp_block ?_
 refine wp_loop_ghost (fun g a w => ∃ (k : Nat), k ≤ l.length ∧ g = l.length - k ∧ (∀ j, j < k → (l.getD j i0).1 ≠ xb) ∧ Has 19 [(0, .slice p l.length c), (1, .func (.func 79) #[] #[.pointer (some ⟨B, 0, none⟩)]), (7, .int .i64 l.length), (8, .int .i64 k)] a ∧ MemOk X w0 [(1, .dat (.slice p l.length c) (.l 2 (l.map itD))), (2, .box B 56 [.int .i64 xb, .slice px nx cx])] w) (l.length) ?_ ?_
 · exact ⟨0, Nat.zero_le _, rfl, (fun j hj => by omega), Hz.only [0, 1, 7, 8], m0.only [1, 2]⟩
 ·
  clear Hz m0
  rintro g Az w5 ⟨k, hkl, hg, hall, Hz, m5⟩
  refine regS Hz (.lss rfl rfl <| .nil) ?_
  clear Hz Az; intro Az Hz
  refine wp_seq_k (fun K1 hK1 => ?_)
  refine bool_cases Hz (t := 9) rfl ?_ ?_
  ·
   clear Hz; intro hb7 Hz
   try simp only [Q1x, Q2x, Q3x, Q4x, Q5x, Q6x, Q7x, Q8x, Q9x, Q0x, Qax, Qbx] at hb7
   have hk : k < l.length := by omega
   obtain ⟨⟨yb, yd⟩, hes⟩ : ∃ e, l[k]? = some e := ⟨_, List.getElem?_eq_getElem hk⟩
   refine wp_cond_true (Hz.ev (x := .tmp 9) rfl) ?_
   refine wp_skip ?_
   refine hK1 _ _ ?_; clear hK1; try clear K1
   refine wp_seq_k (fun K2 hK2 => ?_)
   refine wp_block ?_
   refine regS Hz (.move rfl <| .assign rfl <| .nil) ?_
   clear Hz Az; intro Az Hz
   refine wp_seq_k (fun K3 hK3 => ?_)
   refine wp_region_lit ?_
   refine goCh Hz (.move rfl <| .move rfl <| .move rfl <| .nil) ?_
   clear Hz Az; intro Az Hz
   obtain ⟨b17, o17, vs17, hp17, hR17, ho17, m17⟩ := m5.openR (i := 1) rfl (k) (r := [.v (.int .i64 yb), .ns .u8 yd]) (itD_get hes) 100 rfl
   cases hp17; clear m5 ho17
   rcases hR17 with _ | ⟨hd17_0, _ | ⟨hd17_1, _ | _⟩⟩
   obtain rfl := hd17_0.v_out
   clear hd17_0
   obtain ⟨p18, c18, hv18, hc18⟩ := hd17_1.ns_shape; subst hv18
   have m18 := m17.dat 101 rfl (hd17_1.cast (fun _ h => (free_add rfl h))); clear m17 hd17_1
   refine goCh Hz (.c rfl (fun _ h => y_idx h rfl rfl Tryz.underlying48 sz56ix (k) rfl hk) <| .loadCR m18 (i := 100) rfl rfl Tryz.underlying56 rfl sz56ix <| .nil) ?_
   clear Hz Az; intro Az Hz
   refine wpList_plain rfl (fun K hK => ?_)
   refine e_callC Hz rfl Tryz.func79 rfl rfl rfl rfl (eqblk_fr _ _ _ _ _ _ _ _ _ _ _ (m18.into [(2, 2)] (by decide) rfl)) ?_
   rintro e w21 ⟨rfl, hm21⟩
   have mx21 := m18.back hm21 [(2, 2)] (by decide); clear hm21 m18
   have m21 : MemOk _ _ [(2, _), (1, _), (100, _), (101, _)] _ := mx21.only [2, 1, 100, 101]; clear mx21
   refine ⟨_, rfl, ?_⟩; clear Hz Az; intro Az Hz
   refine hK _ _ ?_; clear hK K
   refine wpList_nil ?_
   refine hK3 _ _ ?_; clear hK3; try clear K3
   refine bool_cases Hz (t := 16) rfl ?_ ?_
   ·
    clear Hz; intro hb23 Hz
    try simp only [Q1x, Q2x, Q3x, Q4x, Q5x, Q6x, Q7x, Q8x, Q9x, Q0x, Qax, Qbx] at hb23
    refine wp_cond_true (Hz.ev (x := .tmp 16) rfl) ?_
    replace Hz : Has 19 [(0, _), (1, _), (7, _), (8, _), (5, _), (16, _)] Az := Hz.only [0, 1, 7, 8, 5, 16]
    refine regS Hz (.move rfl <| .assign rfl <| .nil) ?_
    clear Hz Az; intro Az Hz
    refine wp_ret ?_
    try dsimp only [Exit.then, Exit.inBlock]
    refine (ret1 (fn := Tryz.f89) Hz rfl rfl ?_)
    exact ⟨_, rfl, iff_of_true (by omega) ⟨_, List.mem_of_getElem? hes, hb23⟩, m21.only [1, 2]⟩
   ·
    clear Hz; intro hb23 Hz
    try simp only [Q1x, Q2x, Q3x, Q4x, Q5x, Q6x, Q7x, Q8x, Q9x, Q0x, Qax, Qbx] at hb23
    refine wp_cond_false (Hz.ev (x := .tmp 16) rfl) ?_
    refine wp_skip ?_
    refine hK2 _ _ ?_; clear hK2; try clear K2
    replace Hz : Has 19 [(0, _), (1, _), (7, _), (8, _), (16, _)] Az := Hz.only [0, 1, 7, 8, 16]
    refine wp_region_lit ?_
    refine goCh Hz (.add rfl rfl (r := ((k + 1 : Nat) : Int)) (by rw [IntWalk.i64_in _ (by omega)]; omega) <| .move rfl <| .nil) ?_
    clear Hz Az; intro Az Hz
    refine wpList_nil ?_
    show ∃ n', n' < _ ∧ _
    exact ⟨l.length - (k + 1), by omega, k + 1, by omega, rfl, ne_snoc hall hes hb23, Hz.only [0, 1, 7, 8], m21.only [1, 2]⟩
  ·
   clear Hz; intro hb7 Hz
   try simp only [Q1x, Q2x, Q3x, Q4x, Q5x, Q6x, Q7x, Q8x, Q9x, Q0x, Qax, Qbx] at hb7
   obtain rfl : k = l.length := by omega
   refine wp_cond_false (Hz.ev (x := .tmp 9) rfl) ?_
   refine wp_exit ?_
   refine hK0 _ _ ?_; clear hK0; try clear K0
   refine regS Hz (.assign rfl <| .nil) ?_
   clear Hz Az; intro Az Hz
   refine wp_ret ?_
   try dsimp only [Exit.then, Exit.inBlock]
   refine (ret1 (fn := Tryz.f89) Hz rfl rfl ?_)
   exact ⟨_, rfl, iff_of_false (by omega) (fun h => by obtain ⟨e9, h1, h2⟩ := h; obtain ⟨j, hj, rfl⟩ := List.getElem_of_mem h1; have := hall j hj; rw [List.getD, List.getElem?_eq_getElem hj] at this; exact this h2), m5.only [1, 2]⟩
theorem cfunc_fr (X : Cx) (B : Nat) (l : List (Int × List Int)) (xb : Int) (p px : Option Addr) (nn c nx cx : Nat) (w0 : World) (hl : l.length ≤ 1000000) (hnn : nn = l.length) (m0 : MemOk X w0 [(1, .dat (.slice p nn c) (.l 2 (l.map itD))), (2, .box B 56 [.int .i64 xb, .slice px nx cx])] w0) :
   Calls Tryz.prog 78 #[.slice p nn c, .func (.func 79) #[] #[.pointer (some ⟨B, 0, none⟩)]] w0 fun e w' => ∃ b : Bool, e = .returned (.bool b) ∧ (b = true ↔ ∃ e ∈ l, e.1 = xb) ∧ MemOk X w0 [(1, .dat (.slice p nn c) (.l 2 (l.map itD))), (2, .box B 56 [.int .i64 xb, .slice px nx cx])] w' := by
 subst hnn
 refine enter (fn := Tryz.f78) Tryz.func78 rfl Tryz.ntmps78 rfl (fun Az Hz => ?_)
 simp only [List.zipIdx_cons, List.zipIdx_nil, List.map_cons, List.map_nil, Nat.reduceAdd, Nat.zero_add] at Hz
 refine regS Hz (.assign rfl <| .nil) ?_
 clear Hz Az; intro Az Hz
 refine wp_seq_k (fun K0 hK0 => ?_)
 refine wp_region_lit ?_
 refine goCh Hz (.move rfl <| .move rfl <| .nil) ?_
 clear Hz Az; intro Az Hz
 refine wpList_plain rfl (fun K hK => ?_)
 refine e_call Hz Tryz.func89 rfl rfl rfl rfl (ixfunc_fr _ _ l _ _ _ _ _ _ _ _ (by omega) rfl (m0.into [(1, 1), (2, 2)] (by decide) rfl)) ?_
 rintro e w6 ⟨q, rfl, hq, hm6⟩
 have mx6 := m0.back hm6 [(1, 1), (2, 2)] (by decide); clear hm6 m0
 have m6 : MemOk _ _ [(1, _), (2, _)] _ := mx6.only [1, 2]; clear mx6
 refine ⟨_, rfl, ?_⟩; clear Hz Az; intro Az Hz
 refine hK _ _ ?_; clear hK K
 refine goCh Hz (.geq rfl rfl <| .assign rfl <| .nil) ?_
 clear Hz Az; intro Az Hz
 refine wpList_nil ?_
 refine hK0 _ _ ?_; clear hK0; try clear K0
 refine wp_ret ?_
 try dsimp only [Exit.then, Exit.inBlock]
 refine (ret1 (fn := Tryz.f78) Hz rfl rfl ?_)
 exact ⟨_, rfl, by rw [decide_eq_true_eq]; exact hq, m6.only [1, 2]⟩
theorem pitems_any (bl sz : Int) (l : List (Int × List Int)) (p : Option Addr) (c : Nat) (w0 : World) (h0 : Rd (fun _ => True) w0 (.slice p l.length c) (.l 2 (l.map itD))) (hl : l.length ≤ 1000000) :
   Calls Tryz.prog 61 #[.int .i64 bl, .int .i64 sz, .slice p l.length c] w0 fun e w' => ∃ b : Bool, e = .returned (.bool b) ∧ (b = true ↔ ItemsR bl sz l) ∧ Below w0.heap.size w0 w' := by
 have hcap : l.length ≤ c := by obtain ⟨pq, cq, hv, hcap⟩ := h0.l_shape; injection hv with _ _ e3; rw [List.length_map] at hcap; omega
 refine enter (fn := Tryz.f61) Tryz.func61 rfl Tryz.ntmps61 rfl (fun Az Hz => ?_)
 simp only [List.zipIdx_cons, List.zipIdx_nil, List.map_cons, List.map_nil, Nat.reduceAdd, Nat.zero_add] at Hz
 have m0 := (MemOk.start (fun _ => True) w0).dat 1 rfl (h0.cast (fun _ _ => free_nil (fun _ => trivial)))
 refine regS Hz (.assign rfl <| .nil) ?_
 clear Hz Az; intro Az Hz
 refine wp_seq_k (fun K0 hK0 => ?_)
 refine regS Hz (.move rfl <| .len rfl Tryz.underlying48 <| .move rfl <| .nil) ?_
 clear Hz Az; intro Az Hz
 refine wp_block ?_
 refine wp_loop_ghost (fun g a w => ∃ (k : Nat), k ≤ l.length ∧ g = l.length - k ∧ ItPre bl sz l k ∧ Has 46 [(0, .int .i64 bl), (1, .int .i64 sz), (2, .slice p l.length c), (9, .slice p l.length c), (10, .int .i64 l.length), (11, .int .i64 k)] a ∧ MemOk (cx (fun _ => True) w0) w0 [(1, .dat (.slice p l.length c) (.l 2 (l.map itD)))] w) (l.length) ?_ ?_
 · exact ⟨0, Nat.zero_le _, rfl, (fun j hj => by omega), Hz.only [0, 1, 2, 9, 10, 11], m0.only [1]⟩
 ·
  clear Hz m0
  rintro g Az w5 ⟨k, hkl, hg, hall, Hz, m5⟩
  refine regS Hz (.lss rfl rfl <| .nil) ?_
  clear Hz Az; intro Az Hz
  refine wp_seq_k (fun K1 hK1 => ?_)
  refine bool_cases Hz (t := 12) rfl ?_ ?_
  ·
   clear Hz; intro hb7 Hz
   try simp only [Q1x, Q2x, Q3x, Q4x, Q5x, Q6x, Q7x, Q8x, Q9x, Q0x, Qax, Qbx] at hb7
   have hk : k < l.length := by omega
   obtain ⟨⟨yb, yd⟩, hes⟩ : ∃ e, l[k]? = some e := ⟨_, List.getElem?_eq_getElem hk⟩
   refine wp_cond_true (Hz.ev (x := .tmp 12) rfl) ?_
   refine wp_skip ?_
   refine hK1 _ _ ?_; clear hK1; try clear K1
   refine wp_seq_k (fun K2 hK2 => ?_)
   refine wp_block ?_
   refine wp_seq_k (fun K3 hK3 => ?_)
   refine wp_region_lit ?_
   refine goCh Hz (.move rfl .nil) ?_
   clear Hz Az; intro Az Hz
   obtain ⟨b11, o11, vs11, hp11, hR11, ho11, m11⟩ := m5.openR (i := 1) rfl (k) (r := [.v (.int .i64 yb), .ns .u8 yd]) (itD_get hes) 100 rfl
   cases hp11; clear m5 ho11
   rcases hR11 with _ | ⟨hd11_0, _ | ⟨hd11_1, _ | _⟩⟩
   obtain rfl := hd11_0.v_out
   clear hd11_0
   obtain ⟨p12, c12, hv12, hc12⟩ := hd11_1.ns_shape; subst hv12
   have m12 := m11.dat 101 rfl (hd11_1.cast (fun _ h => (free_add rfl h))); clear m11 hd11_1
   refine goCh Hz (.c rfl (fun _ h => y_idx h rfl rfl Tryz.underlying48 sz56ir (k) rfl hk) <| .loadCR m12 (i := 100) rfl rfl Tryz.underlying56 rfl sz56ir <| .nil) ?_
   clear Hz Az; intro Az Hz
   refine wpList_plain rfl (fun K hK => ?_)
   refine e_alloc Hz m12 102 zc56ir rfl ?_
   clear Hz Az m12; intro g15 Az w16 Hz m16 hB16 hg16
   clear hB16 hg16
   refine hK _ _ ?_; clear hK K
   refine goCh Hz (.assign rfl .nil) ?_
   clear Hz Az; intro Az Hz
   refine wpList_plain rfl (fun K hK => ?_)
   refine e_storeW Hz m16 102 rfl rfl rfl rfl rfl sz56ir ?_
   clear m16; intro w18 m18 hB18
   clear hB18
   refine hK _ _ ?_; clear hK K
   refine wpList_nil ?_
   refine hK3 _ _ ?_; clear hK3; try clear K3
   refine wp_seq_k (fun K4 hK4 => ?_)
   refine wp_seq_k (fun K5 hK5 => ?_)
   refine wp_region_lit ?_
   refine goCh Hz (.fieldAddr (off := 0) rfl Tryz.underlying56 rfl (s := 0) (by kernel_rfl) rfl <| .loadB1 m18 (i := 102) rfl rfl rfl Tryz.underlying3 rfl <| .lss rfl rfl <| .move rfl <| .nil) ?_
   clear Hz Az; intro Az Hz
   refine bool_cases Hz (t := 19) rfl ?_ ?_
   ·
    clear Hz; intro hb27 Hz
    try simp only [Q1x, Q2x, Q3x, Q4x, Q5x, Q6x, Q7x, Q8x, Q9x, Q0x, Qax, Qbx] at hb27
    refine goCh Hz (.sk <| .sk <| .sk <| .sk <| .pickT rfl rfl <| .move rfl <| .sk <| .sk <| .sk <| .sk <| .sk <| .pickT rfl rfl <| .nil) ?_
    clear Hz Az; intro Az Hz
    refine wpList_nil ?_
    refine hK5 _ _ ?_; clear hK5; try clear K5
    refine wp_cond_true (Hz.ev (x := .tmp 31) rfl) ?_
    replace Hz : Has 46 [(0, _), (1, _), (2, _), (9, _), (10, _), (11, _), (12, _), (8, _), (7, _)] Az := Hz.only [0, 1, 2, 9, 10, 11, 12, 8, 7]
    refine regS Hz (.assign rfl <| .nil) ?_
    clear Hz Az; intro Az Hz
    refine wp_ret ?_
    try dsimp only [Exit.then, Exit.inBlock]
    refine (ret1 (fn := Tryz.f61) Hz rfl rfl ?_)
    exact ⟨_, rfl, iff_of_false (by simp) (fun h => by have h9 := h.2.2 k hk; rw [getI hes] at h9; dsimp only at h9; omega), m18.below⟩
   ·
    clear Hz; intro hb27 Hz
    try simp only [Q1x, Q2x, Q3x, Q4x, Q5x, Q6x, Q7x, Q8x, Q9x, Q0x, Qax, Qbx] at hb27
    refine goCh Hz (.fieldAddrZ (off := 0) rfl Tryz.underlying56 rfl (s := 0) (by kernel_rfl) rfl <| .loadB1Z m18 (i := 102) rfl rfl rfl Tryz.underlying3 rfl <| .moveZ rfl <| .geqZ rfl rfl <| .pickF rfl rfl <| .move rfl <| .nil) ?_
    clear Hz Az; intro Az Hz
    refine bool_cases Hz (t := 25) rfl ?_ ?_
    ·
     clear Hz; intro hb48 Hz
     try simp only [Q1x, Q2x, Q3x, Q4x, Q5x, Q6x, Q7x, Q8x, Q9x, Q0x, Qax, Qbx] at hb48
     refine goCh Hz (.sk <| .sk <| .sk <| .sk <| .sk <| .pickT rfl rfl <| .nil) ?_
     clear Hz Az; intro Az Hz
     refine wpList_nil ?_
     refine hK5 _ _ ?_; clear hK5; try clear K5
     refine wp_cond_true (Hz.ev (x := .tmp 31) rfl) ?_
     replace Hz : Has 46 [(0, _), (1, _), (2, _), (9, _), (10, _), (11, _), (12, _), (8, _), (7, _)] Az := Hz.only [0, 1, 2, 9, 10, 11, 12, 8, 7]
     refine regS Hz (.assign rfl <| .nil) ?_
     clear Hz Az; intro Az Hz
     refine wp_ret ?_
     try dsimp only [Exit.then, Exit.inBlock]
     refine (ret1 (fn := Tryz.f61) Hz rfl rfl ?_)
     exact ⟨_, rfl, iff_of_false (by simp) (fun h => by have h9 := h.2.2 k hk; rw [getI hes] at h9; dsimp only at h9; omega), m18.below⟩
    ·
     clear Hz; intro hb48 Hz
     try simp only [Q1x, Q2x, Q3x, Q4x, Q5x, Q6x, Q7x, Q8x, Q9x, Q0x, Qax, Qbx] at hb48
     refine goCh Hz (.fieldAddrZ (off := 1) rfl Tryz.underlying56 rfl (s := 0) (by kernel_rfl) rfl <| .loadB1Z m18 (i := 102) rfl rfl rfl Tryz.underlying22 rfl <| .lenZ rfl Tryz.underlying22 <| .moveZ rfl <| .neqZ rfl rfl <| .pickF rfl rfl <| .nil) ?_
     clear Hz Az; intro Az Hz
     refine wpList_nil ?_
     refine hK5 _ _ ?_; clear hK5; try clear K5
     refine bool_cases Hz (t := 31) rfl ?_ ?_
     ·
      clear Hz; intro hb63 Hz
      try simp only [Q1x, Q2x, Q3x, Q4x, Q5x, Q6x, Q7x, Q8x, Q9x, Q0x, Qax, Qbx] at hb63
      refine wp_cond_true (Hz.ev (x := .tmp 31) rfl) ?_
      replace Hz : Has 46 [(0, _), (1, _), (2, _), (9, _), (10, _), (11, _), (12, _), (8, _), (7, _)] Az := Hz.only [0, 1, 2, 9, 10, 11, 12, 8, 7]
      refine regS Hz (.assign rfl <| .nil) ?_
      clear Hz Az; intro Az Hz
      refine wp_ret ?_
      try dsimp only [Exit.then, Exit.inBlock]
      refine (ret1 (fn := Tryz.f61) Hz rfl rfl ?_)
      exact ⟨_, rfl, iff_of_false (by simp) (fun h => by have h9 := h.2.2 k hk; rw [getI hes] at h9; dsimp only at h9; omega), m18.below⟩
     ·
      clear Hz; intro hb63 Hz
      try simp only [Q1x, Q2x, Q3x, Q4x, Q5x, Q6x, Q7x, Q8x, Q9x, Q0x, Qax, Qbx] at hb63
      refine wp_cond_false (Hz.ev (x := .tmp 31) rfl) ?_
      refine wp_skip ?_
      refine hK4 _ _ ?_; clear hK4; try clear K4
      replace Hz : Has 46 [(0, _), (1, _), (2, _), (9, _), (10, _), (11, _), (12, _), (8, _), (7, _)] Az := Hz.only [0, 1, 2, 9, 10, 11, 12, 8, 7]
      refine wp_seq_k (fun K6 hK6 => ?_)
      refine wp_region_lit ?_
      refine goCh Hz (.move rfl <| .move rfl <| .c rfl (fun _ h => y_sliceHn h k rfl rfl Tryz.underlying48 sz56ir rfl (by omega)) <| .makeFunc rfl <| .nil) ?_
      clear Hz Az; intro Az Hz
      have m75 := m18.takeR (i := 1) rfl k (by rw [List.length_map]; omega) 103 rfl; clear m18
      rw [← List.map_take] at m75
      refine wpList_plain rfl (fun K hK => ?_)
      refine e_call Hz Tryz.func78 rfl rfl rfl rfl (cfunc_fr _ _ (l.take k) _ _ _ _ _ _ _ _ (by rw [List.length_take]; omega) (by rw [List.length_take]; omega) (m75.into [(1, 103), (2, 102)] (by decide) rfl)) ?_
      rintro e w76 ⟨cb, rfl, hcb, hm76⟩
      have mx76 := m75.back hm76 [(103, 1), (102, 2)] (by decide); clear hm76 m75
      have m76 : MemOk _ _ [(103, _), (102, _), (1, _), (100, _), (101, _)] _ := mx76.only [103, 102, 1, 100, 101]; clear mx76
      refine ⟨_, rfl, ?_⟩; clear Hz Az; intro Az Hz
      refine hK _ _ ?_; clear hK K
      refine wpList_nil ?_
      refine hK6 _ _ ?_; clear hK6; try clear K6
      refine bool_cases Hz (t := 36) rfl ?_ ?_
      ·
       clear Hz; intro hb78 Hz
       try simp only [Q1x, Q2x, Q3x, Q4x, Q5x, Q6x, Q7x, Q8x, Q9x, Q0x, Qax, Qbx] at hb78
       refine wp_cond_true (Hz.ev (x := .tmp 36) rfl) ?_
       replace Hz : Has 46 [(0, _), (1, _), (2, _), (9, _), (10, _), (11, _), (12, _), (36, _)] Az := Hz.only [0, 1, 2, 9, 10, 11, 12, 36]
       refine regS Hz (.assign rfl <| .nil) ?_
       clear Hz Az; intro Az Hz
       refine wp_ret ?_
       try dsimp only [Exit.then, Exit.inBlock]
       refine (ret1 (fn := Tryz.f61) Hz rfl rfl ?_)
       exact ⟨_, rfl, iff_of_false (by simp) (fun h => (h.2.2 k hk).2.2.2 (by rw [getI hes]; exact hcb.1 (by simp_all))), m76.below⟩
      ·
       clear Hz; intro hb78 Hz
       try simp only [Q1x, Q2x, Q3x, Q4x, Q5x, Q6x, Q7x, Q8x, Q9x, Q0x, Qax, Qbx] at hb78
       refine wp_cond_false (Hz.ev (x := .tmp 36) rfl) ?_
       refine wp_skip ?_
       refine hK2 _ _ ?_; clear hK2; try clear K2
       replace Hz : Has 46 [(0, _), (1, _), (2, _), (9, _), (10, _), (11, _), (12, _), (36, _)] Az := Hz.only [0, 1, 2, 9, 10, 11, 12, 36]
       refine wp_region_lit ?_
       refine goCh Hz (.add rfl rfl (r := ((k + 1 : Nat) : Int)) (by rw [IntWalk.i64_in _ (by omega)]; omega) <| .move rfl <| .nil) ?_
       clear Hz Az; intro Az Hz
       refine wpList_nil ?_
       show ∃ n', n' < _ ∧ _
       exact ⟨l.length - (k + 1), by omega, k + 1, by omega, rfl, itpre_snoc hall hes (by omega) (by omega) (fun h => by have h9 := hcb.2 h; simp_all), Hz.only [0, 1, 2, 9, 10, 11], m76.only [1]⟩
  ·
   clear Hz; intro hb7 Hz
   try simp only [Q1x, Q2x, Q3x, Q4x, Q5x, Q6x, Q7x, Q8x, Q9x, Q0x, Qax, Qbx] at hb7
   obtain rfl : k = l.length := by omega
   refine wp_cond_false (Hz.ev (x := .tmp 12) rfl) ?_
   refine wp_exit ?_
   refine hK0 _ _ ?_; clear hK0; try clear K0
   refine wp_seq_k (fun K7 hK7 => ?_)
   refine wp_region_lit ?_
   refine goCh Hz (.move rfl <| .len rfl Tryz.underlying48 <| .geq rfl rfl <| .move rfl <| .nil) ?_
   clear Hz Az; intro Az Hz
   refine bool_cases Hz (t := 41) rfl ?_ ?_
   ·
    clear Hz; intro hb92 Hz
    try simp only [Q1x, Q2x, Q3x, Q4x, Q5x, Q6x, Q7x, Q8x, Q9x, Q0x, Qax, Qbx] at hb92
    refine goCh Hz (.moveZ rfl <| .lenZ rfl Tryz.underlying48 <| .leqZ rfl rfl <| .pickT rfl rfl <| .assign rfl <| .nil) ?_
    clear Hz Az; intro Az Hz
    refine wpList_nil ?_
    refine hK7 _ _ ?_; clear hK7; try clear K7
    refine wp_ret ?_
    try dsimp only [Exit.then, Exit.inBlock]
    refine (ret1 (fn := Tryz.f61) Hz rfl rfl ?_)
    exact ⟨_, rfl, by unfold ItemsR; first | (simp; intros; first | exact hall | omega) | (refine iff_of_false (by simp) (fun h => ?_); omega) | (rw [decide_eq_true_eq]; exact ⟨fun h => ⟨by omega, by omega, hall⟩, fun h => by omega⟩), m5.below⟩
   ·
    clear Hz; intro hb92 Hz
    try simp only [Q1x, Q2x, Q3x, Q4x, Q5x, Q6x, Q7x, Q8x, Q9x, Q0x, Qax, Qbx] at hb92
    refine goCh Hz (.sk <| .sk <| .sk <| .pickF rfl rfl <| .assign rfl <| .nil) ?_
    clear Hz Az; intro Az Hz
    refine wpList_nil ?_
    refine hK7 _ _ ?_; clear hK7; try clear K7
    refine wp_ret ?_
    try dsimp only [Exit.then, Exit.inBlock]
    refine (ret1 (fn := Tryz.f61) Hz rfl rfl ?_)
    exact ⟨_, rfl, by unfold ItemsR; first | (simp; intros; first | exact hall | omega) | (refine iff_of_false (by simp) (fun h => ?_); omega) | (rw [decide_eq_true_eq]; exact ⟨fun h => ⟨by omega, by omega, hall⟩, fun h => by omega⟩), m5.below⟩
theorem vitems_any (bl sz : Int) (l : List (Int × List Int)) (p : Option Addr) (c : Nat) (w0 : World) (h0 : Rd (fun _ => True) w0 (.slice p l.length c) (.l 2 (l.map itD))) (hl : l.length ≤ 1000000) :
   Calls Tryz.prog 39 #[.int .i64 bl, .int .i64 sz, .slice p l.length c] w0 fun e w' => ∃ b : Bool, e = .returned (.bool b) ∧ (b = true ↔ ItemsR bl sz l) ∧ Below w0.heap.size w0 w' := by
 refine enter (fn := Tryz.f39) Tryz.func39 rfl Tryz.ntmps39 rfl (fun Az Hz => ?_)
 simp only [List.zipIdx_cons, List.zipIdx_nil, List.map_cons, List.map_nil, Nat.reduceAdd, Nat.zero_add] at Hz
 have m0 := MemOk.start (fun _ => False) w0
 refine regS Hz (.assign rfl <| .nil) ?_
 clear Hz Az; intro Az Hz
 refine wp_seq_k (fun K0 hK0 => ?_)
 refine wp_region_lit ?_
 refine goCh Hz (.move rfl <| .move rfl <| .move rfl <| .nil) ?_
 clear Hz Az; intro Az Hz
 refine wpList_plain rfl (fun K hK => ?_)
 refine e_call Hz Tryz.func61 rfl rfl rfl rfl (pitems_any bl sz l _ _ _ ((h0.now' m0 rfl).any) hl) ?_
 rintro e w8 ⟨b, rfl, hb9, hb8⟩
 have m9 := m0.later hb8
 clear m0
 clear hb8
 refine ⟨_, rfl, ?_⟩; clear Hz Az; intro Az Hz
 refine hK _ _ ?_; clear hK K
 refine goCh Hz (.assign rfl .nil) ?_
 clear Hz Az; intro Az Hz
 refine wpList_nil ?_
 refine hK0 _ _ ?_; clear hK0; try clear K0
 refine wp_ret ?_
 try dsimp only [Exit.then, Exit.inBlock]
 refine (ret1 (fn := Tryz.f39) Hz rfl rfl ?_)
 exact ⟨_, rfl, hb9, m9.below⟩
end Go.Proofs.YtocfbocdnklllaaGreat.K
