/- volume: within, Len, placeRight, New; the reference's Chunks. -/
import Derived.Test.YtkdnhndjjfjppaaG2
import Derived.Lib.AppendZerosOnto
namespace Go.Proofs.Ytkdnhndjjfjppaa.K
open Go.ChangeShapes Go.WideShapes Go.ChangeAt Go.RowKit
set_option linter.unusedVariables false
set_option linter.unusedSimpArgs false
theorem fl49nw : flatS Try.prog 49 [.int .i64 0, .int .i64 0, .int .i64 0, .int .i64 0, .slice none 0 0, .int .i64 0, .int .i64 0, .bool false, .int .i64 0, .slice none 0 0, .slice none 0 0] = true := by kernel_rfl
def PlaceOk (bl pe : Int) (place : List Int) : Prop := (∀ g ∈ place, 1 ≤ g ∧ g ≤ 7) ∧ (place.length : Int) = (bl + pe - 1) / pe
def NewOk (vo bl sz pe to : Int) (place : List Int) : Prop := 0 ≤ vo ∧ vo ≤ 7 ∧ 1 ≤ bl ∧ bl ≤ 256 ∧ 1 ≤ sz ∧ sz ≤ 32 ∧ 1 ≤ pe ∧ pe ≤ bl ∧ PlaceOk bl pe place ∧ 0 ≤ to ∧ to ≤ 1099511627776
theorem getD_mem {l : List Int} {k : Nat} (h : k < l.length) : l.getD k 0 ∈ l := by rw [List.getD, List.getElem?_eq_getElem h]; exact List.getElem_mem _
theorem all_snoc {l : List Int} {k : Nat} {P : Int → Prop} (h : ∀ j, j < k → P (l.getD j 0)) (hk : P (l.getD k 0)) : ∀ j, j < k + 1 → P (l.getD j 0) := fun j hj => by
 rcases Nat.lt_or_ge j k with h1 | h1
 · exact h j h1
 obtain rfl : j = k := by omega
 exact hk
theorem all_mem {l : List Int} {P : Int → Prop} (h : ∀ j, j < l.length → P (l.getD j 0)) : ∀ g ∈ l, P g := fun g hg => by
 obtain ⟨j, hj, rfl⟩ := List.getElem_of_mem hg
 have := h j hj
 rwa [List.getD, List.getElem?_eq_getElem hj] at this
set_option maxRecDepth 100000
set_option maxHeartbeats 4000000
theorem plainI_any (d : List Int) (p0 : Option Addr) (c0 : Nat) (w0 : World) (h0 : Rd (fun _ => True) w0 (.slice p0 d.length c0) (.ns .i64 d)) (hd : d.length ≤ 1000000) :
   Calls Try.prog 51 #[.slice p0 d.length c0] w0 fun e w' => ∃ p c, e = .returned (.slice p d.length c) ∧ Rd (New w0) w' (.slice p d.length c) (.ns .i64 d) ∧ Below w0.heap.size w0 w' := by
 refine ent1 Try.func51 rfl Try.ntmps51 fun Az Hz => ?_
 have m0 := MemOk.start (fun _ => False) w0
 refine regS Hz (.assign rfl <| .nil) ?_
 clear Hz Az; intro Az Hz
 refine zsr fun K0 hK0 => ?_
 refine goCh Hz (.move rfl .nil) ?_
 clear Hz Az; intro Az Hz
 refine wpList_plain rfl (fun K hK => ?_)
 refine e_app0N Hz m0 2 rfl rfl (h0.now' m0 rfl).ns_out.nums U26 fct3 (by decide) (by omega) rfl ?_
 clear Hz Az m0; intro p4 c4 Az w5 Hz m5
 refine hK _ _ ?_; clear hK
 refine goCh Hz (.assign rfl .nil) ?_
 clear Hz Az; intro Az Hz
 refine znl (hK0 _ _ ?_); clear hK0
 refine wp_ret ?_
 try dsimp only [Exit.then, Exit.inBlock]
 refine (ret1 (fn := Try.f51) Hz rfl rfl ?_)
 have m7 := m5.freezeN 2 rfl; clear m5
 exact ⟨_, _, rfl, m7.outF (i := 2) rfl, m7.below⟩
theorem within_any (n lo hi : Int) (w0 : World) :
   Calls Try.prog 49 #[.int .i64 n, .int .i64 lo, .int .i64 hi] w0 fun e w' => e = .returned (.bool (decide (lo ≤ n ∧ n ≤ hi))) ∧ Below w0.heap.size w0 w' := by
 refine ent3 Try.func49 rfl Try.ntmps49 fun Az Hz => ?_
 have m0 := MemOk.start (fun _ => False) w0
 refine regS Hz (.assign rfl <| .nil) ?_
 clear Hz Az; intro Az Hz
 refine zsr fun K0 hK0 => ?_
 refine goCh Hz (.move rfl <| .move rfl <| .geq rfl rfl <| .move rfl <| .nil) ?_
 clear Hz Az; intro Az Hz
 refine bool_cases Hz (t := 10) rfl ?_ ?_
 ·
  clear Hz; intro hb10 Hz; try simp only [QQ, Qax] at hb10
  refine goCh Hz (.moveZ rfl <| .moveZ rfl <| .leqZ rfl rfl <| .pickT rfl rfl <| .assign rfl <| .nil) ?_
  clear Hz Az; intro Az Hz
  refine znl (hK0 _ _ ?_); clear hK0
  refine wp_ret ?_
  try dsimp only [Exit.then, Exit.inBlock]
  refine (ret1 (fn := Try.f49) Hz rfl rfl ?_)
  exact ⟨by first | rfl | (simp_all; done) | (simp_all; omega), m0.below⟩
 clear Hz; intro hb10 Hz; try simp only [QQ, Qax] at hb10
 refine goCh Hz (.sk <| .sk <| .sk <| .pickF rfl rfl <| .assign rfl <| .nil) ?_
 clear Hz Az; intro Az Hz
 refine znl (hK0 _ _ ?_); clear hK0
 refine wp_ret ?_
 try dsimp only [Exit.then, Exit.inBlock]
 refine (ret1 (fn := Try.f49) Hz rfl rfl ?_)
 exact ⟨by first | rfl | (simp_all; done) | (simp_all; omega), m0.below⟩
theorem chunks_any (a b : Int) (w0 : World) (ha : 0 ≤ a ∧ a ≤ 1000000) (hb : 1 ≤ b ∧ b ≤ 1000000) :
   Calls Try.prog 29 #[.int .i64 a, .int .i64 b] w0 fun e w' => e = .returned (.int .i64 ((a + b - 1) / b)) ∧ Below w0.heap.size w0 w' := by
 refine ent2 Try.func29 rfl Try.ntmps29 fun Az Hz => ?_
 have m0 := MemOk.start (fun _ => False) w0
 refine regS Hz (.assign rfl <| .nil) ?_
 clear Hz Az; intro Az Hz
 refine regS Hz (.move rfl <| .move rfl <| .add rfl rfl (r := a + b) (IntWalk.i64_in _ (by omega)) <| .sub rfl rfl (r := a + b - 1) (IntWalk.i64_in _ (by omega)) <| .move rfl <| .quo rfl rfl (by omega) (r := (a + b - 1) / b) (by rw [Int.tdiv_eq_ediv_of_nonneg (by omega)]; exact IntWalk.i64_in _ (by have := Int.ediv_le_self b (show 0 ≤ a + b - 1 by omega); have := Int.ediv_nonneg (show 0 ≤ a + b - 1 by omega) (show 0 ≤ b by omega); omega)) <| .assign rfl <| .nil) ?_
 clear Hz Az; intro Az Hz
 refine wp_ret ?_
 try dsimp only [Exit.then, Exit.inBlock]
 refine (ret1 (fn := Try.f29) Hz rfl rfl ?_)
 exact ⟨rfl, m0.below⟩
theorem place_any (kd vo bl sz pe to at0 ix : Int) (place : List Int) (pp pi : Option Addr) (cp ni ci : Nat) (w0 : World) (h0 : Rd (fun _ => True) w0 (.slice pp place.length cp) (.ns .i64 place)) (hn : place.length ≤ 1000000) (hb : 1 ≤ bl ∧ bl ≤ 256) (hp : 1 ≤ pe ∧ pe ≤ 256) :
   Calls Try.prog 50 #[.agg #[.int .i64 kd, .int .i64 vo, .int .i64 bl, .int .i64 sz, .int .i64 pe, .slice pp place.length cp, .int .i64 to, .int .i64 at0, .int .i64 ix, .slice pi ni ci]] w0 fun e w' => ∃ b : Bool, e = .returned (.bool b) ∧ (b = true ↔ PlaceOk bl pe place) ∧ Below w0.heap.size w0 w' := by
 refine ent1 Try.func50 rfl Try.ntmps50 fun Az Hz => ?_
 have m0 := MemOk.start (fun _ => False) w0
 refine zsr fun K0 hK0 => ?_
 refine wpList_plain rfl (fun K hK => ?_)
 refine e_box Hz m0 20 (cs := [_, _, _, _, _, _, _, _, _, _]) rfl rfl rfl ?_
 clear Hz Az m0; intro g1 Az w2 Hz m2 hB2 hg2
 clear hB2 hg2
 refine hK _ _ ?_; clear hK
 refine goCh Hz (.assign rfl .nil) ?_
 clear Hz Az; intro Az Hz
 refine znl (hK0 _ _ ?_); clear hK0
 refine wp_seq_k (fun K1 hK1 => ?_)
 refine regS Hz (.fa 5 rfl U57 <| .lb m2 20 U26 rfl rfl rfl <| .len rfl U26 <| .move rfl <| .nil) ?_
 clear Hz Az; intro Az Hz
 refine wp_block ?_
 refine wp_loop_ghost (fun g a w => ∃ (k B : Nat), k ≤ place.length ∧ g = place.length - k ∧ (∀ j, j < k → 1 ≤ place.getD j 0 ∧ place.getD j 0 ≤ 7) ∧ Has 29 [(1, .pointer (some ⟨B, 0, none⟩)), (6, .slice pp place.length cp), (7, .int .i64 place.length), (8, .int .i64 k)] a ∧ MemOk (cn w0) w0 [(9, .box B 57 [.int .i64 kd, .int .i64 vo, .int .i64 bl, .int .i64 sz, .int .i64 pe, .slice pp place.length cp, .int .i64 to, .int .i64 at0, .int .i64 ix, .slice pi ni ci])] w) (place.length) ?_ ?_
 · exact ⟨0, _, Nat.zero_le _, rfl, (fun j hj => by omega), Hz.only [1, 6, 7, 8], m2.ren [(9, 20)] (by decide)⟩
 clear Hz m2
 rintro g Az w8 ⟨k, B, hkl, hg, hall, Hz, m8⟩
 refine regS Hz (.lss rfl rfl <| .nil) ?_
 clear Hz Az; intro Az Hz
 refine wp_seq_k (fun K2 hK2 => ?_)
 refine bool_cases Hz (t := 9) rfl ?_ ?_
 ·
  clear Hz; intro hb10 Hz; try simp only [QQ, Qax] at hb10
  have hk : k < place.length := by omega
  refine wp_cond_true (Hz.ev (x := .tmp 9) rfl) ?_
  refine zss (hK2 _ _ ?_); clear hK2
  refine wp_seq_k (fun K3 hK3 => ?_)
  refine wp_block ?_
  refine zsr fun K4 hK4 => ?_
  obtain ⟨gx12, ox12, hp12, hl12, hrg12⟩ := h0.extN (k) hk
  cases hp12; clear hl12
  refine goCh Hz (.c rfl (fun _ h => y_idx h rfl rfl U26 fct0 (k) rfl hk) <| .loadAt1 (hrg12 m8 rfl) (q := 0) rfl rfl rfl U3 rfl <| .assign rfl <| .nil) ?_
  clear Hz Az; intro Az Hz
  refine znl (hK4 _ _ ?_); clear hK4
  refine zsr fun K5 hK5 => ?_
  refine goCh Hz (.move rfl .nil) ?_
  clear Hz Az; intro Az Hz
  refine wpList_plain rfl (fun K hK => ?_)
  refine e_call Hz Try.func49 rfl rfl rfl rfl (within_any _ _ _ _) ?_
  rintro e w18 ⟨rfl, hb18⟩
  have m19 := m8.later hb18
  clear m8
  clear hb18
  refine ⟨_, rfl, ?_⟩; clear Hz Az; intro Az Hz
  refine hK _ _ ?_; clear hK
  refine goCh Hz (.not rfl .nil) ?_
  clear Hz Az; intro Az Hz
  refine znl (hK5 _ _ ?_); clear hK5
  refine bool_cases Hz (t := 14) rfl ?_ ?_
  ·
   clear Hz; intro hb22 Hz; try simp only [QQ, Qax] at hb22
   refine wp_cond_true (Hz.ev (x := .tmp 14) rfl) ?_
   replace Hz : Has 29 [(1, _), (6, _), (7, _), (8, _)] Az := Hz.only [1, 6, 7, 8]
   refine regS Hz (.assign rfl <| .nil) ?_
   clear Hz Az; intro Az Hz
   refine wp_ret ?_
   try dsimp only [Exit.then, Exit.inBlock]
   refine (ret1 (fn := Try.f50) Hz rfl rfl ?_)
   exact ⟨false, rfl, iff_of_false (by simp) (fun h => by have h9 := h.1 _ (getD_mem hk); omega), m19.below⟩
  clear Hz; intro hb22 Hz; try simp only [QQ, Qax] at hb22
  refine wp_cond_false (Hz.ev (x := .tmp 14) rfl) ?_
  refine zss (hK3 _ _ ?_); clear hK3
  replace Hz : Has 29 [(1, _), (6, _), (7, _), (8, _)] Az := Hz.only [1, 6, 7, 8]
  refine wp_region_lit ?_
  refine goCh Hz (.add rfl rfl (r := ((k + 1 : Nat) : Int)) (by rw [IntWalk.i64_in _ (by omega)]; omega) <| .move rfl <| .nil) ?_
  clear Hz Az; intro Az Hz
  refine wpList_nil ?_
  show ∃ n', n' < _ ∧ _
  exact ⟨place.length - (k + 1), by omega, k + 1, _, by omega, rfl, (all_snoc (P := fun x => 1 ≤ x ∧ x ≤ 7) hall (by omega)), Hz.only [1, 6, 7, 8], m19.only [9]⟩
 clear Hz; intro hb10 Hz; try simp only [QQ, Qax] at hb10
 obtain rfl : k = place.length := by omega
 refine wp_cond_false (Hz.ev (x := .tmp 9) rfl) ?_
 refine wp_exit ?_
 refine hK1 _ _ ?_; clear hK1
 refine wp_seq_k (fun K6 hK6 => ?_)
 have m28 : MemOk _ _ [(9, _)] _ := m8.only [9]; clear m8
 refine region_p 14 (B := [(9, _)]) (m28.to ⟨il, trivial⟩) m28 (by kernel_rfl) (fun w29 hP29 m29 => ?_); clear m28
 refine goR hP29 [0, 1, 2, 3, 4, 5, 6, 7, 8, 9, 10, 11, 12, 13] [1, 4, 6, 10] 14 0 16383 Hz (m29.to ⟨il, trivial⟩) (.fa 5 rfl U57 <| .lb hh 9 U26 rfl rfl rfl <| .len rfl U26 <| .fa 2 rfl U57 <| .lb hh 9 U3 rfl rfl rfl <| .fa 4 rfl U57 <| .lb hh 9 U3 rfl rfl rfl <| .add rfl rfl (r := bl + pe) (IntWalk.i64_in _ (by omega)) <| .sub rfl rfl (r := bl + pe - 1) (IntWalk.i64_in _ (by omega)) <| .fa 4 rfl U57 <| .lb hh 9 U3 rfl rfl rfl <| .quo rfl rfl (by omega) (r := (bl + pe - 1) / pe) (by rw [Int.tdiv_eq_ediv_of_nonneg (by omega)]; exact IntWalk.i64_in _ (by have := Int.ediv_le_self pe (show 0 ≤ bl + pe - 1 by omega); have := Int.ediv_nonneg (show 0 ≤ bl + pe - 1 by omega) (show 0 ≤ pe by omega); omega)) <| .eql rfl rfl <| .assign rfl <| .nil) ?_
 clear Hz Az; intro Az Hz
 refine wpAnyE_done (by kernel_rfl) ?_ _
 refine hK6 _ _ ?_; clear hK6
 refine wp_ret ?_
 try dsimp only [Exit.then, Exit.inBlock]
 refine (ret1 (fn := Try.f50) Hz rfl rfl ?_)
 exact ⟨_, rfl, by rw [decide_eq_true_eq]; exact ⟨fun h => ⟨fun g hg9 => all_mem (P := fun x => 1 ≤ x ∧ x ≤ 7) hall g hg9, h⟩, fun h => h.2⟩, m29.below⟩
theorem vnew_any (kd vo bl sz pe to at0 ix : Int) (place : List Int) (pp pi : Option Addr) (cp ni ci : Nat) (w0 : World) (h0 : Rd (fun _ => True) w0 (.slice pp place.length cp) (.ns .i64 place)) (hn : place.length ≤ 1000000) :
   Calls Try.prog 26 #[.agg #[.int .i64 kd, .int .i64 vo, .int .i64 bl, .int .i64 sz, .int .i64 pe, .slice pp place.length cp, .int .i64 to, .int .i64 at0, .int .i64 ix, .slice pi ni ci]] w0 fun e w' => (NewOk vo bl sz pe to place ∧ ∃ p c, e = .returned (.tuple #[.agg #[.int .i64 vo, .int .i64 bl, .int .i64 sz, .int .i64 pe, .slice p place.length c, .int .i64 to, .int .i64 0, .bool (decide (0 < to)), .int .i64 0, .slice none 0 0, .slice none 0 0], .int .i64 0]) ∧ Rd (New w0) w' (.slice p place.length c) (.ns .i64 place) ∧ Below w0.heap.size w0 w') ∨ (¬ NewOk vo bl sz pe to place ∧ e = .returned (.tuple #[.agg #[.int .i64 0, .int .i64 0, .int .i64 0, .int .i64 0, .slice none 0 0, .int .i64 0, .int .i64 0, .bool false, .int .i64 0, .slice none 0 0, .slice none 0 0], .int .i64 23]) ∧ Below w0.heap.size w0 w') := by
 refine ent1 Try.func26 rfl Try.ntmps26 fun Az Hz => ?_
 have m0 := MemOk.start (fun _ => False) w0
 refine zsr fun K0 hK0 => ?_
 refine wpList_plain rfl (fun K hK => ?_)
 refine e_box Hz m0 20 (cs := [_, _, _, _, _, _, _, _, _, _]) rfl rfl rfl ?_
 clear Hz Az m0; intro g1 Az w2 Hz m2 hB2 hg2
 clear hB2 hg2
 refine hK _ _ ?_; clear hK
 refine wpList_plain rfl (fun K hK => ?_)
 refine e_alloc Hz m2 21 fct6 rfl ?_
 clear Hz Az m2; intro g3 Az w4 Hz m4 hB4 hg4
 clear hB4 hg4
 refine hK _ _ ?_; clear hK
 refine goCh Hz (.assign rfl .nil) ?_
 clear Hz Az; intro Az Hz
 refine znl (hK0 _ _ ?_); clear hK0
 refine zsr fun K1 hK1 => ?_
 refine goCh Hz (.fa 1 rfl U57 <| .lb m4 20 U3 rfl rfl rfl <| .nil) ?_
 clear Hz Az; intro Az Hz
 refine wpList_plain rfl (fun K hK => ?_)
 refine e_call Hz Try.func49 rfl rfl rfl rfl (within_any _ _ _ _) ?_
 rintro e w10 ⟨rfl, hb10⟩
 have m11 := m4.later hb10
 clear m4
 clear hb10
 refine ⟨_, rfl, ?_⟩; clear Hz Az; intro Az Hz
 refine hK _ _ ?_; clear hK
 refine goCh Hz (.move rfl .nil) ?_
 clear Hz Az; intro Az Hz
 refine bool_cases Hz (t := 8) rfl ?_ ?_
 ·
  clear Hz; intro hb14 Hz; try simp only [QQ, Qax] at hb14
  refine goCh Hz (.faZ 2 rfl U57 <| .loadB1Z m11 (i := 20) rfl rfl rfl U3 rfl <| .nil) ?_
  clear Hz Az; intro Az Hz
  refine st_ge Hz rfl rfl rfl rfl (fun K hK => ?_)
  refine e_call Hz Try.func49 rfl rfl rfl rfl (within_any _ _ _ _) ?_
  rintro e w17 ⟨rfl, hb17⟩
  have m18 := m11.later hb17
  clear m11
  clear hb17
  refine ⟨_, rfl, ?_⟩; clear Hz Az; intro Az Hz
  refine hK _ _ ?_; clear hK
  refine goCh Hz (.pickT rfl rfl <| .move rfl <| .nil) ?_
  clear Hz Az; intro Az Hz
  refine bool_cases Hz (t := 13) rfl ?_ ?_
  ·
   clear Hz; intro hb22 Hz; try simp only [QQ, Qax] at hb22
   refine goCh Hz (.faZ 3 rfl U57 <| .loadB1Z m18 (i := 20) rfl rfl rfl U3 rfl <| .nil) ?_
   clear Hz Az; intro Az Hz
   refine st_ge Hz rfl rfl rfl rfl (fun K hK => ?_)
   refine e_call Hz Try.func49 rfl rfl rfl rfl (within_any _ _ _ _) ?_
   rintro e w25 ⟨rfl, hb25⟩
   have m26 := m18.later hb25
   clear m18
   clear hb25
   refine ⟨_, rfl, ?_⟩; clear Hz Az; intro Az Hz
   refine hK _ _ ?_; clear hK
   refine goCh Hz (.pickT rfl rfl <| .assign rfl <| .nil) ?_
   clear Hz Az; intro Az Hz
   refine znl (hK1 _ _ ?_); clear hK1
   refine wp_seq_k (fun K2 hK2 => ?_)
   replace Hz : Has 57 [(1, _), (2, _), (3, _), (4, _)] Az := Hz.only [1, 2, 3, 4]
   refine zsr fun K3 hK3 => ?_
   refine goCh Hz (.move rfl <| .not rfl <| .move rfl <| .nil) ?_
   clear Hz Az; intro Az Hz
   refine bool_cases Hz (t := 20) rfl ?_ ?_
   ·
    clear Hz; intro hb37 Hz; try simp only [QQ, Qax] at hb37
    refine goCh Hz (.sk <| .sk <| .sk <| .sk <| .sk <| .sk <| .pickT rfl rfl <| .move rfl <| .sk <| .sk <| .sk <| .pickT rfl rfl <| .move rfl <| .sk <| .sk <| .sk <| .sk <| .pickT rfl rfl <| .nil) ?_
    clear Hz Az; intro Az Hz
    refine znl (hK3 _ _ ?_); clear hK3
    refine wp_cond_true (Hz.ev (x := .tmp 38) rfl) ?_
    replace Hz : Has 57 [(1, _), (2, _), (3, _)] Az := Hz.only [1, 2, 3]
    refine zsr fun K4 hK4 => ?_
    refine goCh Hz (.build rfl fct6 fl49nw rfl (by dsimp only [setL, List.set] <;> rfl) .nil) ?_
    clear Hz Az; intro Az Hz
    refine wpList_plain rfl (fun K hK => ?_)
    refine e_storeW Hz m26 21 rfl rfl rfl rfl rfl fct5 ?_
    clear m26; intro w59 m59 hB59
    clear hB59
    refine hK _ _ ?_; clear hK
    refine goCh Hz (.assign rfl .nil) ?_
    clear Hz Az; intro Az Hz
    refine znl (hK4 _ _ ?_); clear hK4
    refine wp_ret ?_
    try dsimp only [Exit.then, Exit.inBlock]
    refine (retCT (fn := Try.f26) Hz m59 (i := 21) rfl rfl rfl rfl U49 rfl fct5 ?_)
    exact .inr ⟨fun h => by unfold NewOk at h; obtain ⟨h1, h2, h3, h4, h5, h6, h7, h8, h9, h10, h11⟩ := h; first | omega | (have h12 := hpb.2 h9; simp_all), rfl, m59.below⟩
   clear Hz; intro hb37 Hz; try simp only [QQ, Qax] at hb37
   refine goCh Hz (.faZ 4 rfl U57 <| .loadB1Z m26 (i := 20) rfl rfl rfl U3 rfl <| .faZ 2 rfl U57 <| .loadB1Z m26 (i := 20) rfl rfl rfl U3 rfl <| .nil) ?_
   clear Hz Az; intro Az Hz
   refine st_ge Hz rfl rfl rfl rfl (fun K hK => ?_)
   refine e_call Hz Try.func49 rfl rfl rfl rfl (within_any _ _ _ _) ?_
   rintro e w65 ⟨rfl, hb65⟩
   have m66 := m26.later hb65
   clear m26
   clear hb65
   refine ⟨_, rfl, ?_⟩; clear Hz Az; intro Az Hz
   refine hK _ _ ?_; clear hK
   refine goCh Hz (.notZ rfl <| .pickF rfl rfl <| .move rfl <| .nil) ?_
   clear Hz Az; intro Az Hz
   refine bool_cases Hz (t := 28) rfl ?_ ?_
   ·
    clear Hz; intro hb71 Hz; try simp only [QQ, Qax] at hb71
    refine goCh Hz (.sk <| .sk <| .sk <| .pickT rfl rfl <| .move rfl <| .sk <| .sk <| .sk <| .sk <| .pickT rfl rfl <| .nil) ?_
    clear Hz Az; intro Az Hz
    refine znl (hK3 _ _ ?_); clear hK3
    refine wp_cond_true (Hz.ev (x := .tmp 38) rfl) ?_
    replace Hz : Has 57 [(1, _), (2, _), (3, _)] Az := Hz.only [1, 2, 3]
    refine zsr fun K5 hK5 => ?_
    refine goCh Hz (.build rfl fct6 fl49nw rfl (by dsimp only [setL, List.set] <;> rfl) .nil) ?_
    clear Hz Az; intro Az Hz
    refine wpList_plain rfl (fun K hK => ?_)
    refine e_storeW Hz m66 21 rfl rfl rfl rfl rfl fct5 ?_
    clear m66; intro w85 m85 hB85
    clear hB85
    refine hK _ _ ?_; clear hK
    refine goCh Hz (.assign rfl .nil) ?_
    clear Hz Az; intro Az Hz
    refine znl (hK5 _ _ ?_); clear hK5
    refine wp_ret ?_
    try dsimp only [Exit.then, Exit.inBlock]
    refine (retCT (fn := Try.f26) Hz m85 (i := 21) rfl rfl rfl rfl U49 rfl fct5 ?_)
    exact .inr ⟨fun h => by unfold NewOk at h; obtain ⟨h1, h2, h3, h4, h5, h6, h7, h8, h9, h10, h11⟩ := h; first | omega | (have h12 := hpb.2 h9; simp_all), rfl, m85.below⟩
   clear Hz; intro hb71 Hz; try simp only [QQ, Qax] at hb71
   refine goCh Hz (.loadBRZ m66 (i := 20) rfl rfl U57 rfl fct1 (by simp) (by dsimp only [List.drop, List.take] <;> rfl) .nil) ?_
   clear Hz Az; intro Az Hz
   refine st_ge Hz rfl rfl rfl rfl (fun K hK => ?_)
   refine e_call Hz Try.func50 rfl rfl rfl rfl (place_any _ _ _ _ _ _ _ _ _ _ _ _ _ _ _ (h0.now' m66 rfl).any hn (by omega) (by omega)) ?_
   rintro e w88 ⟨pb, rfl, hpb, hb88⟩
   have m89 := m66.later hb88
   clear m66
   clear hb88
   refine ⟨_, rfl, ?_⟩; clear Hz Az; intro Az Hz
   refine hK _ _ ?_; clear hK
   refine goCh Hz (.notZ rfl <| .pickF rfl rfl <| .move rfl <| .nil) ?_
   clear Hz Az; intro Az Hz
   refine bool_cases Hz (t := 33) rfl ?_ ?_
   ·
    clear Hz; intro hb94 Hz; try simp only [QQ, Qax] at hb94
    refine goCh Hz (.sk <| .sk <| .sk <| .sk <| .pickT rfl rfl <| .nil) ?_
    clear Hz Az; intro Az Hz
    refine znl (hK3 _ _ ?_); clear hK3
    refine wp_cond_true (Hz.ev (x := .tmp 38) rfl) ?_
    replace Hz : Has 57 [(1, _), (2, _), (3, _)] Az := Hz.only [1, 2, 3]
    refine zsr fun K6 hK6 => ?_
    refine goCh Hz (.build rfl fct6 fl49nw rfl (by dsimp only [setL, List.set] <;> rfl) .nil) ?_
    clear Hz Az; intro Az Hz
    refine wpList_plain rfl (fun K hK => ?_)
    refine e_storeW Hz m89 21 rfl rfl rfl rfl rfl fct5 ?_
    clear m89; intro w103 m103 hB103
    clear hB103
    refine hK _ _ ?_; clear hK
    refine goCh Hz (.assign rfl .nil) ?_
    clear Hz Az; intro Az Hz
    refine znl (hK6 _ _ ?_); clear hK6
    refine wp_ret ?_
    try dsimp only [Exit.then, Exit.inBlock]
    refine (retCT (fn := Try.f26) Hz m103 (i := 21) rfl rfl rfl rfl U49 rfl fct5 ?_)
    exact .inr ⟨fun h => by unfold NewOk at h; obtain ⟨h1, h2, h3, h4, h5, h6, h7, h8, h9, h10, h11⟩ := h; first | omega | (have h12 := hpb.2 h9; simp_all), rfl, m103.below⟩
   clear Hz; intro hb94 Hz; try simp only [QQ, Qax] at hb94
   refine goCh Hz (.faZ 6 rfl U57 <| .loadB1Z m89 (i := 20) rfl rfl rfl U3 rfl <| .nil) ?_
   clear Hz Az; intro Az Hz
   refine st_ge Hz rfl rfl rfl rfl (fun K hK => ?_)
   refine e_call Hz Try.func49 rfl rfl rfl rfl (within_any _ _ _ _) ?_
   rintro e w107 ⟨rfl, hb107⟩
   have m108 := m89.later hb107
   clear m89
   clear hb107
   refine ⟨_, rfl, ?_⟩; clear Hz Az; intro Az Hz
   refine hK _ _ ?_; clear hK
   refine goCh Hz (.notZ rfl <| .pickF rfl rfl <| .nil) ?_
   clear Hz Az; intro Az Hz
   refine znl (hK3 _ _ ?_); clear hK3
   refine bool_cases Hz (t := 38) rfl ?_ ?_
   ·
    clear Hz; intro hb112 Hz; try simp only [QQ, Qax] at hb112
    refine wp_cond_true (Hz.ev (x := .tmp 38) rfl) ?_
    replace Hz : Has 57 [(1, _), (2, _), (3, _)] Az := Hz.only [1, 2, 3]
    refine zsr fun K7 hK7 => ?_
    refine goCh Hz (.build rfl fct6 fl49nw rfl (by dsimp only [setL, List.set] <;> rfl) .nil) ?_
    clear Hz Az; intro Az Hz
    refine wpList_plain rfl (fun K hK => ?_)
    refine e_storeW Hz m108 21 rfl rfl rfl rfl rfl fct5 ?_
    clear m108; intro w116 m116 hB116
    clear hB116
    refine hK _ _ ?_; clear hK
    refine goCh Hz (.assign rfl .nil) ?_
    clear Hz Az; intro Az Hz
    refine znl (hK7 _ _ ?_); clear hK7
    refine wp_ret ?_
    try dsimp only [Exit.then, Exit.inBlock]
    refine (retCT (fn := Try.f26) Hz m116 (i := 21) rfl rfl rfl rfl U49 rfl fct5 ?_)
    exact .inr ⟨fun h => by unfold NewOk at h; obtain ⟨h1, h2, h3, h4, h5, h6, h7, h8, h9, h10, h11⟩ := h; first | omega | (have h12 := hpb.2 h9; simp_all), rfl, m116.below⟩
   clear Hz; intro hb112 Hz; try simp only [QQ, Qax] at hb112
   refine wp_cond_false (Hz.ev (x := .tmp 38) rfl) ?_
   refine zss (hK2 _ _ ?_); clear hK2
   refine wp_seq_k (fun K8 hK8 => ?_)
   replace Hz : Has 57 [(1, _), (2, _), (3, _)] Az := Hz.only [1, 2, 3]
   have m119 : MemOk _ _ [(20, _), (21, _)] _ := m108.only [20, 21]; clear m108
   refine region_p 19 (B := [(20, _)]) (m119.to ⟨il, trivial⟩) m119 (by kernel_rfl) (fun w120 hP120 m120 => ?_); clear m119
   refine goR hP120 [0, 1, 2, 3, 4, 5, 6, 7, 8, 9, 11, 12, 13, 14, 15] [1, 3, 5, 7, 9, 12, 14] 15 0 64511 Hz (m120.to ⟨il, trivial⟩) (.fa 1 rfl U57 <| .lb hh 20 U3 rfl rfl rfl <| .fa 2 rfl U57 <| .lb hh 20 U3 rfl rfl rfl <| .fa 3 rfl U57 <| .lb hh 20 U3 rfl rfl rfl <| .fa 4 rfl U57 <| .lb hh 20 U3 rfl rfl rfl <| .fa 5 rfl U57 <| .lb hh 20 U26 rfl rfl rfl <| .fa 6 rfl U57 <| .lb hh 20 U3 rfl rfl rfl <| .fa 6 rfl U57 <| .lb hh 20 U3 rfl rfl rfl <| .gtr rfl rfl <| .nil) ?_
   clear Hz Az; intro Az Hz
   refine stepE_only 10 rfl (by kernel_rfl) rfl (fun K hK => ?_)
   refine e_call Hz Try.func51 rfl rfl rfl rfl (plainI_any place _ _ _ ((h0.now' m120 rfl).any) hn) ?_
   rintro e w136 ⟨p136, c136, rfl, hd136, hb136⟩
   have m137 := m120.callF 22 rfl hb136 hd136
   clear m120
   clear hb136 hd136
   refine ⟨_, rfl, ?_⟩; clear Hz Az; intro Az Hz
   refine hK _ _ (m137.to ⟨il, trivial⟩) ?_; clear hK K
   refine goA hP120 [16] 1 65535 131071 Hz (m137.to ⟨il, trivial⟩) (.build rfl fct6 fl49nw rfl (by dsimp only [setL, List.set] <;> rfl) <| .nil) ?_
   clear Hz Az; intro Az Hz
   refine stepE_only 17 rfl (by kernel_rfl) rfl (fun K hK => ?_)
   refine e_storeW Hz m137 21 rfl rfl rfl rfl rfl fct5 ?_
   clear m137; intro w140 m140 hB140
   clear hB140
   refine hK _ _ (m140.to ⟨il, trivial⟩) ?_; clear hK K
   refine goA hP120 [18] 1 262143 524287 Hz (m140.to ⟨il, trivial⟩) (.assign rfl <| .nil) ?_
   clear Hz Az; intro Az Hz
   refine wpAnyE_done (by kernel_rfl) ?_ _
   refine hK8 _ _ ?_; clear hK8
   refine wp_ret ?_
   try dsimp only [Exit.then, Exit.inBlock]
   refine (retCT (fn := Try.f26) Hz m140 (i := 21) rfl rfl rfl rfl U49 rfl fct5 ?_)
   exact .inl ⟨by unfold NewOk; refine ⟨by omega, by omega, by omega, by omega, by omega, by omega, by omega, by omega, hpb.1 (by simp_all), by omega, by omega⟩, _, _, rfl, m140.outF (i := 22) rfl, m140.below⟩
  clear Hz; intro hb22 Hz; try simp only [QQ, Qax] at hb22
  refine goCh Hz (.sk <| .sk <| .sk <| .pickF rfl rfl <| .assign rfl <| .nil) ?_
  clear Hz Az; intro Az Hz
  refine znl (hK1 _ _ ?_); clear hK1
  refine wp_seq_k (fun K9 hK9 => ?_)
  replace Hz : Has 57 [(1, _), (2, _), (3, _), (4, _)] Az := Hz.only [1, 2, 3, 4]
  refine regS Hz (.move rfl <| .not rfl <| .move rfl <| .sk <| .sk <| .sk <| .sk <| .sk <| .sk <| .pickT rfl rfl <| .move rfl <| .sk <| .sk <| .sk <| .pickT rfl rfl <| .move rfl <| .sk <| .sk <| .sk <| .sk <| .pickT rfl rfl <| .nil) ?_
  clear Hz Az; intro Az Hz
  refine wp_cond_true (Hz.ev (x := .tmp 38) rfl) ?_
  replace Hz : Has 57 [(1, _), (2, _), (3, _)] Az := Hz.only [1, 2, 3]
  refine zsr fun K10 hK10 => ?_
  refine goCh Hz (.build rfl fct6 fl49nw rfl (by dsimp only [setL, List.set] <;> rfl) .nil) ?_
  clear Hz Az; intro Az Hz
  refine wpList_plain rfl (fun K hK => ?_)
  refine e_storeW Hz m18 21 rfl rfl rfl rfl rfl fct5 ?_
  clear m18; intro w172 m172 hB172
  clear hB172
  refine hK _ _ ?_; clear hK
  refine goCh Hz (.assign rfl .nil) ?_
  clear Hz Az; intro Az Hz
  refine znl (hK10 _ _ ?_); clear hK10
  refine wp_ret ?_
  try dsimp only [Exit.then, Exit.inBlock]
  refine (retCT (fn := Try.f26) Hz m172 (i := 21) rfl rfl rfl rfl U49 rfl fct5 ?_)
  exact .inr ⟨fun h => by unfold NewOk at h; obtain ⟨h1, h2, h3, h4, h5, h6, h7, h8, h9, h10, h11⟩ := h; first | omega | (have h12 := hpb.2 h9; simp_all), rfl, m172.below⟩
 clear Hz; intro hb14 Hz; try simp only [QQ, Qax] at hb14
 refine goCh Hz (.sk <| .sk <| .sk <| .pickF rfl rfl <| .move rfl <| .sk <| .sk <| .sk <| .pickF rfl rfl <| .assign rfl <| .nil) ?_
 clear Hz Az; intro Az Hz
 refine znl (hK1 _ _ ?_); clear hK1
 refine wp_seq_k (fun K11 hK11 => ?_)
 replace Hz : Has 57 [(1, _), (2, _), (3, _), (4, _)] Az := Hz.only [1, 2, 3, 4]
 refine regS Hz (.move rfl <| .not rfl <| .move rfl <| .sk <| .sk <| .sk <| .sk <| .sk <| .sk <| .pickT rfl rfl <| .move rfl <| .sk <| .sk <| .sk <| .pickT rfl rfl <| .move rfl <| .sk <| .sk <| .sk <| .sk <| .pickT rfl rfl <| .nil) ?_
 clear Hz Az; intro Az Hz
 refine wp_cond_true (Hz.ev (x := .tmp 38) rfl) ?_
 replace Hz : Has 57 [(1, _), (2, _), (3, _)] Az := Hz.only [1, 2, 3]
 refine zsr fun K12 hK12 => ?_
 refine goCh Hz (.build rfl fct6 fl49nw rfl (by dsimp only [setL, List.set] <;> rfl) .nil) ?_
 clear Hz Az; intro Az Hz
 refine wpList_plain rfl (fun K hK => ?_)
 refine e_storeW Hz m11 21 rfl rfl rfl rfl rfl fct5 ?_
 clear m11; intro w209 m209 hB209
 clear hB209
 refine hK _ _ ?_; clear hK
 refine goCh Hz (.assign rfl .nil) ?_
 clear Hz Az; intro Az Hz
 refine znl (hK12 _ _ ?_); clear hK12
 refine wp_ret ?_
 try dsimp only [Exit.then, Exit.inBlock]
 refine (retCT (fn := Try.f26) Hz m209 (i := 21) rfl rfl rfl rfl U49 rfl fct5 ?_)
 exact .inr ⟨fun h => by unfold NewOk at h; obtain ⟨h1, h2, h3, h4, h5, h6, h7, h8, h9, h10, h11⟩ := h; first | omega | (have h12 := hpb.2 h9; simp_all), rfl, m209.below⟩
end Go.Proofs.Ytkdnhndjjfjppaa.K
