/- VolumeImports' walk. -/
import Derived.Test.YtocfbocdnklllaaVol12
namespace Go.Proofs.Ytocfbocdnklllaa.K
open Go.ChangeShapes Go.WideShapes Go.ChangeAt Go.RowKit
set_option linter.unusedVariables false
set_option linter.unusedSimpArgs false

theorem fl25vi : flatS Try.prog 25 [.int .i64 0, .int .i64 0, .int .i64 0, .int .i64 0, .int .i64 0, .slice none 0 0, .int .i64 0, .int .i64 0, .int .i64 0, .slice none 0 0] = true := by kernel_rfl
theorem inf5vi : (Try.prog.info? 5).map (fun i => (i.zero, i.size, i.bytes)) = some (some (.int .u8 0), 1, 1) := by kernel_rfl
theorem sz5vi : (Try.prog.info? 5).map (·.size) = some 1 := by kernel_rfl
theorem sz25vi : (Try.prog.info? 25).map (·.size) = some 10 := by kernel_rfl
theorem sz34vi : (Try.prog.info? 34).map (·.size) = some 11 := by kernel_rfl
theorem sz45vi : (Try.prog.info? 45).map (·.size) = some 5 := by kernel_rfl
theorem zc25vi : ((Try.prog.info? 25).bind (·.zero)).map (·.cells.toList) = some [.int .i64 0, .int .i64 0, .int .i64 0, .int .i64 0, .int .i64 0, .slice none 0 0, .int .i64 0, .int .i64 0, .int .i64 0, .slice none 0 0] := by kernel_rfl
theorem zc34vi : ((Try.prog.info? 34).bind (·.zero)).map (·.cells.toList) = some [.int .i64 0, .int .i64 0, .int .i64 0, .int .i64 0, .slice none 0 0, .int .i64 0, .int .i64 0, .bool false, .int .i64 0, .slice none 0 0, .slice none 0 0] := by kernel_rfl
theorem zc45vi : ((Try.prog.info? 45).bind (·.zero)).map (·.cells.toList) = some [.int .i64 0, .int .i64 0, .int .i64 0, .int .i64 0, .slice none 0 0] := by kernel_rfl

theorem doR_pub_yes {bl sz to ne fl at0 ix : Int} {pins : List Int} {ws : List (Int × List (Int × List Int))} {it : List (Int × List Int)} (h : ne = to) : doR bl sz to ne fl true pins ws 7 at0 ix it = (ne, false, (ws.length : Int), ws, 0) := by simp [doR, publishR, h]
theorem doR_pub_no {bl sz to ne fl at0 ix : Int} {pins : List Int} {ws : List (Int × List (Int × List Int))} {it : List (Int × List Int)} (h : ne ≠ to) : doR bl sz to ne fl true pins ws 7 at0 ix it = (ne, true, fl, ws, 33) := by simp [doR, publishR, h]
theorem doR_imp_old {bl sz to ne fl at0 ix : Int} {pins : List Int} {ws : List (Int × List (Int × List Int))} {it : List (Int × List Int)} (h0 : 0 ≤ ix) (h : ix < ne) : doR bl sz to ne fl true pins ws 6 at0 ix it = (ne, true, fl, ws, 0) := by
  have h1 : 0 ≤ ix ∧ ix ≤ ne - 1 := by omega
  simp [doR, takeR, h1]
theorem doR_imp_yes {bl sz to ne fl at0 ix : Int} {pins : List Int} {ws : List (Int × List (Int × List Int))} {it : List (Int × List Int)} (h : ix = ne) (h2 : ne ≠ to) (hI : ItemsR bl sz it) : doR bl sz to ne fl true pins ws 6 at0 ix it = (ne + 1, true, fl, ws ++ [((ws.length : Int) + 1, it)], 0) := by
  have h1 : ¬ (0 ≤ ne ∧ ne ≤ ne - 1) := by omega
  subst h
  simp [doR, takeR, h1, h2, wrR, hI]
theorem doR_imp_yes2 {bl sz to ne fl at0 ix : Int} {pins : List Int} {ws : List (Int × List (Int × List Int))} {it : List (Int × List Int)} {ws2 : List (Int × List (Int × List Int))} (h : ix = ne) (h2 : ne ≠ to) (hI : ItemsR bl sz it) (h3 : ws ++ [((ws.length : Int) + 1, it)] = ws2) (h4 : (ws2.length : Int) = ws.length + 1) (h5 : ne = ws.length := by rfl) : doR bl sz to ne fl true pins ws 6 at0 ix it = ((ws2.length : Int), true, fl, ws2, 0) := by
  rw [doR_imp_yes h h2 hI, h3, h4, h5]
theorem doR_imp_gap {bl sz to ne fl at0 ix : Int} {pins : List Int} {ws : List (Int × List (Int × List Int))} {it : List (Int × List Int)} (h : ¬ (0 ≤ ix ∧ ix ≤ ne - 1)) (h2 : ix ≠ ne ∨ ne = to) : doR bl sz to ne fl true pins ws 6 at0 ix it = (ne, true, fl, ws, 33) := by simp [doR, takeR, h, h2]
theorem doR_put_hid {bl sz to ne fl at0 ix : Int} {pins : List Int} {ws : List (Int × List (Int × List Int))} {it : List (Int × List Int)} : doR bl sz to ne fl true pins ws 2 at0 ix it = (ne, true, fl, ws, 28) := by simp [doR, putR]
theorem imp_cases (a : Int) (n : Nat) (k : Int) : a < n ∨ (a = n ∧ (n : Int) < k) ∨ ((n : Int) ≤ a ∧ (a = n → k ≤ n)) := by omega
/-- Writes of few items each. -/
def WrsB (ws : List (Int × List (Int × List Int))) : Prop := ∀ e ∈ ws, e.2.length ≤ 8 ∧ ItsB e.2
theorem WrsB.ok {ws : List (Int × List (Int × List Int))} (h : WrsB ws) : WrsOk ws := fun e he => ⟨Nat.le_trans (h e he).1 (by decide), (h e he).2.ok⟩
theorem wrsB_snoc {ws : List (Int × List (Int × List Int))} {s : Int} {it : List (Int × List Int)} (h : WrsB ws) (h1 : it.length ≤ 8) (h2 : ItsB it) : WrsB (ws ++ [(s, it)]) := fun e he => by
  rcases List.mem_append.1 he with h3 | h3
  · exact h e h3
  · simp at h3; subst h3; exact ⟨h1, h2⟩
theorem wrpre_app {bl sz : Int} {ws : List (Int × List (Int × List Int))} {it : List (Int × List Int)} (h : WrPre bl sz ws ws.length) (hI : ItemsR bl sz it) : WrPre bl sz (ws ++ [((ws.length : Int) + 1, it)]) (ws.length + 1) := fun j hj => by
  rcases Nat.lt_or_ge j ws.length with h1 | h1
  · have h2 := h j h1
    rw [show (ws ++ [((ws.length : Int) + 1, it)]).getD j w1 = ws.getD j w1 by simp [List.getD, List.getElem?_append, h1]]
    exact h2
  · obtain rfl : j = ws.length := by omega
    rw [show (ws ++ [((ws.length : Int) + 1, it)]).getD ws.length w1 = ((ws.length : Int) + 1, it) by simp [List.getD]]
    exact ⟨rfl, hI⟩
set_option maxRecDepth 100000
set_option maxHeartbeats 4000000
theorem rnew_hid (kd vo bl sz pe to at0 ix : Int) (place : List Int) (pp pi : Option Addr) (cp ni ci : Nat) (w0 : World) (h0 : Rd (fun _ => True) w0 (.slice pp place.length cp) (.ns .i64 place)) (hn : place.length ≤ 1000000) (hN : NewOk vo bl sz pe to place) (ht : 0 < to) :
    Calls Try.prog 12 #[.agg #[.int .i64 kd, .int .i64 vo, .int .i64 bl, .int .i64 sz, .int .i64 pe, .slice pp place.length cp, .int .i64 to, .int .i64 at0, .int .i64 ix, .slice pi ni ci]] w0 fun e w' => ∃ p c, e = .returned (.tuple #[.agg #[.int .i64 vo, .int .i64 bl, .int .i64 sz, .int .i64 pe, .slice p place.length c, .int .i64 to, .int .i64 0, .bool true, .int .i64 0, .slice none 0 0, .slice none 0 0], .int .i64 0]) ∧ Rd (New w0) w' (.slice p place.length c) (.ns .i64 place) ∧ Below w0.heap.size w0 w' := by
  have h := rnew_yes kd vo bl sz pe to at0 ix place pp pi cp ni ci w0 h0 hn hN
  rwa [show decide (0 < to) = true from decide_eq_true ht] at h
theorem vright_nn (vo bl sz pe to ne fl : Int) (hi : Bool) (place pins : List Int) (ws : List (Int × List (Int × List Int))) (pp pn pw : Option Addr) (cp cn9 cw : Nat) (nn : Nat) (w0 : World) (h0 : Rd (fun _ => True) w0 (.slice pp place.length cp) (.ns .i64 place)) (h1 : Rd (fun _ => True) w0 (.slice pn pins.length cn9) (.ns .i64 pins)) (h2 : Rd (fun _ => True) w0 (.slice pw nn cw) (.l 2 (ws.map wrD))) (hn : place.length ≤ 1000000) (hp : pins.length ≤ 1000000) (hl : ws.length ≤ 1000000) (hwl : ∀ e ∈ ws, e.2.length ≤ 1000000) :
    Calls Try.prog 19 #[.agg #[.int .i64 vo, .int .i64 bl, .int .i64 sz, .int .i64 pe, .slice pp place.length cp, .int .i64 to, .int .i64 ne, .bool hi, .int .i64 fl, .slice pn pins.length cn9, .slice pw nn cw]] w0 fun e w' => ∃ b : Bool, e = .returned (.bool b) ∧ (b = true ↔ VolR vo bl sz pe to ne fl hi place pins ws) ∧ Below w0.heap.size w0 w' := by
  obtain rfl : nn = ws.length := by obtain ⟨pq, cq, hv, _⟩ := h2.l_shape; injection hv with _ e2 _; rw [List.length_map] at e2; exact e2
  exact vright_any vo bl sz pe to ne fl hi place pins ws pp pn pw cp cn9 cw w0 h0 h1 h2 hn hp hl hwl
theorem imports_walk (s0 s1 s2 tt : Int) (order : List Int) (po : Option Addr) (co : Nat) (w0 : World) (h0 : 0 ≤ s0 ∧ s0 ≤ 255) (h1 : 0 ≤ s1 ∧ s1 ≤ 255) (h2 : 0 ≤ s2 ∧ s2 ≤ 255) (htt : 0 ≤ tt ∧ tt ≤ 255) (h9 : Rd (fun _ => True) w0 (.slice po order.length co) (.ns .u8 order)) (hlb : ∀ j, j < order.length → 0 ≤ order.getD j 0 ∧ order.getD j 0 ≤ 255) :
    Calls Try.prog 6 #[.agg #[.int .u8 s0, .int .u8 s1, .int .u8 s2], .int .u8 tt, .slice po order.length co] w0 fun e w' => e = .returned (.bool true) ∧ Below w0.heap.size w0 w' := by
  refine enter (fn := Try.f6) Try.func6 rfl Try.ntmps6 rfl (fun a0 ha0 => ?_)
  simp only [List.zipIdx_cons, List.zipIdx_nil, List.map_cons, List.map_nil, Nat.reduceAdd, Nat.zero_add] at ha0
  have m0 := MemOk.start (fun _ => False) w0
  obtain ⟨kk, hkk, hkk1, hkk4⟩ : ∃ x : Int, tt % 4 + 1 = x ∧ 1 ≤ x ∧ x ≤ 4 := ⟨_, rfl, by omega, by omega⟩
  refine wp_seq_k (fun K0 hK0 => ?_)
  refine wp_region_lit ?_
  refine wpList_plain rfl (fun K hK => ?_)
  refine e_box ha0 m0 20 (cs := [_, _, _]) rfl rfl rfl ?_
  clear ha0 a0 m0; intro g1 a2 w2 ha2 m2 hB2 hg2
  clear hB2 hg2
  refine hK _ _ ?_; clear hK K
  refine st_y ha2 rfl (y_assign ha2 rfl) ?_
  clear ha2 a2; intro a3 ha3
  refine wpList_nil ?_
  refine hK0 _ _ ?_; clear hK0; try clear K0
  refine wp_seq_k (fun K1 hK1 => ?_)
  refine wp_seq_k (fun K2 hK2 => ?_)
  refine wp_region_lit ?_
  refine wpList_plain rfl (fun K hK => ?_)
  refine e_call ha3 Try.func9 rfl rfl rfl rfl (vknown_any _) ?_
  rintro e w4 ⟨rfl, hb4⟩
  have m5 := m2.later hb4
  clear m2
  clear hb4
  refine ⟨_, rfl, fun a6 ha6 => ?_⟩; clear ha3 a3
  refine hK _ _ ?_; clear hK K
  refine st_y ha6 rfl (y_not ha6 rfl) ?_
  clear ha6 a6; intro a7 ha7
  refine wpList_nil ?_
  refine hK2 _ _ ?_; clear hK2; try clear K2
  refine wp_cond_false (ha7.ev (x := .tmp 20) rfl) ?_
  refine wp_skip ?_
  refine hK1 _ _ ?_; clear hK1; try clear K1
  refine wp_seq_k (fun K3 hK3 => ?_)
  refine wp_seq_k (fun K4 hK4 => ?_)
  refine wp_region_lit ?_
  refine st_y ha7 rfl (y_move ha7 rfl) ?_
  clear ha7 a7; intro a8 ha8
  refine st_y ha8 rfl (y_len ha8 rfl Try.underlying43) ?_
  clear ha8 a8; intro a9 ha9
  refine st_y ha9 rfl (y_gtr ha9 rfl rfl) ?_
  clear ha9 a9; intro a10 ha10
  refine wpList_nil ?_
  refine hK4 _ _ ?_; clear hK4; try clear K4
  refine bool_cases ha10 (t := 23) rfl (fun hb11 ha11 => ?_) (fun hb11 ha11 => ?_)
  · skip
    clear ha10
    try simp only [decide_eq_true_eq, decide_eq_false_iff_not, Bool.not_eq_true, Bool.not_eq_false, Bool.not_eq_eq_eq_not, Bool.not_true, Bool.not_false, Bool.not_not, Int.not_lt, Int.not_le, ne_eq, Decidable.not_not] at hb11
    refine wp_cond_true (ha11.ev (x := .tmp 23) rfl) ?_
    refine wp_seq_k (fun K5 hK5 => ?_)
    have ha12 : Has 183 [(1, _), (2, _), (3, _), (6, _)] a10 := ha11.only [1, 2, 3, 6]; clear ha11
    refine wp_region_lit ?_
    refine st_y ha12 rfl (y_assign ha12 rfl) ?_
    clear ha12 a10; intro a13 ha13
    refine wpList_nil ?_
    refine hK5 _ _ ?_; clear hK5; try clear K5
    refine wp_ret ?_
    try dsimp only [Exit.then, Exit.inBlock]
    refine (ret1 (fn := Try.f6) ha13 rfl rfl ?_)
    exact ⟨by first | rfl | (simp; done) | simp_all, m5.below⟩
  · skip
    clear ha10
    try simp only [decide_eq_true_eq, decide_eq_false_iff_not, Bool.not_eq_true, Bool.not_eq_false, Bool.not_eq_eq_eq_not, Bool.not_true, Bool.not_false, Bool.not_not, Int.not_lt, Int.not_le, ne_eq, Decidable.not_not] at hb11
    have hol : order.length ≤ 30 := by omega
    refine wp_cond_false (ha11.ev (x := .tmp 23) rfl) ?_
    refine wp_skip ?_
    refine hK3 _ _ ?_; clear hK3; try clear K3
    refine wp_seq_k (fun K6 hK6 => ?_)
    have ha14 : Has 183 [(1, _), (2, _), (3, _), (6, _)] a10 := ha11.only [1, 2, 3, 6]; clear ha11
    refine wp_region_lit ?_
    refine st_y ha14 rfl (y_move ha14 rfl) ?_
    clear ha14 a10; intro a15 ha15
    refine st_y ha15 rfl (y_rem ha15 rfl rfl (by decide) (Int.tmod_eq_emod_of_nonneg (by omega))) ?_
    clear ha15 a15; intro a16 ha16
    refine st_y ha16 rfl (y_conv ha16 rfl Try.underlying5 Try.underlying3 (r := tt % 4) (IntWalk.i64_in _ (by omega))) ?_
    clear ha16 a16; intro a17 ha17
    refine st_y ha17 rfl (y_add ha17 rfl rfl (r := kk) (by rw [← hkk]; exact (IntWalk.i64_in _ (by omega)))) ?_
    clear ha17 a17; intro a18 ha18
    refine st_y ha18 rfl (y_assign ha18 rfl) ?_
    clear ha18 a18; intro a19 ha19
    refine wpList_nil ?_
    refine hK6 _ _ ?_; clear hK6; try clear K6
    refine wp_seq_k (fun K7 hK7 => ?_)
    refine wp_region_lit ?_
    refine st_y ha19 rfl (y_idxA ha19 rfl rfl Try.underlying59 sz5vi 0 rfl (by decide) (off := 0) rfl) ?_
    clear ha19 a19; intro a20 ha20
    refine st_y ha20 rfl (y_loadB1 ha20 m5 (i := 20) rfl rfl rfl Try.underlying5 rfl) ?_
    clear ha20 a20; intro a21 ha21
    refine st_y ha21 rfl (y_idxA ha21 rfl rfl Try.underlying59 sz5vi 1 rfl (by decide) (off := 1) rfl) ?_
    clear ha21 a21; intro a22 ha22
    refine st_y ha22 rfl (y_loadB1 ha22 m5 (i := 20) rfl rfl rfl Try.underlying5 rfl) ?_
    clear ha22 a22; intro a23 ha23
    refine st_y ha23 rfl (y_idxA ha23 rfl rfl Try.underlying59 sz5vi 2 rfl (by decide) (off := 2) rfl) ?_
    clear ha23 a23; intro a24 ha24
    refine st_y ha24 rfl (y_loadB1 ha24 m5 (i := 20) rfl rfl rfl Try.underlying5 rfl) ?_
    clear ha24 a24; intro a25 ha25
    refine st_y ha25 rfl (y_move ha25 rfl) ?_
    clear ha25 a25; intro a26 ha26
    refine wpList_plain rfl (fun K hK => ?_)
    refine e_call ha26 Try.func14 rfl rfl rfl rfl (create_any 0 s0 s1 s2 kk _ (by omega) h0 h1 h2) ?_
    rintro e w27 ⟨bl, sz9, pe, place, p27, c27, rfl, hbl1, hbl9, hsz1, hsz3, hpe1, hpeb, hplc, hpl9, hd27, hb27⟩
    obtain ⟨z, rfl⟩ : ∃ z : Nat, sz9 = (z : Int) := ⟨sz9.toNat, by omega⟩
    have m28 := m5.callF 21 rfl hb27 hd27
    clear m5
    clear hb27 hd27
    refine ⟨_, rfl, fun a29 ha29 => ?_⟩; clear ha26 a26
    refine hK _ _ ?_; clear hK K
    have hN : NewOk 0 bl z pe kk place := ⟨by omega, by omega, by omega, by omega, by omega, by omega, by omega, by omega, hplc, by omega, by omega⟩
    refine wpList_plain rfl (fun K hK => ?_)
    refine e_call ha29 Try.func12 rfl rfl rfl rfl (rnew_hid _ 0 bl z pe kk _ _ place _ _ _ _ _ _ ((m28.rd (i := 21) rfl).any) (by omega) hN (by omega)) ?_
    rintro e w30 ⟨p30, c30, rfl, hd30, hb30⟩
    have m31 := m28.callF 22 rfl hb30 hd30
    clear m28
    clear hb30 hd30
    refine ⟨_, rfl, fun a32 ha32 => ?_⟩; clear ha29 a29
    refine hK _ _ ?_; clear hK K
    refine st_y ha32 rfl (y_move ha32 rfl) ?_
    clear ha32 a32; intro a33 ha33
    refine st_y ha33 rfl (y_extract ha33 rfl rfl) ?_
    clear ha33 a33; intro a34 ha34
    refine st_y ha34 rfl (y_extract ha34 rfl rfl) ?_
    clear ha34 a34; intro a35 ha35
    refine wpList_plain rfl (fun K hK => ?_)
    refine e_alloc ha35 m31 23 zc34vi rfl ?_
    clear ha35 a35 m31; intro g36 a37 w37 ha37 m37 hB37 hg37
    clear hB37 hg37
    refine hK _ _ ?_; clear hK K
    refine wpList_plain rfl (fun K hK => ?_)
    refine e_storeW ha37 m37 23 rfl rfl rfl rfl rfl sz34vi ?_
    clear m37; intro w38 m38 hB38
    clear hB38
    refine hK _ _ ?_; clear hK K
    refine st_y ha37 rfl (y_assign ha37 rfl) ?_
    clear ha37 a37; intro a39 ha39
    refine wpList_nil ?_
    refine hK7 _ _ ?_; clear hK7; try clear K7
    refine wp_seq_k (fun K8 hK8 => ?_)
    have ha40 : Has 183 [(2, _), (6, _), (7, _), (8, _)] a39 := ha39.only [2, 6, 7, 8]; clear ha39
    refine wp_region_lit ?_
    refine st_y ha40 rfl (y_assign ha40 rfl) ?_
    clear ha40 a39; intro a41 ha41
    refine wpList_nil ?_
    refine hK8 _ _ ?_; clear hK8; try clear K8
    refine wp_seq_k (fun K9 hK9 => ?_)
    refine wp_seq_k (fun K10 hK10 => ?_)
    refine wp_region_lit ?_
    refine st_y ha41 rfl (y_assign ha41 rfl) ?_
    clear ha41 a41; intro a42 ha42
    refine wpList_nil ?_
    refine hK10 _ _ ?_; clear hK10; try clear K10
    refine wp_block ?_
    have m43 := m38.dat 24 rfl (Rd.nilN _ _ .i64 none); clear m38
    have m44 := m43.dat 25 rfl (Rd.l0 none 0 2); clear m43
    refine wp_loop_ghost (fun g a w => ∃ (i A : Nat) (ws : List (Int × List (Int × List Int))) (p1 : Option Addr) (d1 : Nat) (p2 : Option Addr) (d2 : Nat) (p3 : Option Addr) (d3 : Nat), i ≤ order.length ∧ g = order.length - i ∧ (ws.length : Int) ≤ kk ∧ WrsB ws ∧ WrPre bl z ws ws.length ∧ Has 183 [(2, .slice po order.length co), (7, .int .i64 kk), (8, .pointer (some ⟨A, 0, none⟩)), (10, .int .i64 (ws.length : Int)), (11, .int .i64 i)] a ∧ MemOk (cn w0) w0 [(8, .box A 34 [.int .i64 0, .int .i64 bl, .int .i64 (z : Int), .int .i64 pe, .slice p1 place.length d1, .int .i64 kk, .int .i64 (ws.length : Int), .bool true, .int .i64 0, .slice p2 ([] : List Int).length d2, .slice p3 (ws.map wrD).length d3]), (1, .dat (.slice p1 place.length d1) (.ns .i64 place)), (2, .dat (.slice p2 ([] : List Int).length d2) (.ns .i64 [])), (3, .dat (.slice p3 (ws.map wrD).length d3) (.l 2 (ws.map wrD)))] w) (order.length) ?_ ?_
    · exact ⟨0, _, [], _, _, _, _, _, _, Nat.zero_le _, rfl, by simp; omega, (fun _ h => by cases h), (fun j hj => by simp at hj), ha42.only [2, 7, 8, 10, 11], m44.ren [(8, 23), (1, 22), (2, 24), (3, 25)] (by decide)⟩
    · skip
      clear ha42 m44
      rintro g a45 w45 ⟨i, A, ws, p1, d1, p2, d2, p3, d3, hil, hg, hwk, hwb, hwp, ha45, m45⟩
      refine wp_seq_k (fun K11 hK11 => ?_)
      refine wp_seq_k (fun K12 hK12 => ?_)
      refine wp_region_lit ?_
      refine st_y ha45 rfl (y_move ha45 rfl) ?_
      clear ha45 a45; intro a46 ha46
      refine st_y ha46 rfl (y_move ha46 rfl) ?_
      clear ha46 a46; intro a47 ha47
      refine st_y ha47 rfl (y_len ha47 rfl Try.underlying43) ?_
      clear ha47 a47; intro a48 ha48
      refine st_y ha48 rfl (y_lss ha48 rfl rfl) ?_
      clear ha48 a48; intro a49 ha49
      refine wpList_nil ?_
      refine hK12 _ _ ?_; clear hK12; try clear K12
      refine bool_cases ha49 (t := 43) rfl (fun hb50 ha50 => ?_) (fun hb50 ha50 => ?_)
      · skip
        clear ha49
        try simp only [decide_eq_true_eq, decide_eq_false_iff_not, Bool.not_eq_true, Bool.not_eq_false, Bool.not_eq_eq_eq_not, Bool.not_true, Bool.not_false, Bool.not_not, Int.not_lt, Int.not_le, ne_eq, Decidable.not_not] at hb50
        have hi9 : i < order.length := by omega
        have hx := hlb i hi9
        obtain ⟨at9, hat, hat0, hat5⟩ : ∃ x : Int, (order.getD i 0).tmod 6 = x ∧ 0 ≤ x ∧ x ≤ 5 := ⟨_, rfl, by rw [Int.tmod_eq_emod_of_nonneg (by omega)]; omega, by rw [Int.tmod_eq_emod_of_nonneg (by omega)]; omega⟩
        have hwo := hwb.ok
        refine wp_cond_true (ha50.ev (x := .tmp 43) rfl) ?_
        refine wp_skip ?_
        refine hK11 _ _ ?_; clear hK11; try clear K11
        refine wp_seq_k (fun K13 hK13 => ?_)
        refine wp_block ?_
        refine wp_seq_k (fun K14 hK14 => ?_)
        refine wp_region_lit ?_
        refine st_y ha50 rfl (y_move ha50 rfl) ?_
        clear ha50 a49; intro a51 ha51
        refine st_y ha51 rfl (y_move ha51 rfl) ?_
        clear ha51 a51; intro a52 ha52
        obtain ⟨gx53, ox53, hp53, hl53, hrg53⟩ := h9.extN (i) hi9
        cases hp53; clear hl53
        refine st_y ha52 rfl (y_idx ha52 rfl rfl Try.underlying43 sz5vi (i) rfl hi9) ?_
        clear ha52 a52; intro a54 ha54
        refine st_y ha54 rfl (y_loadAt1 ha54 (hrg53 m45 rfl) (q := 0) rfl rfl rfl Try.underlying5 rfl) ?_
        clear ha54 a54; intro a55 ha55
        refine st_y ha55 rfl (y_rem ha55 rfl rfl (by decide) (r := at9) hat) ?_
        clear ha55 a55; intro a56 ha56
        refine st_y ha56 rfl (y_conv ha56 rfl Try.underlying5 Try.underlying3 (r := at9) (IntWalk.i64_in _ (by omega))) ?_
        clear ha56 a56; intro a57 ha57
        refine st_y ha57 rfl (y_assign ha57 rfl) ?_
        clear ha57 a57; intro a58 ha58
        refine wpList_nil ?_
        refine hK14 _ _ ?_; clear hK14; try clear K14
        refine wp_seq_k (fun K15 hK15 => ?_)
        have ha59 : Has 183 [(2, _), (7, _), (8, _), (10, _), (11, _), (12, _)] a58 := ha58.only [2, 7, 8, 10, 11, 12]; clear ha58
        obtain ⟨gx61, ox61, hp61, hl61, hrg61⟩ := h9.extN (i) hi9
        cases hp61; clear hl61
        have m62 : MemOk _ _ [(1, _), (2, _), (3, _), (8, _)] _ := m45.only [1, 2, 3, 8]; clear m45
        refine region_m 11 (B := [(1, _), (2, _), (3, _), (8, _)]) (m62.to ⟨.inl rfl, .inl rfl, .inl rfl, .inl rfl, trivial⟩) m62 (by kernel_rfl) (fun w63 mB63 m63 => ?_); clear m62 mB63
        refine d_y 0 ha59 rfl rfl (fun _ => (m63.to ⟨.inl rfl, .inl rfl, .inl rfl, .inl rfl, trivial⟩)) (by kernel_rfl) (by kernel_rfl) (by kernel_rfl) (by rfl) (fun _ _ _ h => h) (fun W => y_fieldAddr ha59 (off := 1) rfl Try.underlying34 rfl (s := 0) (by kernel_rfl) rfl) ?_
        clear ha59 a58; intro a64 ha64
        refine d_h 1 ha64 rfl rfl (m63.to ⟨.inl rfl, .inl rfl, .inl rfl, .inl rfl, trivial⟩) (by kernel_rfl) (by kernel_rfl) (by kernel_rfl) (by kernel_rfl) (by kernel_rfl) (fun _ _ _ h => h) (fun W hW => y_loadB1 ha64 hW (i := 8) rfl rfl rfl Try.underlying3 rfl) ?_
        clear ha64 a64; intro a65 ha65
        refine d_y 2 ha65 rfl rfl (fun _ => (m63.to ⟨.inl rfl, .inl rfl, .inl rfl, .inl rfl, trivial⟩)) (by kernel_rfl) (by kernel_rfl) (by kernel_rfl) (by rfl) (fun _ _ _ h => h) (fun W => y_fieldAddr ha65 (off := 2) rfl Try.underlying34 rfl (s := 0) (by kernel_rfl) rfl) ?_
        clear ha65 a65; intro a66 ha66
        refine d_h 3 ha66 rfl rfl (m63.to ⟨.inl rfl, .inl rfl, .inl rfl, .inl rfl, trivial⟩) (by kernel_rfl) (by kernel_rfl) (by kernel_rfl) (by kernel_rfl) (by kernel_rfl) (fun _ _ _ h => h) (fun W hW => y_loadB1 ha66 hW (i := 8) rfl rfl rfl Try.underlying3 rfl) ?_
        clear ha66 a66; intro a67 ha67
        refine d_y 4 ha67 rfl rfl (fun _ => (m63.to ⟨.inl rfl, .inl rfl, .inl rfl, .inl rfl, trivial⟩)) (by kernel_rfl) (by kernel_rfl) (by kernel_rfl) (by rfl) (fun _ _ _ h => h) (fun W => y_move ha67 rfl) ?_
        clear ha67 a67; intro a68 ha68
        refine d_y 5 ha68 rfl rfl (fun _ => (m63.to ⟨.inl rfl, .inl rfl, .inl rfl, .inl rfl, trivial⟩)) (by kernel_rfl) (by kernel_rfl) (by kernel_rfl) (by rfl) (fun _ _ _ h => h) (fun W => y_move ha68 rfl) ?_
        clear ha68 a68; intro a69 ha69
        refine d_y 6 ha69 rfl rfl (fun _ => (m63.to ⟨.inl rfl, .inl rfl, .inl rfl, .inl rfl, trivial⟩)) (by kernel_rfl) (by kernel_rfl) (by kernel_rfl) (by rfl) (fun _ _ _ h => h) (fun W => y_idx ha69 rfl rfl Try.underlying43 sz5vi (i) rfl hi9) ?_
        clear ha69 a69; intro a70 ha70
        refine d_h 7 ha70 rfl rfl (m63.to ⟨.inl rfl, .inl rfl, .inl rfl, .inl rfl, trivial⟩) (by kernel_rfl) (by kernel_rfl) (by kernel_rfl) (by kernel_rfl) (by kernel_rfl) (fun _ _ _ h => h) (fun W hW => y_loadAt1 ha70 (hrg61 hW rfl) (q := 0) rfl rfl rfl Try.underlying5 rfl) ?_
        clear ha70 a70; intro a71 ha71
        refine stepE_only 8 rfl (by kernel_rfl) rfl (fun K hK => ?_)
        refine e_litN ha71 m63 100 (k := .u8) rfl rfl Try.underlying43 inf5vi rfl rfl rfl rfl ?_
        clear ha71 a71 m63; intro g72 a73 w73 ha73 m73 
        refine hK _ _ (m73.to ⟨.inl rfl, .inl rfl, .inl rfl, .inl rfl, trivial⟩) ?_; clear hK K
        have m74 := m73.freezeN 100 rfl; clear m73
        refine stepE_only 9 rfl (by kernel_rfl) rfl (fun K hK => ?_)
        refine e_call ha73 Try.func30 rfl rfl rfl rfl (sitem_any bl z [order.getD i 0] _ _ _ ((m74.rd (i := 100) rfl).any) (by simp) (fun j hj => by simp at hj; subst hj; exact hx) (by omega)) ?_
        rintro e w75 ⟨it, p75, c75, rfl, hit8, hpre9, hitb, hit1, hd75, hb75⟩
        have hI : ItemsR bl z it := ⟨hit1 (by simp), hit8, by rw [show max bl 1 = bl by omega] at hpre9; exact hpre9⟩
        have m76 := m74.callF 101 rfl hb75 hd75
        clear m74
        clear hb75 hd75
        refine ⟨_, rfl, fun a77 ha77 => ?_⟩; clear ha73 a73
        refine hK _ _ (m76.to ⟨.inl rfl, .inl rfl, .inl rfl, .inl rfl, trivial⟩) ?_; clear hK K
        refine d_y 10 ha77 rfl rfl (fun _ => (m76.to ⟨.inl rfl, .inl rfl, .inl rfl, .inl rfl, trivial⟩)) (by kernel_rfl) (by kernel_rfl) (by kernel_rfl) (by rfl) (fun _ _ _ h => h) (fun W => y_assign ha77 rfl) ?_
        clear ha77 a77; intro a78 ha78
        refine wpAnyE_done (by kernel_rfl) ?_ _
        refine hK15 _ _ ?_; clear hK15; try clear K15
        refine wp_seq_k (fun K16 hK16 => ?_)
        have ha79 : Has 183 [(2, _), (7, _), (8, _), (10, _), (11, _), (12, _), (13, _)] a78 := ha78.only [2, 7, 8, 10, 11, 12, 13]; clear ha78
        refine wp_region_lit ?_
        refine st_y ha79 rfl (y_move ha79 rfl) ?_
        clear ha79 a78; intro a80 ha80
        refine st_y ha80 rfl (y_move ha80 rfl) ?_
        clear ha80 a80; intro a81 ha81
        refine st_y ha81 rfl (y_build ha81 rfl zc25vi fl25vi rfl (by dsimp only [setL, List.set] <;> rfl)) ?_
        clear ha81 a81; intro a82 ha82
        refine wpList_plain rfl (fun K hK => ?_)
        refine e_alloc ha82 m76 102 zc25vi rfl ?_
        clear ha82 a82 m76; intro g83 a84 w84 ha84 m84 hB84 hg84
        clear hB84 hg84
        refine hK _ _ ?_; clear hK K
        refine wpList_plain rfl (fun K hK => ?_)
        refine e_storeW ha84 m84 102 rfl rfl rfl rfl rfl sz25vi ?_
        clear m84; intro w85 m85 hB85
        clear hB85
        refine hK _ _ ?_; clear hK K
        refine wpList_nil ?_
        refine hK16 _ _ ?_; clear hK16; try clear K16
        refine wp_seq_k (fun K17 hK17 => ?_)
        refine wp_seq_k (fun K18 hK18 => ?_)
        refine wp_region_lit ?_
        refine st_y ha84 rfl (y_move ha84 rfl) ?_
        clear ha84 a84; intro a86 ha86
        refine st_y ha86 rfl (y_move ha86 rfl) ?_
        clear ha86 a86; intro a87 ha87
        obtain ⟨gx88, ox88, hp88, hl88, hrg88⟩ := h9.extN (i) hi9
        cases hp88; clear hl88
        refine st_y ha87 rfl (y_idx ha87 rfl rfl Try.underlying43 sz5vi (i) rfl hi9) ?_
        clear ha87 a87; intro a89 ha89
        refine st_y ha89 rfl (y_loadAt1 ha89 (hrg88 m85 rfl) (q := 0) rfl rfl rfl Try.underlying5 rfl) ?_
        clear ha89 a89; intro a90 ha90
        refine st_y ha90 rfl (y_gtr ha90 rfl rfl) ?_
        clear ha90 a90; intro a91 ha91
        refine wpList_nil ?_
        refine hK18 _ _ ?_; clear hK18; try clear K18
        refine bool_cases ha91 (t := 69) rfl (fun hb92 ha92 => ?_) (fun hb92 ha92 => ?_)
        · skip
          clear ha91
          try simp only [decide_eq_true_eq, decide_eq_false_iff_not, Bool.not_eq_true, Bool.not_eq_false, Bool.not_eq_eq_eq_not, Bool.not_true, Bool.not_false, Bool.not_not, Int.not_lt, Int.not_le, ne_eq, Decidable.not_not] at hb92
          refine wp_cond_true (ha92.ev (x := .tmp 69) rfl) ?_
          have ha93 : Has 183 [(2, _), (7, _), (8, _), (10, _), (11, _), (12, _), (13, _), (14, _), (69, _)] a91 := ha92.only [2, 7, 8, 10, 11, 12, 13, 14, 69]; clear ha92
          refine wp_region_lit ?_
          refine st_y ha93 rfl (y_build ha93 rfl zc25vi fl25vi rfl (by dsimp only [setL, List.set] <;> rfl)) ?_
          clear ha93 a91; intro a94 ha94
          refine wpList_plain rfl (fun K hK => ?_)
          refine e_storeW ha94 m85 102 rfl rfl rfl rfl rfl sz25vi ?_
          clear m85; intro w95 m95 hB95
          clear hB95
          refine hK _ _ ?_; clear hK K
          refine wpList_nil ?_
          refine hK17 _ _ ?_; clear hK17; try clear K17
          refine wp_seq_k (fun K19 hK19 => ?_)
          by_cases hnk : (ws.length : Int) = kk
          · skip
            refine wp_region_lit ?_
            refine st_y ha94 rfl (y_loadBR ha94 m95 (i := 8) rfl rfl Try.underlying34 rfl sz34vi (by simp) (by dsimp only [List.drop, List.take] <;> rfl)) ?_
            clear ha94 a94; intro a96 ha96
            refine st_y ha96 rfl (y_loadBR ha96 m95 (i := 102) rfl rfl Try.underlying25 rfl sz25vi (by simp) (by dsimp only [List.drop, List.take] <;> rfl)) ?_
            clear ha96 a96; intro a97 ha97
            have m98 := m95.dat 103 rfl (Rd.l0 none 0 2); clear m95
            refine wpList_plain rfl (fun K hK => ?_)
            refine e_call ha97 Try.func16 rfl rfl rfl rfl (xDo_is _ 0 bl z pe kk (ws.length : Int) 0 true place [] ws [] _ _ _ _ _ _ _ _ 7 _ _ _ _ _ _ _ _ _ _ _ (ws.length : Int) false (ws.length : Int) ws 0 (doR_pub_yes hnk) (by omega) (by decide) (by decide) (by omega) (by first | omega | (simp; omega)) (by decide) (by decide) (fun _ h => by cases h) hwo (m98.into [(1, 1), (2, 2), (3, 3), (4, 103)] (by decide) rfl)) ?_
            rintro e w99 ⟨rl99, rf99, rn99, p199, d199, p299, d299, p399, d399, rfl, hr99, hm99⟩
            have mx99 := m98.back hm99 [(1, 1), (2, 2), (3, 3), (103, 4), (104, 5), (105, 6), (106, 7)] (by decide); clear hm99 m98
            have m99 : MemOk _ _ [(1, _), (2, _), (3, _), (103, _), (104, _), (105, _), (106, _), (8, _), (100, _), (101, _), (102, _)] _ := mx99.only [1, 2, 3, 103, 104, 105, 106, 8, 100, 101, 102]; clear mx99
            refine ⟨_, rfl, fun a100 ha100 => ?_⟩; clear ha97 a97
            refine hK _ _ ?_; clear hK K
            obtain ⟨-, rfl, rfl, rfl⟩ := hr99.resolve_left (fun h => h.1 rfl)
            have m101 := m99.freezeS 106 rfl (by simp [cx]); clear m99
            refine st_y ha100 rfl (y_move ha100 rfl) ?_
            clear ha100 a100; intro a102 ha102
            refine st_y ha102 rfl (y_extract ha102 rfl rfl) ?_
            clear ha102 a102; intro a103 ha103
            refine st_y ha103 rfl (y_extract ha103 rfl rfl) ?_
            clear ha103 a103; intro a104 ha104
            refine wpList_plain rfl (fun K hK => ?_)
            refine e_alloc ha104 m101 107 zc34vi rfl ?_
            clear ha104 a104 m101; intro g105 a106 w106 ha106 m106 hB106 hg106
            clear hB106 hg106
            refine hK _ _ ?_; clear hK K
            refine wpList_plain rfl (fun K hK => ?_)
            refine e_alloc ha106 m106 108 zc45vi rfl ?_
            clear ha106 a106 m106; intro g107 a108 w108 ha108 m108 hB108 hg108
            clear hB108 hg108
            refine hK _ _ ?_; clear hK K
            refine wpList_plain rfl (fun K hK => ?_)
            refine e_storeW ha108 m108 107 rfl rfl rfl rfl rfl sz34vi ?_
            clear m108; intro w109 m109 hB109
            clear hB109
            refine hK _ _ ?_; clear hK K
            refine wpList_plain rfl (fun K hK => ?_)
            refine e_storeW ha108 m109 108 rfl rfl rfl rfl rfl sz45vi ?_
            clear m109; intro w110 m110 hB110
            clear hB110
            refine hK _ _ ?_; clear hK K
            refine wpList_nil ?_
            refine hK19 _ _ ?_; clear hK19; try clear K19
            refine wp_seq_k (fun K20 hK20 => ?_)
            refine wp_block ?_
            refine wp_seq_k (fun K21 hK21 => ?_)
            have ha111 : Has 183 [(2, _), (7, _), (8, _), (10, _), (11, _), (12, _), (13, _), (14, _), (69, _), (15, _), (16, _)] a108 := ha108.only [2, 7, 8, 10, 11, 12, 13, 14, 69, 15, 16]; clear ha108
            refine wp_region_lit ?_
            refine st_y ha111 rfl (y_fieldAddr ha111 (off := 0) rfl Try.underlying25 rfl (s := 0) (by kernel_rfl) rfl) ?_
            clear ha111 a108; intro a112 ha112
            refine st_y ha112 rfl (y_loadB1 ha112 m110 (i := 102) rfl rfl rfl Try.underlying3 rfl) ?_
            clear ha112 a112; intro a113 ha113
            refine st_y ha113 rfl (y_eql ha113 rfl rfl) ?_
            clear ha113 a113; intro a114 ha114
            refine st_y ha114 rfl (y_assign ha114 rfl) ?_
            clear ha114 a114; intro a115 ha115
            refine wpList_nil ?_
            refine hK21 _ _ ?_; clear hK21; try clear K21
            refine bool_cases ha115 (t := 86) rfl (fun hb116 ha116 => ?_) (fun hb116 ha116 => ?_)
            rotate_left
            · exact absurd hb116 (by first | decide | (simp; done) | (simp; omega) | (simp [hnk]; done) | (simp [hnk.1]; done) | (simp_all; done))
            clear ha115 hb116
            refine wp_cond_true (ha116.ev (x := .tmp 86) rfl) ?_
            refine wp_seq_k (fun K22 hK22 => ?_)
            refine wp_seq_k (fun K23 hK23 => ?_)
            refine wp_region_lit ?_
            refine st_y ha116 rfl (y_fieldAddr ha116 (off := 0) rfl Try.underlying45 rfl (s := 0) (by kernel_rfl) rfl) ?_
            clear ha116 a115; intro a117 ha117
            refine st_y ha117 rfl (y_loadB1 ha117 m110 (i := 108) rfl rfl rfl Try.underlying35 rfl) ?_
            clear ha117 a117; intro a118 ha118
            refine st_y ha118 rfl (y_eql ha118 rfl rfl) ?_
            clear ha118 a118; intro a119 ha119
            refine st_y ha119 rfl (y_move ha119 rfl) ?_
            clear ha119 a119; intro a120 ha120
            refine st_y ha120 rfl (y_move ha120 rfl) ?_
            clear ha120 a120; intro a121 ha121
            refine st_y ha121 rfl (y_eql ha121 rfl rfl) ?_
            clear ha121 a121; intro a122 ha122
            refine st_y ha122 rfl (y_neqB ha122 rfl rfl Try.underlying4) ?_
            clear ha122 a122; intro a123 ha123
            refine wpList_nil ?_
            refine hK23 _ _ ?_; clear hK23; try clear K23
            refine bool_cases ha123 (t := 96) rfl (fun hb124 ha124 => ?_) (fun hb124 ha124 => ?_)
            · exact absurd hb124 (by first | decide | (simp; done) | (simp; omega) | (simp [hnk]; done) | (simp [hnk.1]; done) | (simp_all; done))
            clear ha123 hb124
            refine wp_cond_false (ha124.ev (x := .tmp 96) rfl) ?_
            refine wp_skip ?_
            refine hK22 _ _ ?_; clear hK22; try clear K22
            refine wp_seq_k (fun K24 hK24 => ?_)
            have ha125 : Has 183 [(2, _), (7, _), (8, _), (10, _), (11, _), (12, _), (13, _), (69, _), (15, _), (16, _)] a123 := ha124.only [2, 7, 8, 10, 11, 12, 13, 69, 15, 16]; clear ha124
            refine wp_region_lit ?_
            refine st_y ha125 rfl (y_move ha125 rfl) ?_
            clear ha125 a123; intro a126 ha126
            refine st_y ha126 rfl (y_move ha126 rfl) ?_
            clear ha126 a126; intro a127 ha127
            refine st_y ha127 rfl (y_eql ha127 rfl rfl) ?_
            clear ha127 a127; intro a128 ha128
            refine wpList_nil ?_
            refine hK24 _ _ ?_; clear hK24; try clear K24
            refine bool_cases ha128 (t := 99) rfl (fun hb129 ha129 => ?_) (fun hb129 ha129 => ?_)
            rotate_left
            · exact absurd hb129 (by first | decide | (simp; done) | (simp; omega) | (simp [hnk]; done) | (simp [hnk.1]; done) | (simp_all; done))
            clear ha128 hb129
            refine wp_cond_true (ha129.ev (x := .tmp 99) rfl) ?_
            refine wp_seq_k (fun K25 hK25 => ?_)
            refine wp_region_lit ?_
            refine st_y ha129 rfl (y_fieldAddr ha129 (off := 7) rfl Try.underlying34 rfl (s := 0) (by kernel_rfl) rfl) ?_
            clear ha129 a128; intro a130 ha130
            refine st_y ha130 rfl (y_loadB1 ha130 m110 (i := 107) rfl rfl rfl Try.underlying4 rfl) ?_
            clear ha130 a130; intro a131 ha131
            refine st_y ha131 rfl (y_not ha131 rfl) ?_
            clear ha131 a131; intro a132 ha132
            refine st_y ha132 rfl (y_move ha132 rfl) ?_
            clear ha132 a132; intro a133 ha133
            refine bool_cases ha133 (t := 103) rfl (fun hb134 ha134 => ?_) (fun hb134 ha134 => ?_)
            rotate_left
            · exact absurd hb134 (by first | decide | (simp; done) | (simp; omega) | (simp [hnk]; done) | (simp [hnk.1]; done) | (simp_all; done))
            clear ha133 hb134
            refine st_g ha134 rfl rfl rfl rfl (y_fieldAddr ha134 (off := 8) rfl Try.underlying34 rfl (s := 0) (by kernel_rfl) rfl) ?_
            clear ha134 a133; intro a135 ha135
            refine st_g ha135 rfl rfl rfl rfl (y_loadB1 ha135 m110 (i := 107) rfl rfl rfl Try.underlying2 rfl) ?_
            clear ha135 a135; intro a136 ha136
            refine st_g ha136 rfl rfl rfl rfl (y_move ha136 rfl) ?_
            clear ha136 a136; intro a137 ha137
            refine st_g ha137 rfl rfl rfl rfl (y_eql ha137 rfl rfl) ?_
            clear ha137 a137; intro a138 ha138
            refine st_y ha138 rfl (y_pickT ha138 rfl rfl) ?_
            clear ha138 a138; intro a139 ha139
            refine st_y ha139 rfl (y_move ha139 rfl) ?_
            clear ha139 a139; intro a140 ha140
            refine bool_cases ha140 (t := 109) rfl (fun hb141 ha141 => ?_) (fun hb141 ha141 => ?_)
            rotate_left
            · exact absurd hb141 (by first | decide | (simp; done) | (simp; omega) | (simp [hnk]; done) | (simp [hnk.1]; done) | (simp_all; done))
            clear ha140 hb141
            refine st_g ha141 rfl rfl rfl rfl (y_fieldAddr ha141 (off := 1) rfl Try.underlying45 rfl (s := 0) (by kernel_rfl) rfl) ?_
            clear ha141 a140; intro a142 ha142
            refine st_g ha142 rfl rfl rfl rfl (y_loadB1 ha142 m110 (i := 108) rfl rfl rfl Try.underlying2 rfl) ?_
            clear ha142 a142; intro a143 ha143
            refine st_g ha143 rfl rfl rfl rfl (y_move ha143 rfl) ?_
            clear ha143 a143; intro a144 ha144
            refine st_g ha144 rfl rfl rfl rfl (y_eql ha144 rfl rfl) ?_
            clear ha144 a144; intro a145 ha145
            refine st_y ha145 rfl (y_pickT ha145 rfl rfl) ?_
            clear ha145 a145; intro a146 ha146
            refine st_y ha146 rfl (y_move ha146 rfl) ?_
            clear ha146 a146; intro a147 ha147
            refine bool_cases ha147 (t := 115) rfl (fun hb148 ha148 => ?_) (fun hb148 ha148 => ?_)
            rotate_left
            · exact absurd hb148 (by first | decide | (simp; done) | (simp; omega) | (simp [hnk]; done) | (simp [hnk.1]; done) | (simp_all; done))
            clear ha147 hb148
            refine st_g ha148 rfl rfl rfl rfl (y_fieldAddr ha148 (off := 2) rfl Try.underlying45 rfl (s := 0) (by kernel_rfl) rfl) ?_
            clear ha148 a147; intro a149 ha149
            refine st_g ha149 rfl rfl rfl rfl (y_loadB1 ha149 m110 (i := 108) rfl rfl rfl Try.underlying2 rfl) ?_
            clear ha149 a149; intro a150 ha150
            refine st_g ha150 rfl rfl rfl rfl (y_move ha150 rfl) ?_
            clear ha150 a150; intro a151 ha151
            refine st_g ha151 rfl rfl rfl rfl (y_eql ha151 rfl rfl) ?_
            clear ha151 a151; intro a152 ha152
            refine st_y ha152 rfl (y_pickT ha152 rfl rfl) ?_
            clear ha152 a152; intro a153 ha153
            refine st_y ha153 rfl (y_move ha153 rfl) ?_
            clear ha153 a153; intro a154 ha154
            refine bool_cases ha154 (t := 121) rfl (fun hb155 ha155 => ?_) (fun hb155 ha155 => ?_)
            rotate_left
            · exact absurd hb155 (by first | decide | (simp; done) | (simp; omega) | (simp [hnk]; done) | (simp [hnk.1]; done) | (simp_all; done))
            clear ha154 hb155
            refine st_g ha155 rfl rfl rfl rfl (y_loadBR ha155 m110 (i := 107) rfl rfl Try.underlying34 rfl sz34vi (by simp) (by dsimp only [List.drop, List.take] <;> rfl)) ?_
            clear ha155 a154; intro a156 ha156
            refine st_ge ha156 rfl rfl rfl rfl (fun K hK => ?_)
            refine e_call ha156 Try.func19 rfl rfl rfl rfl (vright_nn 0 bl z pe kk (ws.length : Int) (ws.length : Int) false place [] ws _ _ _ _ _ _ _ _ ((m110.rd (i := 104) rfl).any) ((m110.rd (i := 105) rfl).any) ((m110.rd (i := 106) rfl).any) (by omega) (by decide) (by omega) (fun e he => (hwo e he).1)) ?_
            rintro e w157 ⟨rb, rfl, hrb, hb157⟩
            obtain rfl : rb = true := hrb.2 ⟨hN, by omega, by omega, (fun h => by cases h), (fun _ => hnk), by omega, by omega, (fun j hj => by simp at hj), hwp⟩
            have m158 := m110.later hb157
            clear m110
            clear hb157
            refine ⟨_, rfl, fun a159 ha159 => ?_⟩; clear ha156 a156
            refine hK _ _ ?_; clear hK K
            refine st_y ha159 rfl (y_pickT ha159 rfl rfl) ?_
            clear ha159 a159; intro a160 ha160
            refine st_y ha160 rfl (y_assign ha160 rfl) ?_
            clear ha160 a160; intro a161 ha161
            refine wpList_nil ?_
            refine hK25 _ _ ?_; clear hK25; try clear K25
            refine wp_ret ?_
            try dsimp only [Exit.then, Exit.inBlock]
            refine (ret1 (fn := Try.f6) ha161 rfl rfl ?_)
            exact ⟨by first | rfl | (simp; done) | simp_all, m158.below⟩
          · skip
            refine wp_region_lit ?_
            refine st_y ha94 rfl (y_loadBR ha94 m95 (i := 8) rfl rfl Try.underlying34 rfl sz34vi (by simp) (by dsimp only [List.drop, List.take] <;> rfl)) ?_
            clear ha94 a94; intro a162 ha162
            refine st_y ha162 rfl (y_loadBR ha162 m95 (i := 102) rfl rfl Try.underlying25 rfl sz25vi (by simp) (by dsimp only [List.drop, List.take] <;> rfl)) ?_
            clear ha162 a162; intro a163 ha163
            have m164 := m95.dat 103 rfl (Rd.l0 none 0 2); clear m95
            refine wpList_plain rfl (fun K hK => ?_)
            refine e_call ha163 Try.func16 rfl rfl rfl rfl (xDo_is _ 0 bl z pe kk (ws.length : Int) 0 true place [] ws [] _ _ _ _ _ _ _ _ 7 _ _ _ _ _ _ _ _ _ _ _ (ws.length : Int) true 0 ws 33 (doR_pub_no hnk) (by omega) (by decide) (by decide) (by omega) (by first | omega | (simp; omega)) (by decide) (by decide) (fun _ h => by cases h) hwo (m164.into [(1, 1), (2, 2), (3, 3), (4, 103)] (by decide) rfl)) ?_
            rintro e w165 ⟨rl165, rf165, rn165, p1165, d1165, p2165, d2165, p3165, d3165, rfl, hr165, hm165⟩
            have mx165 := m164.back hm165 [(1, 1), (2, 2), (3, 3), (103, 4), (104, 5), (105, 6), (106, 7)] (by decide); clear hm165 m164
            have m165 : MemOk _ _ [(1, _), (2, _), (3, _), (103, _), (104, _), (105, _), (106, _), (8, _), (100, _), (101, _), (102, _)] _ := mx165.only [1, 2, 3, 103, 104, 105, 106, 8, 100, 101, 102]; clear mx165
            refine ⟨_, rfl, fun a166 ha166 => ?_⟩; clear ha163 a163
            refine hK _ _ ?_; clear hK K
            obtain ⟨-, rfl, rfl, rfl⟩ := hr165.resolve_right (fun h => absurd h.1 (by decide))
            have m167 := m165.freezeS 106 rfl (by simp [cx]); clear m165
            refine st_y ha166 rfl (y_move ha166 rfl) ?_
            clear ha166 a166; intro a168 ha168
            refine st_y ha168 rfl (y_extract ha168 rfl rfl) ?_
            clear ha168 a168; intro a169 ha169
            refine st_y ha169 rfl (y_extract ha169 rfl rfl) ?_
            clear ha169 a169; intro a170 ha170
            refine wpList_plain rfl (fun K hK => ?_)
            refine e_alloc ha170 m167 107 zc34vi rfl ?_
            clear ha170 a170 m167; intro g171 a172 w172 ha172 m172 hB172 hg172
            clear hB172 hg172
            refine hK _ _ ?_; clear hK K
            refine wpList_plain rfl (fun K hK => ?_)
            refine e_alloc ha172 m172 108 zc45vi rfl ?_
            clear ha172 a172 m172; intro g173 a174 w174 ha174 m174 hB174 hg174
            clear hB174 hg174
            refine hK _ _ ?_; clear hK K
            refine wpList_plain rfl (fun K hK => ?_)
            refine e_storeW ha174 m174 107 rfl rfl rfl rfl rfl sz34vi ?_
            clear m174; intro w175 m175 hB175
            clear hB175
            refine hK _ _ ?_; clear hK K
            refine wpList_plain rfl (fun K hK => ?_)
            refine e_storeW ha174 m175 108 rfl rfl rfl rfl rfl sz45vi ?_
            clear m175; intro w176 m176 hB176
            clear hB176
            refine hK _ _ ?_; clear hK K
            refine wpList_nil ?_
            refine hK19 _ _ ?_; clear hK19; try clear K19
            refine wp_seq_k (fun K26 hK26 => ?_)
            refine wp_block ?_
            refine wp_seq_k (fun K27 hK27 => ?_)
            have ha177 : Has 183 [(2, _), (7, _), (8, _), (10, _), (11, _), (12, _), (13, _), (14, _), (69, _), (15, _), (16, _)] a174 := ha174.only [2, 7, 8, 10, 11, 12, 13, 14, 69, 15, 16]; clear ha174
            refine wp_region_lit ?_
            refine st_y ha177 rfl (y_fieldAddr ha177 (off := 0) rfl Try.underlying25 rfl (s := 0) (by kernel_rfl) rfl) ?_
            clear ha177 a174; intro a178 ha178
            refine st_y ha178 rfl (y_loadB1 ha178 m176 (i := 102) rfl rfl rfl Try.underlying3 rfl) ?_
            clear ha178 a178; intro a179 ha179
            refine st_y ha179 rfl (y_eql ha179 rfl rfl) ?_
            clear ha179 a179; intro a180 ha180
            refine st_y ha180 rfl (y_assign ha180 rfl) ?_
            clear ha180 a180; intro a181 ha181
            refine wpList_nil ?_
            refine hK27 _ _ ?_; clear hK27; try clear K27
            refine bool_cases ha181 (t := 86) rfl (fun hb182 ha182 => ?_) (fun hb182 ha182 => ?_)
            rotate_left
            · exact absurd hb182 (by first | decide | (simp; done) | (simp; omega) | (simp [hnk]; done) | (simp [hnk.1]; done) | (simp_all; done))
            clear ha181 hb182
            refine wp_cond_true (ha182.ev (x := .tmp 86) rfl) ?_
            refine wp_seq_k (fun K28 hK28 => ?_)
            refine wp_seq_k (fun K29 hK29 => ?_)
            refine wp_region_lit ?_
            refine st_y ha182 rfl (y_fieldAddr ha182 (off := 0) rfl Try.underlying45 rfl (s := 0) (by kernel_rfl) rfl) ?_
            clear ha182 a181; intro a183 ha183
            refine st_y ha183 rfl (y_loadB1 ha183 m176 (i := 108) rfl rfl rfl Try.underlying35 rfl) ?_
            clear ha183 a183; intro a184 ha184
            refine st_y ha184 rfl (y_eql ha184 rfl rfl) ?_
            clear ha184 a184; intro a185 ha185
            refine st_y ha185 rfl (y_move ha185 rfl) ?_
            clear ha185 a185; intro a186 ha186
            refine st_y ha186 rfl (y_move ha186 rfl) ?_
            clear ha186 a186; intro a187 ha187
            refine st_y ha187 rfl (y_eql ha187 rfl rfl) ?_
            clear ha187 a187; intro a188 ha188
            refine st_y ha188 rfl (y_neqB ha188 rfl rfl Try.underlying4) ?_
            clear ha188 a188; intro a189 ha189
            refine wpList_nil ?_
            refine hK29 _ _ ?_; clear hK29; try clear K29
            refine bool_cases ha189 (t := 96) rfl (fun hb190 ha190 => ?_) (fun hb190 ha190 => ?_)
            · exact absurd hb190 (by first | decide | (simp; done) | (simp; omega) | (simp [hnk]; done) | (simp [hnk.1]; done) | (simp_all; done))
            clear ha189 hb190
            refine wp_cond_false (ha190.ev (x := .tmp 96) rfl) ?_
            refine wp_skip ?_
            refine hK28 _ _ ?_; clear hK28; try clear K28
            refine wp_seq_k (fun K30 hK30 => ?_)
            have ha191 : Has 183 [(2, _), (7, _), (8, _), (10, _), (11, _), (12, _), (13, _), (69, _), (15, _), (16, _)] a189 := ha190.only [2, 7, 8, 10, 11, 12, 13, 69, 15, 16]; clear ha190
            refine wp_region_lit ?_
            refine st_y ha191 rfl (y_move ha191 rfl) ?_
            clear ha191 a189; intro a192 ha192
            refine st_y ha192 rfl (y_move ha192 rfl) ?_
            clear ha192 a192; intro a193 ha193
            refine st_y ha193 rfl (y_eql ha193 rfl rfl) ?_
            clear ha193 a193; intro a194 ha194
            refine wpList_nil ?_
            refine hK30 _ _ ?_; clear hK30; try clear K30
            refine bool_cases ha194 (t := 99) rfl (fun hb195 ha195 => ?_) (fun hb195 ha195 => ?_)
            · exact absurd hb195 (by first | decide | (simp; done) | (simp; omega) | (simp [hnk]; done) | (simp [hnk.1]; done) | (simp_all; done))
            clear ha194 hb195
            refine wp_cond_false (ha195.ev (x := .tmp 99) rfl) ?_
            refine wp_skip ?_
            refine hK26 _ _ ?_; clear hK26; try clear K26
            refine wp_seq_k (fun K31 hK31 => ?_)
            refine wp_region_lit ?_
            refine st_y ha195 rfl (y_loadBR ha195 m176 (i := 107) rfl rfl Try.underlying34 rfl sz34vi (by simp) (by dsimp only [List.drop, List.take] <;> rfl)) ?_
            clear ha195 a194; intro a196 ha196
            refine wpList_plain rfl (fun K hK => ?_)
            refine e_storeW ha196 m176 8 rfl rfl rfl rfl rfl sz34vi ?_
            clear m176; intro w197 m197 hB197
            clear hB197
            refine hK _ _ ?_; clear hK K
            refine wpList_nil ?_
            refine hK31 _ _ ?_; clear hK31; try clear K31
            refine wp_seq_k (fun K32 hK32 => ?_)
            have ha198 : Has 183 [(2, _), (7, _), (8, _), (10, _), (11, _), (13, _), (69, _)] a196 := ha196.only [2, 7, 8, 10, 11, 13, 69]; clear ha196
            refine wp_region_lit ?_
            refine st_y ha198 rfl (y_loadBR ha198 m197 (i := 8) rfl rfl Try.underlying34 rfl sz34vi (by simp) (by dsimp only [List.drop, List.take] <;> rfl)) ?_
            clear ha198 a196; intro a199 ha199
            refine st_y ha199 rfl (y_move ha199 rfl) ?_
            clear ha199 a199; intro a200 ha200
            refine st_y ha200 rfl (y_build ha200 rfl zc25vi fl25vi rfl (by dsimp only [setL, List.set] <;> rfl)) ?_
            clear ha200 a200; intro a201 ha201
            refine wpList_plain rfl (fun K hK => ?_)
            refine e_call ha201 Try.func16 rfl rfl rfl rfl (xDo_is _ 0 bl z pe kk (ws.length : Int) 0 true place [] ws it _ _ _ _ _ _ _ _ 2 _ _ _ _ _ _ _ _ _ _ _ (ws.length : Int) true 0 ws 28 doR_put_hid (by omega) (by decide) (by decide) (by omega) (by first | omega | (simp; omega)) (by decide) (by omega) hitb.ok hwo (m197.into [(1, 104), (2, 105), (3, 106), (4, 101)] (by decide) rfl)) ?_
            rintro e w202 ⟨rl202, rf202, rn202, p1202, d1202, p2202, d2202, p3202, d3202, rfl, hr202, hm202⟩
            have mx202 := m197.back hm202 [(104, 1), (105, 2), (106, 3), (101, 4), (109, 5), (110, 6), (111, 7)] (by decide); clear hm202 m197
            have m202 : MemOk _ _ [(104, _), (105, _), (106, _), (101, _), (109, _), (110, _), (111, _), (1, _), (2, _), (3, _), (8, _), (100, _), (102, _), (103, _), (107, _), (108, _)] _ := mx202.only [104, 105, 106, 101, 109, 110, 111, 1, 2, 3, 8, 100, 102, 103, 107, 108]; clear mx202
            refine ⟨_, rfl, fun a203 ha203 => ?_⟩; clear ha201 a201
            refine hK _ _ ?_; clear hK K
            obtain ⟨-, rfl, rfl, rfl⟩ := hr202.resolve_right (fun h => absurd h.1 (by decide))
            have m204 := m202.freezeS 111 rfl (by simp [cx]); clear m202
            refine st_y ha203 rfl (y_move ha203 rfl) ?_
            clear ha203 a203; intro a205 ha205
            refine st_y ha205 rfl (y_extract ha205 rfl rfl) ?_
            clear ha205 a205; intro a206 ha206
            refine st_y ha206 rfl (y_extract ha206 rfl rfl) ?_
            clear ha206 a206; intro a207 ha207
            refine wpList_plain rfl (fun K hK => ?_)
            refine e_alloc ha207 m204 112 zc34vi rfl ?_
            clear ha207 a207 m204; intro g208 a209 w209 ha209 m209 hB209 hg209
            clear hB209 hg209
            refine hK _ _ ?_; clear hK K
            refine wpList_plain rfl (fun K hK => ?_)
            refine e_alloc ha209 m209 113 zc45vi rfl ?_
            clear ha209 a209 m209; intro g210 a211 w211 ha211 m211 hB211 hg211
            clear hB211 hg211
            refine hK _ _ ?_; clear hK K
            refine wpList_plain rfl (fun K hK => ?_)
            refine e_storeW ha211 m211 112 rfl rfl rfl rfl rfl sz34vi ?_
            clear m211; intro w212 m212 hB212
            clear hB212
            refine hK _ _ ?_; clear hK K
            refine wpList_plain rfl (fun K hK => ?_)
            refine e_storeW ha211 m212 113 rfl rfl rfl rfl rfl sz45vi ?_
            clear m212; intro w213 m213 hB213
            clear hB213
            refine hK _ _ ?_; clear hK K
            refine wpList_nil ?_
            refine hK32 _ _ ?_; clear hK32; try clear K32
            refine wp_seq_k (fun K33 hK33 => ?_)
            have ha214 : Has 183 [(2, _), (7, _), (8, _), (10, _), (11, _), (69, _), (18, _)] a211 := ha211.only [2, 7, 8, 10, 11, 69, 18]; clear ha211
            refine wp_region_lit ?_
            refine st_y ha214 rfl (y_fieldAddr ha214 (off := 0) rfl Try.underlying45 rfl (s := 0) (by kernel_rfl) rfl) ?_
            clear ha214 a211; intro a215 ha215
            refine st_y ha215 rfl (y_loadB1 ha215 m213 (i := 113) rfl rfl rfl Try.underlying35 rfl) ?_
            clear ha215 a215; intro a216 ha216
            refine st_y ha216 rfl (y_neq ha216 rfl rfl) ?_
            clear ha216 a216; intro a217 ha217
            refine wpList_nil ?_
            refine hK33 _ _ ?_; clear hK33; try clear K33
            refine bool_cases ha217 (t := 180) rfl (fun hb218 ha218 => ?_) (fun hb218 ha218 => ?_)
            · exact absurd hb218 (by first | decide | (simp; done) | (simp; omega) | (simp [hnk]; done) | (simp [hnk.1]; done) | (simp_all; done))
            clear ha217 hb218
            refine wp_cond_false (ha218.ev (x := .tmp 180) rfl) ?_
            refine wp_skip ?_
            refine hK13 _ _ ?_; clear hK13; try clear K13
            refine wp_region_lit ?_
            refine st_y ha218 rfl (y_move ha218 rfl) ?_
            clear ha218 a217; intro a219 ha219
            refine st_y ha219 rfl (y_add ha219 rfl rfl (r := ((i + 1 : Nat) : Int)) (by rw [IntWalk.i64_in _ (by omega)]; omega)) ?_
            clear ha219 a219; intro a220 ha220
            refine st_y ha220 rfl (y_assign ha220 rfl) ?_
            clear ha220 a220; intro a221 ha221
            refine wpList_nil ?_
            show ∃ n', n' < _ ∧ _
            exact ⟨order.length - (i + 1), by omega, i + 1, _, ws, _, _, _, _, _, _, by omega, rfl, hwk, hwb, hwp, ha221.only [2, 7, 8, 10, 11], m213.ren [(8, 8), (1, 104), (2, 105), (3, 106)] (by decide)⟩
        · skip
          clear ha91
          try simp only [decide_eq_true_eq, decide_eq_false_iff_not, Bool.not_eq_true, Bool.not_eq_false, Bool.not_eq_eq_eq_not, Bool.not_true, Bool.not_false, Bool.not_not, Int.not_lt, Int.not_le, ne_eq, Decidable.not_not] at hb92
          refine wp_cond_false (ha92.ev (x := .tmp 69) rfl) ?_
          refine wp_skip ?_
          refine hK17 _ _ ?_; clear hK17; try clear K17
          refine wp_seq_k (fun K34 hK34 => ?_)
          rcases imp_cases at9 ws.length kk with hnk | hnk | hnk
          · skip
            have ha222 : Has 183 [(2, _), (7, _), (8, _), (10, _), (11, _), (12, _), (13, _), (14, _), (69, _)] a91 := ha92.only [2, 7, 8, 10, 11, 12, 13, 14, 69]; clear ha92
            refine wp_region_lit ?_
            refine st_y ha222 rfl (y_loadBR ha222 m85 (i := 8) rfl rfl Try.underlying34 rfl sz34vi (by simp) (by dsimp only [List.drop, List.take] <;> rfl)) ?_
            clear ha222 a91; intro a223 ha223
            refine st_y ha223 rfl (y_loadBR ha223 m85 (i := 102) rfl rfl Try.underlying25 rfl sz25vi (by simp) (by dsimp only [List.drop, List.take] <;> rfl)) ?_
            clear ha223 a223; intro a224 ha224
            refine wpList_plain rfl (fun K hK => ?_)
            refine e_call ha224 Try.func16 rfl rfl rfl rfl (xDo_is _ 0 bl z pe kk (ws.length : Int) 0 true place [] ws it _ _ _ _ _ _ _ _ 6 _ _ _ _ _ _ _ _ _ _ _ (ws.length : Int) true 0 ws 0 (doR_imp_old hat0 hnk) (by omega) (by decide) (by decide) (by omega) (by first | omega | (simp; omega)) (by decide) (by omega) hitb.ok hwo (m85.into [(1, 1), (2, 2), (3, 3), (4, 101)] (by decide) rfl)) ?_
            rintro e w225 ⟨rl225, rf225, rn225, p1225, d1225, p2225, d2225, p3225, d3225, rfl, hr225, hm225⟩
            have mx225 := m85.back hm225 [(1, 1), (2, 2), (3, 3), (101, 4), (103, 5), (104, 6), (105, 7)] (by decide); clear hm225 m85
            have m225 : MemOk _ _ [(1, _), (2, _), (3, _), (101, _), (103, _), (104, _), (105, _), (8, _), (100, _), (102, _)] _ := mx225.only [1, 2, 3, 101, 103, 104, 105, 8, 100, 102]; clear mx225
            refine ⟨_, rfl, fun a226 ha226 => ?_⟩; clear ha224 a224
            refine hK _ _ ?_; clear hK K
            obtain ⟨-, rfl, rfl, rfl⟩ := hr225.resolve_left (fun h => h.1 rfl)
            have m227 := m225.freezeS 105 rfl (by simp [cx]); clear m225
            refine st_y ha226 rfl (y_move ha226 rfl) ?_
            clear ha226 a226; intro a228 ha228
            refine st_y ha228 rfl (y_extract ha228 rfl rfl) ?_
            clear ha228 a228; intro a229 ha229
            refine st_y ha229 rfl (y_extract ha229 rfl rfl) ?_
            clear ha229 a229; intro a230 ha230
            refine wpList_plain rfl (fun K hK => ?_)
            refine e_alloc ha230 m227 106 zc34vi rfl ?_
            clear ha230 a230 m227; intro g231 a232 w232 ha232 m232 hB232 hg232
            clear hB232 hg232
            refine hK _ _ ?_; clear hK K
            refine wpList_plain rfl (fun K hK => ?_)
            refine e_alloc ha232 m232 107 zc45vi rfl ?_
            clear ha232 a232 m232; intro g233 a234 w234 ha234 m234 hB234 hg234
            clear hB234 hg234
            refine hK _ _ ?_; clear hK K
            refine wpList_plain rfl (fun K hK => ?_)
            refine e_storeW ha234 m234 106 rfl rfl rfl rfl rfl sz34vi ?_
            clear m234; intro w235 m235 hB235
            clear hB235
            refine hK _ _ ?_; clear hK K
            refine wpList_plain rfl (fun K hK => ?_)
            refine e_storeW ha234 m235 107 rfl rfl rfl rfl rfl sz45vi ?_
            clear m235; intro w236 m236 hB236
            clear hB236
            refine hK _ _ ?_; clear hK K
            refine wpList_nil ?_
            refine hK34 _ _ ?_; clear hK34; try clear K34
            refine wp_seq_k (fun K35 hK35 => ?_)
            refine wp_block ?_
            refine wp_seq_k (fun K36 hK36 => ?_)
            have ha237 : Has 183 [(2, _), (7, _), (8, _), (10, _), (11, _), (12, _), (13, _), (14, _), (69, _), (15, _), (16, _)] a234 := ha234.only [2, 7, 8, 10, 11, 12, 13, 14, 69, 15, 16]; clear ha234
            refine wp_region_lit ?_
            refine st_y ha237 rfl (y_fieldAddr ha237 (off := 0) rfl Try.underlying25 rfl (s := 0) (by kernel_rfl) rfl) ?_
            clear ha237 a234; intro a238 ha238
            refine st_y ha238 rfl (y_loadB1 ha238 m236 (i := 102) rfl rfl rfl Try.underlying3 rfl) ?_
            clear ha238 a238; intro a239 ha239
            refine st_y ha239 rfl (y_eql ha239 rfl rfl) ?_
            clear ha239 a239; intro a240 ha240
            refine st_y ha240 rfl (y_assign ha240 rfl) ?_
            clear ha240 a240; intro a241 ha241
            refine wpList_nil ?_
            refine hK36 _ _ ?_; clear hK36; try clear K36
            refine bool_cases ha241 (t := 86) rfl (fun hb242 ha242 => ?_) (fun hb242 ha242 => ?_)
            · exact absurd hb242 (by first | decide | (simp; done) | (simp; omega) | (simp [hnk]; done) | (simp [hnk.1]; done) | (simp_all; done))
            clear ha241 hb242
            refine wp_cond_false (ha242.ev (x := .tmp 86) rfl) ?_
            refine wp_seq_k (fun K37 hK37 => ?_)
            refine wp_region_lit ?_
            refine st_y ha242 rfl (y_move ha242 rfl) ?_
            clear ha242 a241; intro a243 ha243
            refine st_y ha243 rfl (y_move ha243 rfl) ?_
            clear ha243 a243; intro a244 ha244
            refine st_y ha244 rfl (y_lss ha244 rfl rfl) ?_
            clear ha244 a244; intro a245 ha245
            refine st_y ha245 rfl (y_assign ha245 rfl) ?_
            clear ha245 a245; intro a246 ha246
            refine wpList_nil ?_
            refine hK37 _ _ ?_; clear hK37; try clear K37
            refine bool_cases ha246 (t := 125) rfl (fun hb247 ha247 => ?_) (fun hb247 ha247 => ?_)
            rotate_left
            · exact absurd hb247 (by first | decide | (simp; done) | (simp; omega) | (simp [hnk]; done) | (simp [hnk.1]; done) | (simp_all; done))
            clear ha246 hb247
            refine wp_cond_true (ha247.ev (x := .tmp 125) rfl) ?_
            refine wp_seq_k (fun K38 hK38 => ?_)
            have ha248 : Has 183 [(2, _), (7, _), (8, _), (10, _), (11, _), (12, _), (13, _), (69, _), (15, _), (16, _)] a246 := ha247.only [2, 7, 8, 10, 11, 12, 13, 69, 15, 16]; clear ha247
            refine wp_region_lit ?_
            refine st_y ha248 rfl (y_fieldAddr ha248 (off := 0) rfl Try.underlying45 rfl (s := 0) (by kernel_rfl) rfl) ?_
            clear ha248 a246; intro a249 ha249
            refine st_y ha249 rfl (y_loadB1 ha249 m236 (i := 107) rfl rfl rfl Try.underlying35 rfl) ?_
            clear ha249 a249; intro a250 ha250
            refine st_y ha250 rfl (y_neq ha250 rfl rfl) ?_
            clear ha250 a250; intro a251 ha251
            refine st_y ha251 rfl (y_move ha251 rfl) ?_
            clear ha251 a251; intro a252 ha252
            refine bool_cases ha252 (t := 132) rfl (fun hb253 ha253 => ?_) (fun hb253 ha253 => ?_)
            · exact absurd hb253 (by first | decide | (simp; done) | (simp; omega) | (simp [hnk]; done) | (simp [hnk.1]; done) | (simp_all; done))
            clear ha252 hb253
            refine st_g ha253 rfl rfl rfl rfl (y_fieldAddr ha253 (off := 3) rfl Try.underlying45 rfl (s := 0) (by kernel_rfl) rfl) ?_
            clear ha253 a252; intro a254 ha254
            refine st_g ha254 rfl rfl rfl rfl (y_loadB1 ha254 m236 (i := 107) rfl rfl rfl Try.underlying3 rfl) ?_
            clear ha254 a254; intro a255 ha255
            refine st_g ha255 rfl rfl rfl rfl (y_move ha255 rfl) ?_
            clear ha255 a255; intro a256 ha256
            refine st_g ha256 rfl rfl rfl rfl (y_neq ha256 rfl rfl) ?_
            clear ha256 a256; intro a257 ha257
            refine st_y ha257 rfl (y_pickF ha257 rfl rfl) ?_
            clear ha257 a257; intro a258 ha258
            refine st_y ha258 rfl (y_move ha258 rfl) ?_
            clear ha258 a258; intro a259 ha259
            refine bool_cases ha259 (t := 138) rfl (fun hb260 ha260 => ?_) (fun hb260 ha260 => ?_)
            · exact absurd hb260 (by first | decide | (simp; done) | (simp; omega) | (simp [hnk]; done) | (simp [hnk.1]; done) | (simp_all; done))
            clear ha259 hb260
            refine st_g ha260 rfl rfl rfl rfl (y_loadBR ha260 m236 (i := 106) rfl rfl Try.underlying34 rfl sz34vi (by simp) (by dsimp only [List.drop, List.take] <;> rfl)) ?_
            clear ha260 a259; intro a261 ha261
            refine st_g ha261 rfl rfl rfl rfl (y_loadBR ha261 m236 (i := 8) rfl rfl Try.underlying34 rfl sz34vi (by simp) (by dsimp only [List.drop, List.take] <;> rfl)) ?_
            clear ha261 a261; intro a262 ha262
            refine st_ge ha262 rfl rfl rfl rfl (fun K hK => ?_)
            refine e_call ha262 Try.func13 rfl rfl rfl rfl (rsame_any 0 bl z pe kk (ws.length : Int) 0 true place [] ws _ _ _ _ _ _ _ _ _ _ _ _ _ _ _ (by omega) (by decide) (by omega) (fun e he => (hwo e he).1) ((m236.rd (i := 103) rfl).any) ((m236.rd (i := 104) rfl).any) ((m236.rd (i := 105) rfl).any) ((m236.rd (i := 1) rfl).any) ((m236.rd (i := 2) rfl).any) ((m236.rd (i := 3) rfl).any)) ?_
            rintro e w263 ⟨rfl, hb263⟩
            have m264 := m236.later hb263
            clear m236
            clear hb263
            refine ⟨_, rfl, fun a265 ha265 => ?_⟩; clear ha262 a262
            refine hK _ _ ?_; clear hK K
            refine st_g ha265 rfl rfl rfl rfl (y_not ha265 rfl) ?_
            clear ha265 a265; intro a266 ha266
            refine st_y ha266 rfl (y_pickF ha266 rfl rfl) ?_
            clear ha266 a266; intro a267 ha267
            refine wpList_nil ?_
            refine hK38 _ _ ?_; clear hK38; try clear K38
            refine wp_cond_false (ha267.ev (x := .tmp 143) rfl) ?_
            refine wp_skip ?_
            refine hK35 _ _ ?_; clear hK35; try clear K35
            refine wp_seq_k (fun K39 hK39 => ?_)
            have ha268 : Has 183 [(2, _), (7, _), (8, _), (10, _), (11, _), (13, _), (69, _), (15, _)] a267 := ha267.only [2, 7, 8, 10, 11, 13, 69, 15]; clear ha267
            refine wp_region_lit ?_
            refine st_y ha268 rfl (y_loadBR ha268 m264 (i := 106) rfl rfl Try.underlying34 rfl sz34vi (by simp) (by dsimp only [List.drop, List.take] <;> rfl)) ?_
            clear ha268 a267; intro a269 ha269
            refine wpList_plain rfl (fun K hK => ?_)
            refine e_storeW ha269 m264 8 rfl rfl rfl rfl rfl sz34vi ?_
            clear m264; intro w270 m270 hB270
            clear hB270
            refine hK _ _ ?_; clear hK K
            refine wpList_nil ?_
            refine hK39 _ _ ?_; clear hK39; try clear K39
            refine wp_seq_k (fun K40 hK40 => ?_)
            refine wp_region_lit ?_
            refine st_y ha269 rfl (y_loadBR ha269 m270 (i := 8) rfl rfl Try.underlying34 rfl sz34vi (by simp) (by dsimp only [List.drop, List.take] <;> rfl)) ?_
            clear ha269 a269; intro a271 ha271
            refine st_y ha271 rfl (y_move ha271 rfl) ?_
            clear ha271 a271; intro a272 ha272
            refine st_y ha272 rfl (y_build ha272 rfl zc25vi fl25vi rfl (by dsimp only [setL, List.set] <;> rfl)) ?_
            clear ha272 a272; intro a273 ha273
            refine wpList_plain rfl (fun K hK => ?_)
            refine e_call ha273 Try.func16 rfl rfl rfl rfl (xDo_is _ 0 bl z pe kk (ws.length : Int) 0 true place [] ws it _ _ _ _ _ _ _ _ 2 _ _ _ _ _ _ _ _ _ _ _ (ws.length : Int) true 0 ws 28 doR_put_hid (by omega) (by decide) (by decide) (by omega) (by first | omega | (simp; omega)) (by decide) (by omega) hitb.ok hwo (m270.into [(1, 103), (2, 104), (3, 105), (4, 101)] (by decide) rfl)) ?_
            rintro e w274 ⟨rl274, rf274, rn274, p1274, d1274, p2274, d2274, p3274, d3274, rfl, hr274, hm274⟩
            have mx274 := m270.back hm274 [(103, 1), (104, 2), (105, 3), (101, 4), (108, 5), (109, 6), (110, 7)] (by decide); clear hm274 m270
            have m274 : MemOk _ _ [(103, _), (104, _), (105, _), (101, _), (108, _), (109, _), (110, _), (1, _), (2, _), (3, _), (8, _), (100, _), (102, _), (106, _), (107, _)] _ := mx274.only [103, 104, 105, 101, 108, 109, 110, 1, 2, 3, 8, 100, 102, 106, 107]; clear mx274
            refine ⟨_, rfl, fun a275 ha275 => ?_⟩; clear ha273 a273
            refine hK _ _ ?_; clear hK K
            obtain ⟨-, rfl, rfl, rfl⟩ := hr274.resolve_right (fun h => absurd h.1 (by decide))
            have m276 := m274.freezeS 110 rfl (by simp [cx]); clear m274
            refine st_y ha275 rfl (y_move ha275 rfl) ?_
            clear ha275 a275; intro a277 ha277
            refine st_y ha277 rfl (y_extract ha277 rfl rfl) ?_
            clear ha277 a277; intro a278 ha278
            refine st_y ha278 rfl (y_extract ha278 rfl rfl) ?_
            clear ha278 a278; intro a279 ha279
            refine wpList_plain rfl (fun K hK => ?_)
            refine e_alloc ha279 m276 111 zc34vi rfl ?_
            clear ha279 a279 m276; intro g280 a281 w281 ha281 m281 hB281 hg281
            clear hB281 hg281
            refine hK _ _ ?_; clear hK K
            refine wpList_plain rfl (fun K hK => ?_)
            refine e_alloc ha281 m281 112 zc45vi rfl ?_
            clear ha281 a281 m281; intro g282 a283 w283 ha283 m283 hB283 hg283
            clear hB283 hg283
            refine hK _ _ ?_; clear hK K
            refine wpList_plain rfl (fun K hK => ?_)
            refine e_storeW ha283 m283 111 rfl rfl rfl rfl rfl sz34vi ?_
            clear m283; intro w284 m284 hB284
            clear hB284
            refine hK _ _ ?_; clear hK K
            refine wpList_plain rfl (fun K hK => ?_)
            refine e_storeW ha283 m284 112 rfl rfl rfl rfl rfl sz45vi ?_
            clear m284; intro w285 m285 hB285
            clear hB285
            refine hK _ _ ?_; clear hK K
            refine wpList_nil ?_
            refine hK40 _ _ ?_; clear hK40; try clear K40
            refine wp_seq_k (fun K41 hK41 => ?_)
            have ha286 : Has 183 [(2, _), (7, _), (8, _), (10, _), (11, _), (69, _), (18, _)] a283 := ha283.only [2, 7, 8, 10, 11, 69, 18]; clear ha283
            refine wp_region_lit ?_
            refine st_y ha286 rfl (y_fieldAddr ha286 (off := 0) rfl Try.underlying45 rfl (s := 0) (by kernel_rfl) rfl) ?_
            clear ha286 a283; intro a287 ha287
            refine st_y ha287 rfl (y_loadB1 ha287 m285 (i := 112) rfl rfl rfl Try.underlying35 rfl) ?_
            clear ha287 a287; intro a288 ha288
            refine st_y ha288 rfl (y_neq ha288 rfl rfl) ?_
            clear ha288 a288; intro a289 ha289
            refine wpList_nil ?_
            refine hK41 _ _ ?_; clear hK41; try clear K41
            refine bool_cases ha289 (t := 180) rfl (fun hb290 ha290 => ?_) (fun hb290 ha290 => ?_)
            · exact absurd hb290 (by first | decide | (simp; done) | (simp; omega) | (simp [hnk]; done) | (simp [hnk.1]; done) | (simp_all; done))
            clear ha289 hb290
            refine wp_cond_false (ha290.ev (x := .tmp 180) rfl) ?_
            refine wp_skip ?_
            refine hK13 _ _ ?_; clear hK13; try clear K13
            refine wp_region_lit ?_
            refine st_y ha290 rfl (y_move ha290 rfl) ?_
            clear ha290 a289; intro a291 ha291
            refine st_y ha291 rfl (y_add ha291 rfl rfl (r := ((i + 1 : Nat) : Int)) (by rw [IntWalk.i64_in _ (by omega)]; omega)) ?_
            clear ha291 a291; intro a292 ha292
            refine st_y ha292 rfl (y_assign ha292 rfl) ?_
            clear ha292 a292; intro a293 ha293
            refine wpList_nil ?_
            show ∃ n', n' < _ ∧ _
            exact ⟨order.length - (i + 1), by omega, i + 1, _, ws, _, _, _, _, _, _, by omega, rfl, hwk, hwb, hwp, ha293.only [2, 7, 8, 10, 11], m285.ren [(8, 8), (1, 103), (2, 104), (3, 105)] (by decide)⟩
          · skip
            obtain ⟨ws2, hws2⟩ : ∃ x, ws ++ [((ws.length : Int) + 1, it)] = x := ⟨_, rfl⟩
            have hl2 : (ws2.length : Int) = ws.length + 1 := by rw [← hws2]; simp
            have hwb2 : WrsB ws2 := by rw [← hws2]; exact wrsB_snoc hwb hit8 hitb
            have hwp2 : WrPre bl z ws2 ws2.length := by rw [← hws2, List.length_append]; exact wrpre_app hwp hI
            have hwo2 := hwb2.ok
            have ha294 : Has 183 [(2, _), (7, _), (8, _), (10, _), (11, _), (12, _), (13, _), (14, _), (69, _)] a91 := ha92.only [2, 7, 8, 10, 11, 12, 13, 14, 69]; clear ha92
            refine wp_region_lit ?_
            refine st_y ha294 rfl (y_loadBR ha294 m85 (i := 8) rfl rfl Try.underlying34 rfl sz34vi (by simp) (by dsimp only [List.drop, List.take] <;> rfl)) ?_
            clear ha294 a91; intro a295 ha295
            refine st_y ha295 rfl (y_loadBR ha295 m85 (i := 102) rfl rfl Try.underlying25 rfl sz25vi (by simp) (by dsimp only [List.drop, List.take] <;> rfl)) ?_
            clear ha295 a295; intro a296 ha296
            refine wpList_plain rfl (fun K hK => ?_)
            refine e_call ha296 Try.func16 rfl rfl rfl rfl (xDo_is _ 0 bl z pe kk (ws.length : Int) 0 true place [] ws it _ _ _ _ _ _ _ _ 6 _ _ _ _ _ _ _ _ _ _ _ (ws2.length : Int) true 0 ws2 0 (doR_imp_yes2 hnk.1 (by omega) hI hws2 hl2) (by omega) (by decide) (by decide) (by omega) (by first | omega | (simp; omega)) (by decide) (by omega) hitb.ok hwo (m85.into [(1, 1), (2, 2), (3, 3), (4, 101)] (by decide) rfl)) ?_
            rintro e w297 ⟨rl297, rf297, rn297, p1297, d1297, p2297, d2297, p3297, d3297, rfl, hr297, hm297⟩
            have mx297 := m85.back hm297 [(1, 1), (2, 2), (3, 3), (101, 4), (103, 5), (104, 6), (105, 7)] (by decide); clear hm297 m85
            have m297 : MemOk _ _ [(1, _), (2, _), (3, _), (101, _), (103, _), (104, _), (105, _), (8, _), (100, _), (102, _)] _ := mx297.only [1, 2, 3, 101, 103, 104, 105, 8, 100, 102]; clear mx297
            refine ⟨_, rfl, fun a298 ha298 => ?_⟩; clear ha296 a296
            refine hK _ _ ?_; clear hK K
            obtain ⟨-, rfl, rfl, rfl⟩ := hr297.resolve_left (fun h => h.1 rfl)
            have m299 := m297.freezeS 105 rfl (by simp [cx]); clear m297
            refine st_y ha298 rfl (y_move ha298 rfl) ?_
            clear ha298 a298; intro a300 ha300
            refine st_y ha300 rfl (y_extract ha300 rfl rfl) ?_
            clear ha300 a300; intro a301 ha301
            refine st_y ha301 rfl (y_extract ha301 rfl rfl) ?_
            clear ha301 a301; intro a302 ha302
            refine wpList_plain rfl (fun K hK => ?_)
            refine e_alloc ha302 m299 106 zc34vi rfl ?_
            clear ha302 a302 m299; intro g303 a304 w304 ha304 m304 hB304 hg304
            clear hB304 hg304
            refine hK _ _ ?_; clear hK K
            refine wpList_plain rfl (fun K hK => ?_)
            refine e_alloc ha304 m304 107 zc45vi rfl ?_
            clear ha304 a304 m304; intro g305 a306 w306 ha306 m306 hB306 hg306
            clear hB306 hg306
            refine hK _ _ ?_; clear hK K
            refine wpList_plain rfl (fun K hK => ?_)
            refine e_storeW ha306 m306 106 rfl rfl rfl rfl rfl sz34vi ?_
            clear m306; intro w307 m307 hB307
            clear hB307
            refine hK _ _ ?_; clear hK K
            refine wpList_plain rfl (fun K hK => ?_)
            refine e_storeW ha306 m307 107 rfl rfl rfl rfl rfl sz45vi ?_
            clear m307; intro w308 m308 hB308
            clear hB308
            refine hK _ _ ?_; clear hK K
            refine wpList_nil ?_
            refine hK34 _ _ ?_; clear hK34; try clear K34
            refine wp_seq_k (fun K42 hK42 => ?_)
            refine wp_block ?_
            refine wp_seq_k (fun K43 hK43 => ?_)
            have ha309 : Has 183 [(2, _), (7, _), (8, _), (10, _), (11, _), (12, _), (13, _), (14, _), (69, _), (15, _), (16, _)] a306 := ha306.only [2, 7, 8, 10, 11, 12, 13, 14, 69, 15, 16]; clear ha306
            refine wp_region_lit ?_
            refine st_y ha309 rfl (y_fieldAddr ha309 (off := 0) rfl Try.underlying25 rfl (s := 0) (by kernel_rfl) rfl) ?_
            clear ha309 a306; intro a310 ha310
            refine st_y ha310 rfl (y_loadB1 ha310 m308 (i := 102) rfl rfl rfl Try.underlying3 rfl) ?_
            clear ha310 a310; intro a311 ha311
            refine st_y ha311 rfl (y_eql ha311 rfl rfl) ?_
            clear ha311 a311; intro a312 ha312
            refine st_y ha312 rfl (y_assign ha312 rfl) ?_
            clear ha312 a312; intro a313 ha313
            refine wpList_nil ?_
            refine hK43 _ _ ?_; clear hK43; try clear K43
            refine bool_cases ha313 (t := 86) rfl (fun hb314 ha314 => ?_) (fun hb314 ha314 => ?_)
            · exact absurd hb314 (by first | decide | (simp; done) | (simp; omega) | (simp [hnk]; done) | (simp [hnk.1]; done) | (simp_all; done))
            clear ha313 hb314
            refine wp_cond_false (ha314.ev (x := .tmp 86) rfl) ?_
            refine wp_seq_k (fun K44 hK44 => ?_)
            refine wp_region_lit ?_
            refine st_y ha314 rfl (y_move ha314 rfl) ?_
            clear ha314 a313; intro a315 ha315
            refine st_y ha315 rfl (y_move ha315 rfl) ?_
            clear ha315 a315; intro a316 ha316
            refine st_y ha316 rfl (y_lss ha316 rfl rfl) ?_
            clear ha316 a316; intro a317 ha317
            refine st_y ha317 rfl (y_assign ha317 rfl) ?_
            clear ha317 a317; intro a318 ha318
            refine wpList_nil ?_
            refine hK44 _ _ ?_; clear hK44; try clear K44
            refine bool_cases ha318 (t := 125) rfl (fun hb319 ha319 => ?_) (fun hb319 ha319 => ?_)
            · exact absurd hb319 (by first | decide | (simp; done) | (simp; omega) | (simp [hnk]; done) | (simp [hnk.1]; done) | (simp_all; done))
            clear ha318 hb319
            refine wp_cond_false (ha319.ev (x := .tmp 125) rfl) ?_
            refine wp_seq_k (fun K45 hK45 => ?_)
            have ha320 : Has 183 [(2, _), (7, _), (8, _), (10, _), (11, _), (12, _), (13, _), (69, _), (15, _), (16, _)] a318 := ha319.only [2, 7, 8, 10, 11, 12, 13, 69, 15, 16]; clear ha319
            refine wp_region_lit ?_
            refine st_y ha320 rfl (y_move ha320 rfl) ?_
            clear ha320 a318; intro a321 ha321
            refine st_y ha321 rfl (y_move ha321 rfl) ?_
            clear ha321 a321; intro a322 ha322
            refine st_y ha322 rfl (y_eql ha322 rfl rfl) ?_
            clear ha322 a322; intro a323 ha323
            refine st_y ha323 rfl (y_move ha323 rfl) ?_
            clear ha323 a323; intro a324 ha324
            refine bool_cases ha324 (t := 148) rfl (fun hb325 ha325 => ?_) (fun hb325 ha325 => ?_)
            rotate_left
            · exact absurd hb325 (by first | decide | (simp; done) | (simp; omega) | (simp [hnk]; done) | (simp [hnk.1]; done) | (simp_all; done))
            clear ha324 hb325
            refine st_g ha325 rfl rfl rfl rfl (y_move ha325 rfl) ?_
            clear ha325 a324; intro a326 ha326
            refine st_g ha326 rfl rfl rfl rfl (y_move ha326 rfl) ?_
            clear ha326 a326; intro a327 ha327
            refine st_g ha327 rfl rfl rfl rfl (y_lss ha327 rfl rfl) ?_
            clear ha327 a327; intro a328 ha328
            refine st_y ha328 rfl (y_pickT ha328 rfl rfl) ?_
            clear ha328 a328; intro a329 ha329
            refine st_y ha329 rfl (y_assign ha329 rfl) ?_
            clear ha329 a329; intro a330 ha330
            refine wpList_nil ?_
            refine hK45 _ _ ?_; clear hK45; try clear K45
            refine bool_cases ha330 (t := 144) rfl (fun hb331 ha331 => ?_) (fun hb331 ha331 => ?_)
            rotate_left
            · exact absurd hb331 (by first | decide | (simp; done) | (simp; omega) | (simp [hnk]; done) | (simp [hnk.1]; done) | (simp_all; done))
            clear ha330 hb331
            refine wp_cond_true (ha331.ev (x := .tmp 144) rfl) ?_
            refine wp_seq_k (fun K46 hK46 => ?_)
            have ha332 : Has 183 [(2, _), (7, _), (8, _), (10, _), (11, _), (13, _), (69, _), (15, _), (16, _)] a330 := ha331.only [2, 7, 8, 10, 11, 13, 69, 15, 16]; clear ha331
            refine wp_region_lit ?_
            refine st_y ha332 rfl (y_move ha332 rfl) ?_
            clear ha332 a330; intro a333 ha333
            refine st_y ha333 rfl (y_add ha333 rfl rfl (r := (ws.length : Int) + 1) (IntWalk.i64_in _ (by omega))) ?_
            clear ha333 a333; intro a334 ha334
            refine st_y ha334 rfl (y_assign ha334 rfl) ?_
            clear ha334 a334; intro a335 ha335
            refine wpList_nil ?_
            refine hK46 _ _ ?_; clear hK46; try clear K46
            refine wp_seq_k (fun K47 hK47 => ?_)
            refine wp_region_lit ?_
            refine st_y ha335 rfl (y_fieldAddr ha335 (off := 0) rfl Try.underlying45 rfl (s := 0) (by kernel_rfl) rfl) ?_
            clear ha335 a335; intro a336 ha336
            refine st_y ha336 rfl (y_loadB1 ha336 m308 (i := 107) rfl rfl rfl Try.underlying35 rfl) ?_
            clear ha336 a336; intro a337 ha337
            refine st_y ha337 rfl (y_neq ha337 rfl rfl) ?_
            clear ha337 a337; intro a338 ha338
            refine st_y ha338 rfl (y_move ha338 rfl) ?_
            clear ha338 a338; intro a339 ha339
            refine bool_cases ha339 (t := 158) rfl (fun hb340 ha340 => ?_) (fun hb340 ha340 => ?_)
            · exact absurd hb340 (by first | decide | (simp; done) | (simp; omega) | (simp [hnk]; done) | (simp [hnk.1]; done) | (simp_all; done))
            clear ha339 hb340
            refine st_g ha340 rfl rfl rfl rfl (y_fieldAddr ha340 (off := 3) rfl Try.underlying45 rfl (s := 0) (by kernel_rfl) rfl) ?_
            clear ha340 a339; intro a341 ha341
            refine st_g ha341 rfl rfl rfl rfl (y_loadB1 ha341 m308 (i := 107) rfl rfl rfl Try.underlying3 rfl) ?_
            clear ha341 a341; intro a342 ha342
            refine st_g ha342 rfl rfl rfl rfl (y_move ha342 rfl) ?_
            clear ha342 a342; intro a343 ha343
            refine st_g ha343 rfl rfl rfl rfl (y_neq ha343 rfl rfl) ?_
            clear ha343 a343; intro a344 ha344
            refine st_y ha344 rfl (y_pickF ha344 rfl rfl) ?_
            clear ha344 a344; intro a345 ha345
            refine st_y ha345 rfl (y_move ha345 rfl) ?_
            clear ha345 a345; intro a346 ha346
            refine bool_cases ha346 (t := 164) rfl (fun hb347 ha347 => ?_) (fun hb347 ha347 => ?_)
            · exact absurd hb347 (by first | decide | (simp; done) | (simp; omega) | (simp [hnk]; done) | (simp [hnk.1]; done) | (simp_all; done))
            clear ha346 hb347
            refine st_g ha347 rfl rfl rfl rfl (y_fieldAddr ha347 (off := 1) rfl Try.underlying45 rfl (s := 0) (by kernel_rfl) rfl) ?_
            clear ha347 a346; intro a348 ha348
            refine st_g ha348 rfl rfl rfl rfl (y_loadB1 ha348 m308 (i := 107) rfl rfl rfl Try.underlying2 rfl) ?_
            clear ha348 a348; intro a349 ha349
            refine st_g ha349 rfl rfl rfl rfl (y_move ha349 rfl) ?_
            clear ha349 a349; intro a350 ha350
            refine st_g ha350 rfl rfl rfl rfl (y_neq ha350 rfl rfl) ?_
            clear ha350 a350; intro a351 ha351
            refine st_y ha351 rfl (y_pickF ha351 rfl rfl) ?_
            clear ha351 a351; intro a352 ha352
            refine wpList_nil ?_
            refine hK47 _ _ ?_; clear hK47; try clear K47
            refine bool_cases ha352 (t := 169) rfl (fun hb353 ha353 => ?_) (fun hb353 ha353 => ?_)
            · exact absurd hb353 (by first | decide | (simp; done) | (simp; omega) | (simp [hnk]; done) | (simp [hnk.1]; done) | (simp_all; done))
            clear ha352 hb353
            refine wp_cond_false (ha353.ev (x := .tmp 169) rfl) ?_
            refine wp_skip ?_
            refine hK42 _ _ ?_; clear hK42; try clear K42
            refine wp_seq_k (fun K48 hK48 => ?_)
            have ha354 : Has 183 [(2, _), (7, _), (8, _), (10, _), (11, _), (13, _), (69, _), (15, _)] a352 := ha353.only [2, 7, 8, 10, 11, 13, 69, 15]; clear ha353
            refine wp_region_lit ?_
            refine st_y ha354 rfl (y_loadBR ha354 m308 (i := 106) rfl rfl Try.underlying34 rfl sz34vi (by simp) (by dsimp only [List.drop, List.take] <;> rfl)) ?_
            clear ha354 a352; intro a355 ha355
            refine wpList_plain rfl (fun K hK => ?_)
            refine e_storeW ha355 m308 8 rfl rfl rfl rfl rfl sz34vi ?_
            clear m308; intro w356 m356 hB356
            clear hB356
            refine hK _ _ ?_; clear hK K
            refine wpList_nil ?_
            refine hK48 _ _ ?_; clear hK48; try clear K48
            refine wp_seq_k (fun K49 hK49 => ?_)
            refine wp_region_lit ?_
            refine st_y ha355 rfl (y_loadBR ha355 m356 (i := 8) rfl rfl Try.underlying34 rfl sz34vi (by simp) (by dsimp only [List.drop, List.take] <;> rfl)) ?_
            clear ha355 a355; intro a357 ha357
            refine st_y ha357 rfl (y_move ha357 rfl) ?_
            clear ha357 a357; intro a358 ha358
            refine st_y ha358 rfl (y_build ha358 rfl zc25vi fl25vi rfl (by dsimp only [setL, List.set] <;> rfl)) ?_
            clear ha358 a358; intro a359 ha359
            refine wpList_plain rfl (fun K hK => ?_)
            refine e_call ha359 Try.func16 rfl rfl rfl rfl (xDo_is _ 0 bl z pe kk (ws2.length : Int) 0 true place [] ws2 it _ _ _ _ _ _ _ _ 2 _ _ _ _ _ _ _ _ _ _ _ (ws2.length : Int) true 0 ws2 28 doR_put_hid (by omega) (by decide) (by decide) (by omega) (by first | omega | (simp; omega)) (by decide) (by omega) hitb.ok hwo2 (m356.into [(1, 103), (2, 104), (3, 105), (4, 101)] (by decide) rfl)) ?_
            rintro e w360 ⟨rl360, rf360, rn360, p1360, d1360, p2360, d2360, p3360, d3360, rfl, hr360, hm360⟩
            have mx360 := m356.back hm360 [(103, 1), (104, 2), (105, 3), (101, 4), (108, 5), (109, 6), (110, 7)] (by decide); clear hm360 m356
            have m360 : MemOk _ _ [(103, _), (104, _), (105, _), (101, _), (108, _), (109, _), (110, _), (1, _), (2, _), (3, _), (8, _), (100, _), (102, _), (106, _), (107, _)] _ := mx360.only [103, 104, 105, 101, 108, 109, 110, 1, 2, 3, 8, 100, 102, 106, 107]; clear mx360
            refine ⟨_, rfl, fun a361 ha361 => ?_⟩; clear ha359 a359
            refine hK _ _ ?_; clear hK K
            obtain ⟨-, rfl, rfl, rfl⟩ := hr360.resolve_right (fun h => absurd h.1 (by decide))
            have m362 := m360.freezeS 110 rfl (by simp [cx]); clear m360
            refine st_y ha361 rfl (y_move ha361 rfl) ?_
            clear ha361 a361; intro a363 ha363
            refine st_y ha363 rfl (y_extract ha363 rfl rfl) ?_
            clear ha363 a363; intro a364 ha364
            refine st_y ha364 rfl (y_extract ha364 rfl rfl) ?_
            clear ha364 a364; intro a365 ha365
            refine wpList_plain rfl (fun K hK => ?_)
            refine e_alloc ha365 m362 111 zc34vi rfl ?_
            clear ha365 a365 m362; intro g366 a367 w367 ha367 m367 hB367 hg367
            clear hB367 hg367
            refine hK _ _ ?_; clear hK K
            refine wpList_plain rfl (fun K hK => ?_)
            refine e_alloc ha367 m367 112 zc45vi rfl ?_
            clear ha367 a367 m367; intro g368 a369 w369 ha369 m369 hB369 hg369
            clear hB369 hg369
            refine hK _ _ ?_; clear hK K
            refine wpList_plain rfl (fun K hK => ?_)
            refine e_storeW ha369 m369 111 rfl rfl rfl rfl rfl sz34vi ?_
            clear m369; intro w370 m370 hB370
            clear hB370
            refine hK _ _ ?_; clear hK K
            refine wpList_plain rfl (fun K hK => ?_)
            refine e_storeW ha369 m370 112 rfl rfl rfl rfl rfl sz45vi ?_
            clear m370; intro w371 m371 hB371
            clear hB371
            refine hK _ _ ?_; clear hK K
            refine wpList_nil ?_
            refine hK49 _ _ ?_; clear hK49; try clear K49
            refine wp_seq_k (fun K50 hK50 => ?_)
            have ha372 : Has 183 [(2, _), (7, _), (8, _), (10, _), (11, _), (69, _), (18, _)] a369 := ha369.only [2, 7, 8, 10, 11, 69, 18]; clear ha369
            refine wp_region_lit ?_
            refine st_y ha372 rfl (y_fieldAddr ha372 (off := 0) rfl Try.underlying45 rfl (s := 0) (by kernel_rfl) rfl) ?_
            clear ha372 a369; intro a373 ha373
            refine st_y ha373 rfl (y_loadB1 ha373 m371 (i := 112) rfl rfl rfl Try.underlying35 rfl) ?_
            clear ha373 a373; intro a374 ha374
            refine st_y ha374 rfl (y_neq ha374 rfl rfl) ?_
            clear ha374 a374; intro a375 ha375
            refine wpList_nil ?_
            refine hK50 _ _ ?_; clear hK50; try clear K50
            refine bool_cases ha375 (t := 180) rfl (fun hb376 ha376 => ?_) (fun hb376 ha376 => ?_)
            · exact absurd hb376 (by first | decide | (simp; done) | (simp; omega) | (simp [hnk]; done) | (simp [hnk.1]; done) | (simp_all; done))
            clear ha375 hb376
            refine wp_cond_false (ha376.ev (x := .tmp 180) rfl) ?_
            refine wp_skip ?_
            refine hK13 _ _ ?_; clear hK13; try clear K13
            refine wp_region_lit ?_
            refine st_y ha376 rfl (y_move ha376 rfl) ?_
            clear ha376 a375; intro a377 ha377
            refine st_y ha377 rfl (y_add ha377 rfl rfl (r := ((i + 1 : Nat) : Int)) (by rw [IntWalk.i64_in _ (by omega)]; omega)) ?_
            clear ha377 a377; intro a378 ha378
            refine st_y ha378 rfl (y_assign ha378 rfl) ?_
            clear ha378 a378; intro a379 ha379
            refine wpList_nil ?_
            show ∃ n', n' < _ ∧ _
            rw [← hl2] at ha379
            exact ⟨order.length - (i + 1), by omega, i + 1, _, ws2, _, _, _, _, _, _, by omega, rfl, by omega, hwb2, hwp2, ha379.only [2, 7, 8, 10, 11], m371.ren [(8, 8), (1, 103), (2, 104), (3, 105)] (by decide)⟩
          · skip
            have ha380 : Has 183 [(2, _), (7, _), (8, _), (10, _), (11, _), (12, _), (13, _), (14, _), (69, _)] a91 := ha92.only [2, 7, 8, 10, 11, 12, 13, 14, 69]; clear ha92
            refine wp_region_lit ?_
            refine st_y ha380 rfl (y_loadBR ha380 m85 (i := 8) rfl rfl Try.underlying34 rfl sz34vi (by simp) (by dsimp only [List.drop, List.take] <;> rfl)) ?_
            clear ha380 a91; intro a381 ha381
            refine st_y ha381 rfl (y_loadBR ha381 m85 (i := 102) rfl rfl Try.underlying25 rfl sz25vi (by simp) (by dsimp only [List.drop, List.take] <;> rfl)) ?_
            clear ha381 a381; intro a382 ha382
            refine wpList_plain rfl (fun K hK => ?_)
            refine e_call ha382 Try.func16 rfl rfl rfl rfl (xDo_is _ 0 bl z pe kk (ws.length : Int) 0 true place [] ws it _ _ _ _ _ _ _ _ 6 _ _ _ _ _ _ _ _ _ _ _ (ws.length : Int) true 0 ws 33 (doR_imp_gap (by omega) (by omega)) (by omega) (by decide) (by decide) (by omega) (by first | omega | (simp; omega)) (by decide) (by omega) hitb.ok hwo (m85.into [(1, 1), (2, 2), (3, 3), (4, 101)] (by decide) rfl)) ?_
            rintro e w383 ⟨rl383, rf383, rn383, p1383, d1383, p2383, d2383, p3383, d3383, rfl, hr383, hm383⟩
            have mx383 := m85.back hm383 [(1, 1), (2, 2), (3, 3), (101, 4), (103, 5), (104, 6), (105, 7)] (by decide); clear hm383 m85
            have m383 : MemOk _ _ [(1, _), (2, _), (3, _), (101, _), (103, _), (104, _), (105, _), (8, _), (100, _), (102, _)] _ := mx383.only [1, 2, 3, 101, 103, 104, 105, 8, 100, 102]; clear mx383
            refine ⟨_, rfl, fun a384 ha384 => ?_⟩; clear ha382 a382
            refine hK _ _ ?_; clear hK K
            obtain ⟨-, rfl, rfl, rfl⟩ := hr383.resolve_right (fun h => absurd h.1 (by decide))
            have m385 := m383.freezeS 105 rfl (by simp [cx]); clear m383
            refine st_y ha384 rfl (y_move ha384 rfl) ?_
            clear ha384 a384; intro a386 ha386
            refine st_y ha386 rfl (y_extract ha386 rfl rfl) ?_
            clear ha386 a386; intro a387 ha387
            refine st_y ha387 rfl (y_extract ha387 rfl rfl) ?_
            clear ha387 a387; intro a388 ha388
            refine wpList_plain rfl (fun K hK => ?_)
            refine e_alloc ha388 m385 106 zc34vi rfl ?_
            clear ha388 a388 m385; intro g389 a390 w390 ha390 m390 hB390 hg390
            clear hB390 hg390
            refine hK _ _ ?_; clear hK K
            refine wpList_plain rfl (fun K hK => ?_)
            refine e_alloc ha390 m390 107 zc45vi rfl ?_
            clear ha390 a390 m390; intro g391 a392 w392 ha392 m392 hB392 hg392
            clear hB392 hg392
            refine hK _ _ ?_; clear hK K
            refine wpList_plain rfl (fun K hK => ?_)
            refine e_storeW ha392 m392 106 rfl rfl rfl rfl rfl sz34vi ?_
            clear m392; intro w393 m393 hB393
            clear hB393
            refine hK _ _ ?_; clear hK K
            refine wpList_plain rfl (fun K hK => ?_)
            refine e_storeW ha392 m393 107 rfl rfl rfl rfl rfl sz45vi ?_
            clear m393; intro w394 m394 hB394
            clear hB394
            refine hK _ _ ?_; clear hK K
            refine wpList_nil ?_
            refine hK34 _ _ ?_; clear hK34; try clear K34
            refine wp_seq_k (fun K51 hK51 => ?_)
            refine wp_block ?_
            refine wp_seq_k (fun K52 hK52 => ?_)
            have ha395 : Has 183 [(2, _), (7, _), (8, _), (10, _), (11, _), (12, _), (13, _), (14, _), (69, _), (15, _), (16, _)] a392 := ha392.only [2, 7, 8, 10, 11, 12, 13, 14, 69, 15, 16]; clear ha392
            refine wp_region_lit ?_
            refine st_y ha395 rfl (y_fieldAddr ha395 (off := 0) rfl Try.underlying25 rfl (s := 0) (by kernel_rfl) rfl) ?_
            clear ha395 a392; intro a396 ha396
            refine st_y ha396 rfl (y_loadB1 ha396 m394 (i := 102) rfl rfl rfl Try.underlying3 rfl) ?_
            clear ha396 a396; intro a397 ha397
            refine st_y ha397 rfl (y_eql ha397 rfl rfl) ?_
            clear ha397 a397; intro a398 ha398
            refine st_y ha398 rfl (y_assign ha398 rfl) ?_
            clear ha398 a398; intro a399 ha399
            refine wpList_nil ?_
            refine hK52 _ _ ?_; clear hK52; try clear K52
            refine bool_cases ha399 (t := 86) rfl (fun hb400 ha400 => ?_) (fun hb400 ha400 => ?_)
            · exact absurd hb400 (by first | decide | (simp; done) | (simp; omega) | (simp [hnk]; done) | (simp [hnk.1]; done) | (simp_all; done))
            clear ha399 hb400
            refine wp_cond_false (ha400.ev (x := .tmp 86) rfl) ?_
            refine wp_seq_k (fun K53 hK53 => ?_)
            refine wp_region_lit ?_
            refine st_y ha400 rfl (y_move ha400 rfl) ?_
            clear ha400 a399; intro a401 ha401
            refine st_y ha401 rfl (y_move ha401 rfl) ?_
            clear ha401 a401; intro a402 ha402
            refine st_y ha402 rfl (y_lss ha402 rfl rfl) ?_
            clear ha402 a402; intro a403 ha403
            refine st_y ha403 rfl (y_assign ha403 rfl) ?_
            clear ha403 a403; intro a404 ha404
            refine wpList_nil ?_
            refine hK53 _ _ ?_; clear hK53; try clear K53
            refine bool_cases ha404 (t := 125) rfl (fun hb405 ha405 => ?_) (fun hb405 ha405 => ?_)
            · exact absurd hb405 (by first | decide | (simp; done) | (simp; omega) | (simp [hnk]; done) | (simp [hnk.1]; done) | (simp_all; done))
            clear ha404 hb405
            refine wp_cond_false (ha405.ev (x := .tmp 125) rfl) ?_
            refine wp_seq_k (fun K54 hK54 => ?_)
            have ha406 : Has 183 [(2, _), (7, _), (8, _), (10, _), (11, _), (12, _), (13, _), (69, _), (15, _), (16, _)] a404 := ha405.only [2, 7, 8, 10, 11, 12, 13, 69, 15, 16]; clear ha405
            refine wp_region_lit ?_
            refine st_y ha406 rfl (y_move ha406 rfl) ?_
            clear ha406 a404; intro a407 ha407
            refine st_y ha407 rfl (y_move ha407 rfl) ?_
            clear ha407 a407; intro a408 ha408
            refine st_y ha408 rfl (y_eql ha408 rfl rfl) ?_
            clear ha408 a408; intro a409 ha409
            refine st_y ha409 rfl (y_move ha409 rfl) ?_
            clear ha409 a409; intro a410 ha410
            refine bool_cases ha410 (t := 148) rfl (fun hb411 ha411 => ?_) (fun hb411 ha411 => ?_)
            · skip
              clear ha410
              try simp only [decide_eq_true_eq, decide_eq_false_iff_not, Bool.not_eq_true, Bool.not_eq_false, Bool.not_eq_eq_eq_not, Bool.not_true, Bool.not_false, Bool.not_not, Int.not_lt, Int.not_le, ne_eq, Decidable.not_not] at hb411
              refine st_g ha411 rfl rfl rfl rfl (y_move ha411 rfl) ?_
              clear ha411 a410; intro a412 ha412
              refine st_g ha412 rfl rfl rfl rfl (y_move ha412 rfl) ?_
              clear ha412 a412; intro a413 ha413
              refine st_g ha413 rfl rfl rfl rfl (y_lss ha413 rfl rfl) ?_
              clear ha413 a413; intro a414 ha414
              refine st_y ha414 rfl (y_pickT ha414 rfl rfl) ?_
              clear ha414 a414; intro a415 ha415
              refine st_y ha415 rfl (y_assign ha415 rfl) ?_
              clear ha415 a415; intro a416 ha416
              refine wpList_nil ?_
              refine hK54 _ _ ?_; clear hK54; try clear K54
              refine bool_cases ha416 (t := 144) rfl (fun hb417 ha417 => ?_) (fun hb417 ha417 => ?_)
              · exact absurd hb417 (by first | decide | (simp; done) | (simp; omega) | (simp [hnk]; done) | (simp [hnk.1]; done) | (simp_all; done))
              clear ha416 hb417
              refine wp_cond_false (ha417.ev (x := .tmp 144) rfl) ?_
              refine wp_seq_k (fun K55 hK55 => ?_)
              have ha418 : Has 183 [(2, _), (7, _), (8, _), (10, _), (11, _), (13, _), (69, _), (15, _), (16, _)] a416 := ha417.only [2, 7, 8, 10, 11, 13, 69, 15, 16]; clear ha417
              refine wp_region_lit ?_
              refine st_y ha418 rfl (y_fieldAddr ha418 (off := 0) rfl Try.underlying45 rfl (s := 0) (by kernel_rfl) rfl) ?_
              clear ha418 a416; intro a419 ha419
              refine st_y ha419 rfl (y_loadB1 ha419 m394 (i := 107) rfl rfl rfl Try.underlying35 rfl) ?_
              clear ha419 a419; intro a420 ha420
              refine st_y ha420 rfl (y_neq ha420 rfl rfl) ?_
              clear ha420 a420; intro a421 ha421
              refine st_y ha421 rfl (y_move ha421 rfl) ?_
              clear ha421 a421; intro a422 ha422
              refine bool_cases ha422 (t := 80) rfl (fun hb423 ha423 => ?_) (fun hb423 ha423 => ?_)
              · exact absurd hb423 (by first | decide | (simp; done) | (simp; omega) | (simp [hnk]; done) | (simp [hnk.1]; done) | (simp_all; done))
              clear ha422 hb423
              refine st_g ha423 rfl rfl rfl rfl (y_loadBR ha423 m394 (i := 106) rfl rfl Try.underlying34 rfl sz34vi (by simp) (by dsimp only [List.drop, List.take] <;> rfl)) ?_
              clear ha423 a422; intro a424 ha424
              refine st_g ha424 rfl rfl rfl rfl (y_loadBR ha424 m394 (i := 8) rfl rfl Try.underlying34 rfl sz34vi (by simp) (by dsimp only [List.drop, List.take] <;> rfl)) ?_
              clear ha424 a424; intro a425 ha425
              refine st_ge ha425 rfl rfl rfl rfl (fun K hK => ?_)
              refine e_call ha425 Try.func13 rfl rfl rfl rfl (rsame_any 0 bl z pe kk (ws.length : Int) 0 true place [] ws _ _ _ _ _ _ _ _ _ _ _ _ _ _ _ (by omega) (by decide) (by omega) (fun e he => (hwo e he).1) ((m394.rd (i := 103) rfl).any) ((m394.rd (i := 104) rfl).any) ((m394.rd (i := 105) rfl).any) ((m394.rd (i := 1) rfl).any) ((m394.rd (i := 2) rfl).any) ((m394.rd (i := 3) rfl).any)) ?_
              rintro e w426 ⟨rfl, hb426⟩
              have m427 := m394.later hb426
              clear m394
              clear hb426
              refine ⟨_, rfl, fun a428 ha428 => ?_⟩; clear ha425 a425
              refine hK _ _ ?_; clear hK K
              refine st_g ha428 rfl rfl rfl rfl (y_not ha428 rfl) ?_
              clear ha428 a428; intro a429 ha429
              refine st_y ha429 rfl (y_pickF ha429 rfl rfl) ?_
              clear ha429 a429; intro a430 ha430
              refine wpList_nil ?_
              refine hK55 _ _ ?_; clear hK55; try clear K55
              refine wp_cond_false (ha430.ev (x := .tmp 85) rfl) ?_
              refine wp_skip ?_
              refine hK51 _ _ ?_; clear hK51; try clear K51
              refine wp_seq_k (fun K56 hK56 => ?_)
              have ha431 : Has 183 [(2, _), (7, _), (8, _), (10, _), (11, _), (13, _), (69, _), (15, _)] a430 := ha430.only [2, 7, 8, 10, 11, 13, 69, 15]; clear ha430
              refine wp_region_lit ?_
              refine st_y ha431 rfl (y_loadBR ha431 m427 (i := 106) rfl rfl Try.underlying34 rfl sz34vi (by simp) (by dsimp only [List.drop, List.take] <;> rfl)) ?_
              clear ha431 a430; intro a432 ha432
              refine wpList_plain rfl (fun K hK => ?_)
              refine e_storeW ha432 m427 8 rfl rfl rfl rfl rfl sz34vi ?_
              clear m427; intro w433 m433 hB433
              clear hB433
              refine hK _ _ ?_; clear hK K
              refine wpList_nil ?_
              refine hK56 _ _ ?_; clear hK56; try clear K56
              refine wp_seq_k (fun K57 hK57 => ?_)
              refine wp_region_lit ?_
              refine st_y ha432 rfl (y_loadBR ha432 m433 (i := 8) rfl rfl Try.underlying34 rfl sz34vi (by simp) (by dsimp only [List.drop, List.take] <;> rfl)) ?_
              clear ha432 a432; intro a434 ha434
              refine st_y ha434 rfl (y_move ha434 rfl) ?_
              clear ha434 a434; intro a435 ha435
              refine st_y ha435 rfl (y_build ha435 rfl zc25vi fl25vi rfl (by dsimp only [setL, List.set] <;> rfl)) ?_
              clear ha435 a435; intro a436 ha436
              refine wpList_plain rfl (fun K hK => ?_)
              refine e_call ha436 Try.func16 rfl rfl rfl rfl (xDo_is _ 0 bl z pe kk (ws.length : Int) 0 true place [] ws it _ _ _ _ _ _ _ _ 2 _ _ _ _ _ _ _ _ _ _ _ (ws.length : Int) true 0 ws 28 doR_put_hid (by omega) (by decide) (by decide) (by omega) (by first | omega | (simp; omega)) (by decide) (by omega) hitb.ok hwo (m433.into [(1, 103), (2, 104), (3, 105), (4, 101)] (by decide) rfl)) ?_
              rintro e w437 ⟨rl437, rf437, rn437, p1437, d1437, p2437, d2437, p3437, d3437, rfl, hr437, hm437⟩
              have mx437 := m433.back hm437 [(103, 1), (104, 2), (105, 3), (101, 4), (108, 5), (109, 6), (110, 7)] (by decide); clear hm437 m433
              have m437 : MemOk _ _ [(103, _), (104, _), (105, _), (101, _), (108, _), (109, _), (110, _), (1, _), (2, _), (3, _), (8, _), (100, _), (102, _), (106, _), (107, _)] _ := mx437.only [103, 104, 105, 101, 108, 109, 110, 1, 2, 3, 8, 100, 102, 106, 107]; clear mx437
              refine ⟨_, rfl, fun a438 ha438 => ?_⟩; clear ha436 a436
              refine hK _ _ ?_; clear hK K
              obtain ⟨-, rfl, rfl, rfl⟩ := hr437.resolve_right (fun h => absurd h.1 (by decide))
              have m439 := m437.freezeS 110 rfl (by simp [cx]); clear m437
              refine st_y ha438 rfl (y_move ha438 rfl) ?_
              clear ha438 a438; intro a440 ha440
              refine st_y ha440 rfl (y_extract ha440 rfl rfl) ?_
              clear ha440 a440; intro a441 ha441
              refine st_y ha441 rfl (y_extract ha441 rfl rfl) ?_
              clear ha441 a441; intro a442 ha442
              refine wpList_plain rfl (fun K hK => ?_)
              refine e_alloc ha442 m439 111 zc34vi rfl ?_
              clear ha442 a442 m439; intro g443 a444 w444 ha444 m444 hB444 hg444
              clear hB444 hg444
              refine hK _ _ ?_; clear hK K
              refine wpList_plain rfl (fun K hK => ?_)
              refine e_alloc ha444 m444 112 zc45vi rfl ?_
              clear ha444 a444 m444; intro g445 a446 w446 ha446 m446 hB446 hg446
              clear hB446 hg446
              refine hK _ _ ?_; clear hK K
              refine wpList_plain rfl (fun K hK => ?_)
              refine e_storeW ha446 m446 111 rfl rfl rfl rfl rfl sz34vi ?_
              clear m446; intro w447 m447 hB447
              clear hB447
              refine hK _ _ ?_; clear hK K
              refine wpList_plain rfl (fun K hK => ?_)
              refine e_storeW ha446 m447 112 rfl rfl rfl rfl rfl sz45vi ?_
              clear m447; intro w448 m448 hB448
              clear hB448
              refine hK _ _ ?_; clear hK K
              refine wpList_nil ?_
              refine hK57 _ _ ?_; clear hK57; try clear K57
              refine wp_seq_k (fun K58 hK58 => ?_)
              have ha449 : Has 183 [(2, _), (7, _), (8, _), (10, _), (11, _), (69, _), (18, _)] a446 := ha446.only [2, 7, 8, 10, 11, 69, 18]; clear ha446
              refine wp_region_lit ?_
              refine st_y ha449 rfl (y_fieldAddr ha449 (off := 0) rfl Try.underlying45 rfl (s := 0) (by kernel_rfl) rfl) ?_
              clear ha449 a446; intro a450 ha450
              refine st_y ha450 rfl (y_loadB1 ha450 m448 (i := 112) rfl rfl rfl Try.underlying35 rfl) ?_
              clear ha450 a450; intro a451 ha451
              refine st_y ha451 rfl (y_neq ha451 rfl rfl) ?_
              clear ha451 a451; intro a452 ha452
              refine wpList_nil ?_
              refine hK58 _ _ ?_; clear hK58; try clear K58
              refine bool_cases ha452 (t := 180) rfl (fun hb453 ha453 => ?_) (fun hb453 ha453 => ?_)
              · exact absurd hb453 (by first | decide | (simp; done) | (simp; omega) | (simp [hnk]; done) | (simp [hnk.1]; done) | (simp_all; done))
              clear ha452 hb453
              refine wp_cond_false (ha453.ev (x := .tmp 180) rfl) ?_
              refine wp_skip ?_
              refine hK13 _ _ ?_; clear hK13; try clear K13
              refine wp_region_lit ?_
              refine st_y ha453 rfl (y_move ha453 rfl) ?_
              clear ha453 a452; intro a454 ha454
              refine st_y ha454 rfl (y_add ha454 rfl rfl (r := ((i + 1 : Nat) : Int)) (by rw [IntWalk.i64_in _ (by omega)]; omega)) ?_
              clear ha454 a454; intro a455 ha455
              refine st_y ha455 rfl (y_assign ha455 rfl) ?_
              clear ha455 a455; intro a456 ha456
              refine wpList_nil ?_
              show ∃ n', n' < _ ∧ _
              exact ⟨order.length - (i + 1), by omega, i + 1, _, ws, _, _, _, _, _, _, by omega, rfl, hwk, hwb, hwp, ha456.only [2, 7, 8, 10, 11], m448.ren [(8, 8), (1, 103), (2, 104), (3, 105)] (by decide)⟩
            · skip
              clear ha410
              try simp only [decide_eq_true_eq, decide_eq_false_iff_not, Bool.not_eq_true, Bool.not_eq_false, Bool.not_eq_eq_eq_not, Bool.not_true, Bool.not_false, Bool.not_not, Int.not_lt, Int.not_le, ne_eq, Decidable.not_not] at hb411
              refine st_skip ha411 rfl rfl rfl rfl ?_
              clear ha411 a410; intro a457 ha457
              refine st_skip ha457 rfl rfl rfl rfl ?_
              clear ha457 a457; intro a458 ha458
              refine st_skip ha458 rfl rfl rfl rfl ?_
              clear ha458 a458; intro a459 ha459
              refine st_y ha459 rfl (y_pickF ha459 rfl rfl) ?_
              clear ha459 a459; intro a460 ha460
              refine st_y ha460 rfl (y_assign ha460 rfl) ?_
              clear ha460 a460; intro a461 ha461
              refine wpList_nil ?_
              refine hK54 _ _ ?_; clear hK54; try clear K54
              refine wp_cond_false (ha461.ev (x := .tmp 144) rfl) ?_
              refine wp_seq_k (fun K59 hK59 => ?_)
              have ha462 : Has 183 [(2, _), (7, _), (8, _), (10, _), (11, _), (13, _), (69, _), (15, _), (16, _)] a461 := ha461.only [2, 7, 8, 10, 11, 13, 69, 15, 16]; clear ha461
              refine wp_region_lit ?_
              refine st_y ha462 rfl (y_fieldAddr ha462 (off := 0) rfl Try.underlying45 rfl (s := 0) (by kernel_rfl) rfl) ?_
              clear ha462 a461; intro a463 ha463
              refine st_y ha463 rfl (y_loadB1 ha463 m394 (i := 107) rfl rfl rfl Try.underlying35 rfl) ?_
              clear ha463 a463; intro a464 ha464
              refine st_y ha464 rfl (y_neq ha464 rfl rfl) ?_
              clear ha464 a464; intro a465 ha465
              refine st_y ha465 rfl (y_move ha465 rfl) ?_
              clear ha465 a465; intro a466 ha466
              refine bool_cases ha466 (t := 80) rfl (fun hb467 ha467 => ?_) (fun hb467 ha467 => ?_)
              · exact absurd hb467 (by first | decide | (simp; done) | (simp; omega) | (simp [hnk]; done) | (simp [hnk.1]; done) | (simp_all; done))
              clear ha466 hb467
              refine st_g ha467 rfl rfl rfl rfl (y_loadBR ha467 m394 (i := 106) rfl rfl Try.underlying34 rfl sz34vi (by simp) (by dsimp only [List.drop, List.take] <;> rfl)) ?_
              clear ha467 a466; intro a468 ha468
              refine st_g ha468 rfl rfl rfl rfl (y_loadBR ha468 m394 (i := 8) rfl rfl Try.underlying34 rfl sz34vi (by simp) (by dsimp only [List.drop, List.take] <;> rfl)) ?_
              clear ha468 a468; intro a469 ha469
              refine st_ge ha469 rfl rfl rfl rfl (fun K hK => ?_)
              refine e_call ha469 Try.func13 rfl rfl rfl rfl (rsame_any 0 bl z pe kk (ws.length : Int) 0 true place [] ws _ _ _ _ _ _ _ _ _ _ _ _ _ _ _ (by omega) (by decide) (by omega) (fun e he => (hwo e he).1) ((m394.rd (i := 103) rfl).any) ((m394.rd (i := 104) rfl).any) ((m394.rd (i := 105) rfl).any) ((m394.rd (i := 1) rfl).any) ((m394.rd (i := 2) rfl).any) ((m394.rd (i := 3) rfl).any)) ?_
              rintro e w470 ⟨rfl, hb470⟩
              have m471 := m394.later hb470
              clear m394
              clear hb470
              refine ⟨_, rfl, fun a472 ha472 => ?_⟩; clear ha469 a469
              refine hK _ _ ?_; clear hK K
              refine st_g ha472 rfl rfl rfl rfl (y_not ha472 rfl) ?_
              clear ha472 a472; intro a473 ha473
              refine st_y ha473 rfl (y_pickF ha473 rfl rfl) ?_
              clear ha473 a473; intro a474 ha474
              refine wpList_nil ?_
              refine hK59 _ _ ?_; clear hK59; try clear K59
              refine wp_cond_false (ha474.ev (x := .tmp 85) rfl) ?_
              refine wp_skip ?_
              refine hK51 _ _ ?_; clear hK51; try clear K51
              refine wp_seq_k (fun K60 hK60 => ?_)
              have ha475 : Has 183 [(2, _), (7, _), (8, _), (10, _), (11, _), (13, _), (69, _), (15, _)] a474 := ha474.only [2, 7, 8, 10, 11, 13, 69, 15]; clear ha474
              refine wp_region_lit ?_
              refine st_y ha475 rfl (y_loadBR ha475 m471 (i := 106) rfl rfl Try.underlying34 rfl sz34vi (by simp) (by dsimp only [List.drop, List.take] <;> rfl)) ?_
              clear ha475 a474; intro a476 ha476
              refine wpList_plain rfl (fun K hK => ?_)
              refine e_storeW ha476 m471 8 rfl rfl rfl rfl rfl sz34vi ?_
              clear m471; intro w477 m477 hB477
              clear hB477
              refine hK _ _ ?_; clear hK K
              refine wpList_nil ?_
              refine hK60 _ _ ?_; clear hK60; try clear K60
              refine wp_seq_k (fun K61 hK61 => ?_)
              refine wp_region_lit ?_
              refine st_y ha476 rfl (y_loadBR ha476 m477 (i := 8) rfl rfl Try.underlying34 rfl sz34vi (by simp) (by dsimp only [List.drop, List.take] <;> rfl)) ?_
              clear ha476 a476; intro a478 ha478
              refine st_y ha478 rfl (y_move ha478 rfl) ?_
              clear ha478 a478; intro a479 ha479
              refine st_y ha479 rfl (y_build ha479 rfl zc25vi fl25vi rfl (by dsimp only [setL, List.set] <;> rfl)) ?_
              clear ha479 a479; intro a480 ha480
              refine wpList_plain rfl (fun K hK => ?_)
              refine e_call ha480 Try.func16 rfl rfl rfl rfl (xDo_is _ 0 bl z pe kk (ws.length : Int) 0 true place [] ws it _ _ _ _ _ _ _ _ 2 _ _ _ _ _ _ _ _ _ _ _ (ws.length : Int) true 0 ws 28 doR_put_hid (by omega) (by decide) (by decide) (by omega) (by first | omega | (simp; omega)) (by decide) (by omega) hitb.ok hwo (m477.into [(1, 103), (2, 104), (3, 105), (4, 101)] (by decide) rfl)) ?_
              rintro e w481 ⟨rl481, rf481, rn481, p1481, d1481, p2481, d2481, p3481, d3481, rfl, hr481, hm481⟩
              have mx481 := m477.back hm481 [(103, 1), (104, 2), (105, 3), (101, 4), (108, 5), (109, 6), (110, 7)] (by decide); clear hm481 m477
              have m481 : MemOk _ _ [(103, _), (104, _), (105, _), (101, _), (108, _), (109, _), (110, _), (1, _), (2, _), (3, _), (8, _), (100, _), (102, _), (106, _), (107, _)] _ := mx481.only [103, 104, 105, 101, 108, 109, 110, 1, 2, 3, 8, 100, 102, 106, 107]; clear mx481
              refine ⟨_, rfl, fun a482 ha482 => ?_⟩; clear ha480 a480
              refine hK _ _ ?_; clear hK K
              obtain ⟨-, rfl, rfl, rfl⟩ := hr481.resolve_right (fun h => absurd h.1 (by decide))
              have m483 := m481.freezeS 110 rfl (by simp [cx]); clear m481
              refine st_y ha482 rfl (y_move ha482 rfl) ?_
              clear ha482 a482; intro a484 ha484
              refine st_y ha484 rfl (y_extract ha484 rfl rfl) ?_
              clear ha484 a484; intro a485 ha485
              refine st_y ha485 rfl (y_extract ha485 rfl rfl) ?_
              clear ha485 a485; intro a486 ha486
              refine wpList_plain rfl (fun K hK => ?_)
              refine e_alloc ha486 m483 111 zc34vi rfl ?_
              clear ha486 a486 m483; intro g487 a488 w488 ha488 m488 hB488 hg488
              clear hB488 hg488
              refine hK _ _ ?_; clear hK K
              refine wpList_plain rfl (fun K hK => ?_)
              refine e_alloc ha488 m488 112 zc45vi rfl ?_
              clear ha488 a488 m488; intro g489 a490 w490 ha490 m490 hB490 hg490
              clear hB490 hg490
              refine hK _ _ ?_; clear hK K
              refine wpList_plain rfl (fun K hK => ?_)
              refine e_storeW ha490 m490 111 rfl rfl rfl rfl rfl sz34vi ?_
              clear m490; intro w491 m491 hB491
              clear hB491
              refine hK _ _ ?_; clear hK K
              refine wpList_plain rfl (fun K hK => ?_)
              refine e_storeW ha490 m491 112 rfl rfl rfl rfl rfl sz45vi ?_
              clear m491; intro w492 m492 hB492
              clear hB492
              refine hK _ _ ?_; clear hK K
              refine wpList_nil ?_
              refine hK61 _ _ ?_; clear hK61; try clear K61
              refine wp_seq_k (fun K62 hK62 => ?_)
              have ha493 : Has 183 [(2, _), (7, _), (8, _), (10, _), (11, _), (69, _), (18, _)] a490 := ha490.only [2, 7, 8, 10, 11, 69, 18]; clear ha490
              refine wp_region_lit ?_
              refine st_y ha493 rfl (y_fieldAddr ha493 (off := 0) rfl Try.underlying45 rfl (s := 0) (by kernel_rfl) rfl) ?_
              clear ha493 a490; intro a494 ha494
              refine st_y ha494 rfl (y_loadB1 ha494 m492 (i := 112) rfl rfl rfl Try.underlying35 rfl) ?_
              clear ha494 a494; intro a495 ha495
              refine st_y ha495 rfl (y_neq ha495 rfl rfl) ?_
              clear ha495 a495; intro a496 ha496
              refine wpList_nil ?_
              refine hK62 _ _ ?_; clear hK62; try clear K62
              refine bool_cases ha496 (t := 180) rfl (fun hb497 ha497 => ?_) (fun hb497 ha497 => ?_)
              · exact absurd hb497 (by first | decide | (simp; done) | (simp; omega) | (simp [hnk]; done) | (simp [hnk.1]; done) | (simp_all; done))
              clear ha496 hb497
              refine wp_cond_false (ha497.ev (x := .tmp 180) rfl) ?_
              refine wp_skip ?_
              refine hK13 _ _ ?_; clear hK13; try clear K13
              refine wp_region_lit ?_
              refine st_y ha497 rfl (y_move ha497 rfl) ?_
              clear ha497 a496; intro a498 ha498
              refine st_y ha498 rfl (y_add ha498 rfl rfl (r := ((i + 1 : Nat) : Int)) (by rw [IntWalk.i64_in _ (by omega)]; omega)) ?_
              clear ha498 a498; intro a499 ha499
              refine st_y ha499 rfl (y_assign ha499 rfl) ?_
              clear ha499 a499; intro a500 ha500
              refine wpList_nil ?_
              show ∃ n', n' < _ ∧ _
              exact ⟨order.length - (i + 1), by omega, i + 1, _, ws, _, _, _, _, _, _, by omega, rfl, hwk, hwb, hwp, ha500.only [2, 7, 8, 10, 11], m492.ren [(8, 8), (1, 103), (2, 104), (3, 105)] (by decide)⟩
      · skip
        clear ha49
        try simp only [decide_eq_true_eq, decide_eq_false_iff_not, Bool.not_eq_true, Bool.not_eq_false, Bool.not_eq_eq_eq_not, Bool.not_true, Bool.not_false, Bool.not_not, Int.not_lt, Int.not_le, ne_eq, Decidable.not_not] at hb50
        refine wp_cond_false (ha50.ev (x := .tmp 43) rfl) ?_
        refine wp_exit ?_
        refine hK9 _ _ ?_; clear hK9; try clear K9
        refine wp_seq_k (fun K63 hK63 => ?_)
        refine wp_region_lit ?_
        refine st_y ha50 rfl (y_fieldAddr ha50 (off := 7) rfl Try.underlying34 rfl (s := 0) (by kernel_rfl) rfl) ?_
        clear ha50 a49; intro a501 ha501
        refine st_y ha501 rfl (y_loadB1 ha501 m45 (i := 8) rfl rfl rfl Try.underlying4 rfl) ?_
        clear ha501 a501; intro a502 ha502
        refine st_y ha502 rfl (y_assign ha502 rfl) ?_
        clear ha502 a502; intro a503 ha503
        refine wpList_nil ?_
        refine hK63 _ _ ?_; clear hK63; try clear K63
        refine wp_ret ?_
        try dsimp only [Exit.then, Exit.inBlock]
        refine (ret1 (fn := Try.f6) ha503 rfl rfl ?_)
        exact ⟨by first | rfl | (simp; done) | simp_all, m45.below⟩
end Go.Proofs.Ytocfbocdnklllaa.K
