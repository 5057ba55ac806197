/- rlog: the members. -/
import Derived.Test.YtmdckdhogbbhlaaLog3
import Derived.Test.YtmdckdhogbbhlaaLEnt
namespace Go.Proofs.Ytmdckdhogbbhlaa.K
open Go.ChangeShapes Go.WideShapes Go.ChangeAt Go.RowKit
set_option linter.unusedVariables false
set_option linter.unusedSimpArgs false

theorem sz5ch : (Try.prog.info? 5).map (·.size) = some 1 := by kernel_rfl
theorem sz32cf : (Try.prog.info? 32).map (·.size) = some 4 := by kernel_rfl
theorem zc32cf : ((Try.prog.info? 32).bind (·.zero)).map (·.cells.toList) = some [.int .i64 0, .int .i64 0, .int .i64 0, .slice none 0 0] := by kernel_rfl

def ByteL (d : List Int) : Prop := ∀ z ∈ d, 0 ≤ z ∧ z ≤ 255
def EntsB (es : List (Int × Int × Int × List Int)) : Prop := ∀ e ∈ es, ByteL e.2.2.2
def chgL (ms d : List Int) : List Int := if d.getD 1 0 = 1 then ofL (ofL ms ++ [d.getD 0 0]) else (ofL ms).filter fun x => decide (x ≠ d.getD 0 0)
theorem chgL_len (ms d : List Int) : (chgL ms d).length ≤ 7 := by
  unfold chgL; split
  · exact ofL_len _
  · exact Nat.le_trans (List.length_filter_le _ _) (ofL_len _)
def confStep (ms : List Int) (e : Int × Int × Int × List Int) : List Int := if e.2.2.1 = 2 ∧ entOk e.1 e.2.1 e.2.2.1 e.2.2.2 = true then chgL ms e.2.2.2 else ms
def confTo (cf : List Int) (l : List (Int × Int × Int × List Int)) : List Int := l.foldl confStep cf
def confL (cf : List Int) (es : List (Int × Int × Int × List Int)) (i : Int) : List Int := confTo cf (es.takeWhile fun e => decide (e.1 ≤ i))
theorem conf_yes {cf ms : List Int} {es : List (Int × Int × Int × List Int)} {k : Nat} {ei et ek : Int} {ed : List Int} (h : ms = confTo cf (es.take k)) (hes : es[k]? = some (ei, et, ek, ed)) (h1 : ek = 2) (h2 : entOk ei et ek ed = true) : chgL ms ed = confTo cf (es.take (k + 1)) := by
  rw [take_snoc hes, confTo, List.foldl_append, List.foldl_cons, List.foldl_nil, confStep, if_pos ⟨h1, h2⟩, h]; rfl
theorem conf_no {cf ms : List Int} {es : List (Int × Int × Int × List Int)} {k : Nat} {ei et ek : Int} {ed : List Int} (h : ms = confTo cf (es.take k)) (hes : es[k]? = some (ei, et, ek, ed)) (h1 : ¬ ek = 2 ∨ entOk ei et ek ed = false) : ms = confTo cf (es.take (k + 1)) := by
  rw [take_snoc hes, confTo, List.foldl_append, List.foldl_cons, List.foldl_nil, confStep, if_neg, h]; rfl
  rintro ⟨a, b⟩
  rcases h1 with h1 | h1
  · exact h1 a
  · rw [show entOk ei et ek ed = true from b] at h1; cases h1
theorem le_snoc {es : List (Int × Int × Int × List Int)} {k : Nat} {i : Int} {ei et ek : Int} {ed : List Int} (h : ∀ j, j < k → (es.getD j e0).1 ≤ i) (hes : es[k]? = some (ei, et, ek, ed)) (he : ei ≤ i) : ∀ j, j < k + 1 → (es.getD j e0).1 ≤ i := by
  intro j hj
  rcases Nat.lt_or_ge j k with h1 | h1
  · exact h j h1
  · obtain rfl : j = k := by omega
    rw [List.getD, hes]; exact he
theorem takeWhile_at {p : Int × Int × Int × List Int → Bool} : ∀ {es : List (Int × Int × Int × List Int)} {k : Nat}, (∀ j, j < k → p (es.getD j e0) = true) → (k = es.length ∨ (k < es.length ∧ p (es.getD k e0) = false)) → k ≤ es.length → es.take k = es.takeWhile p
  | [], k, _, _, h => by simp
  | e :: es, 0, _, h2, _ => by
    rcases h2 with h2 | ⟨_, h2⟩
    · simp at h2
    · rw [List.take_zero, List.takeWhile_cons, show p e = false from h2]; rfl
  | e :: es, k + 1, h1, h2, h3 => by
    have h0 : p e = true := h1 0 (by omega)
    rw [List.take_succ_cons, List.takeWhile_cons, h0]
    have := takeWhile_at (p := p) (es := es) (k := k) (fun j hj => by simpa using h1 (j + 1) (by omega)) (by
      rcases h2 with h2 | ⟨h4, h2⟩
      · left; simpa using h2
      · right; exact ⟨by simpa using h4, by simpa using h2⟩) (by simpa using h3)
    rw [this]; rfl
theorem conf_end {cf : List Int} {es : List (Int × Int × Int × List Int)} {k : Nat} {i : Int} (h : ∀ j, j < k → (es.getD j e0).1 ≤ i) (h2 : k = es.length ∨ (k < es.length ∧ ¬ (es.getD k e0).1 ≤ i)) : confTo cf (es.take k) = confL cf es i := by
  unfold confL
  rw [takeWhile_at (p := fun e => decide (e.1 ≤ i)) (fun j hj => decide_eq_true (h j hj)) (by
    rcases h2 with h2 | ⟨h3, h4⟩
    · exact .inl h2
    · exact .inr ⟨h3, decide_eq_false h4⟩) (by omega)]
theorem entOk_two {ei et ek : Int} {ed : List Int} (h1 : ek = 2) (h2 : entOk ei et ek ed = true) : ed.length = 2 := by
  subst h1
  simp [entOk, dataOk] at h2
  exact h2.2.1
set_option maxRecDepth 100000
set_option maxHeartbeats 4000000
theorem change_any (ms d : List Int) (p0 p1 : Option Addr) (c0 c1 : Nat) (w0 : World) (h0 : Rd (fun _ => True) w0 (.slice p0 ms.length c0) (.ns .i64 ms)) (h1 : Rd (fun _ => True) w0 (.slice p1 d.length c1) (.ns .u8 d)) (hd2 : d.length = 2) (hm : ms.length ≤ 900) (hdb : ByteL d) :
    Calls Try.prog 46 #[.slice p0 ms.length c0, .slice p1 d.length c1] w0 fun e w' => ∃ p c, e = .returned (.slice p (chgL ms d).length c) ∧ Rd (New w0) w' (.slice p (chgL ms d).length c) (.ns .i64 (chgL ms d)) ∧ Below w0.heap.size w0 w' := by
  refine enter (fn := Try.f46) Try.func46 rfl Try.ntmps46 rfl (fun a0 ha0 => ?_)
  simp only [List.zipIdx_cons, List.zipIdx_nil, List.map_cons, List.map_nil, Nat.reduceAdd, Nat.zero_add] at ha0
  have m0 := MemOk.start (fun _ => False) w0
  have hd0 := hdb (d.getD 0 0) (by rw [List.getD, List.getElem?_eq_getElem (by omega : 0 < d.length)]; exact List.getElem_mem _)
  refine wp_seq_k (fun K0 hK0 => ?_)
  refine wp_region_lit ?_
  refine st_y ha0 rfl (y_assign ha0 rfl) ?_
  clear ha0 a0; intro a1 ha1
  refine wpList_nil ?_
  refine hK0 _ _ ?_; clear hK0; try clear K0
  refine wp_seq_k (fun K1 hK1 => ?_)
  refine wp_region_lit ?_
  refine st_y ha1 rfl (y_move ha1 rfl) ?_
  clear ha1 a1; intro a2 ha2
  obtain ⟨gx3, ox3, hp3, hl3, hrg3⟩ := h1.extN (0) (by omega)
  cases hp3; clear hl3
  refine st_y ha2 rfl (y_idx ha2 rfl rfl Try.underlying23 sz5ch (0) rfl (by omega)) ?_
  clear ha2 a2; intro a4 ha4
  refine st_y ha4 rfl (y_loadAt1 ha4 (hrg3 m0 rfl) (q := 0) rfl rfl rfl Try.underlying5 rfl) ?_
  clear ha4 a4; intro a5 ha5
  refine st_y ha5 rfl (y_conv ha5 rfl Try.underlying5 Try.underlying3 (r := d.getD 0 0) (IntWalk.i64_in _ (by omega))) ?_
  clear ha5 a5; intro a6 ha6
  refine st_y ha6 rfl (y_assign ha6 rfl) ?_
  clear ha6 a6; intro a7 ha7
  refine wpList_nil ?_
  refine hK1 _ _ ?_; clear hK1; try clear K1
  refine wp_seq_k (fun K2 hK2 => ?_)
  refine wp_seq_k (fun K3 hK3 => ?_)
  refine wp_region_lit ?_
  refine st_y ha7 rfl (y_move ha7 rfl) ?_
  clear ha7 a7; intro a8 ha8
  obtain ⟨gx9, ox9, hp9, hl9, hrg9⟩ := h1.extN (1) (by omega)
  cases hp9; clear hl9
  refine st_y ha8 rfl (y_idx ha8 rfl rfl Try.underlying23 sz5ch (1) rfl (by omega)) ?_
  clear ha8 a8; intro a10 ha10
  refine st_y ha10 rfl (y_loadAt1 ha10 (hrg9 m0 rfl) (q := 0) rfl rfl rfl Try.underlying5 rfl) ?_
  clear ha10 a10; intro a11 ha11
  refine st_y ha11 rfl (y_eql ha11 rfl rfl) ?_
  clear ha11 a11; intro a12 ha12
  refine wpList_nil ?_
  refine hK3 _ _ ?_; clear hK3; try clear K3
  refine bool_cases ha12 (t := 13) rfl (fun hb13 ha13 => ?_) (fun hb13 ha13 => ?_)
  · skip
    clear ha12
    try simp only [decide_eq_true_eq, decide_eq_false_iff_not, Bool.not_eq_true, Bool.not_eq_false, Bool.not_eq_eq_eq_not, Bool.not_true, Bool.not_false, Bool.not_not, Int.not_lt, Int.not_le, ne_eq, Decidable.not_not] at hb13
    refine wp_cond_true (ha13.ev (x := .tmp 13) rfl) ?_
    refine wp_seq_k (fun K4 hK4 => ?_)
    have ha14 : Has 20 [(0, _), (4, _), (5, _), (13, _)] a12 := ha13.only [0, 4, 5, 13]; clear ha13
    refine wp_region_lit ?_
    refine st_y ha14 rfl (y_move ha14 rfl) ?_
    clear ha14 a12; intro a15 ha15
    refine st_y ha15 rfl (y_move ha15 rfl) ?_
    clear ha15 a15; intro a16 ha16
    refine wpList_plain rfl (fun K hK => ?_)
    refine e_call ha16 Try.func51 rfl rfl rfl rfl (with_any _ ms (d.getD 0 0) _ (h0.now' m0 rfl).ns_out.nums hm) ?_
    rintro e w17 ⟨u17, rfl, ho17, hb17⟩
    obtain ⟨p17, c17, hu17⟩ := ownsRow_shape ho17
    subst hu17
    have m18 := m0.newN 3 hb17 ho17
    clear m0
    clear hb17 ho17
    refine ⟨_, rfl, fun a19 ha19 => ?_⟩; clear ha16 a16
    refine hK _ _ ?_; clear hK K
    refine st_y ha19 rfl (y_assign ha19 rfl) ?_
    clear ha19 a19; intro a20 ha20
    refine wpList_nil ?_
    refine hK4 _ _ ?_; clear hK4; try clear K4
    refine wp_ret ?_
    try dsimp only [Exit.then, Exit.inBlock]
    refine (ret1 (fn := Try.f46) ha20 rfl rfl ?_)
    have m21 := m18.freezeN 3 rfl; clear m18
    unfold chgL
    rw [if_pos hb13]
    exact ⟨_, _, rfl, m21.outF (i := 3) rfl, m21.below⟩
  · skip
    clear ha12
    try simp only [decide_eq_true_eq, decide_eq_false_iff_not, Bool.not_eq_true, Bool.not_eq_false, Bool.not_eq_eq_eq_not, Bool.not_true, Bool.not_false, Bool.not_not, Int.not_lt, Int.not_le, ne_eq, Decidable.not_not] at hb13
    refine wp_cond_false (ha13.ev (x := .tmp 13) rfl) ?_
    refine wp_skip ?_
    refine hK2 _ _ ?_; clear hK2; try clear K2
    refine wp_seq_k (fun K5 hK5 => ?_)
    have ha22 : Has 20 [(0, _), (4, _), (5, _), (13, _)] a12 := ha13.only [0, 4, 5, 13]; clear ha13
    refine wp_region_lit ?_
    refine st_y ha22 rfl (y_move ha22 rfl) ?_
    clear ha22 a12; intro a23 ha23
    refine st_y ha23 rfl (y_move ha23 rfl) ?_
    clear ha23 a23; intro a24 ha24
    refine wpList_plain rfl (fun K hK => ?_)
    refine e_call ha24 Try.func52 rfl rfl rfl rfl (without_any _ ms (d.getD 0 0) _ (h0.now' m0 rfl).ns_out.nums hm) ?_
    rintro e w25 ⟨u25, rfl, ho25, hb25⟩
    obtain ⟨p25, c25, hu25⟩ := ownsRow_shape ho25
    subst hu25
    have m26 := m0.newN 3 hb25 ho25
    clear m0
    clear hb25 ho25
    refine ⟨_, rfl, fun a27 ha27 => ?_⟩; clear ha24 a24
    refine hK _ _ ?_; clear hK K
    refine st_y ha27 rfl (y_assign ha27 rfl) ?_
    clear ha27 a27; intro a28 ha28
    refine wpList_nil ?_
    refine hK5 _ _ ?_; clear hK5; try clear K5
    refine wp_ret ?_
    try dsimp only [Exit.then, Exit.inBlock]
    refine (ret1 (fn := Try.f46) ha28 rfl rfl ?_)
    have m29 := m26.freezeN 3 rfl; clear m26
    unfold chgL
    rw [if_neg hb13]
    exact ⟨_, _, rfl, m29.outF (i := 3) rfl, m29.below⟩
theorem conf_any (B : Nat) (bi bt : Int) (cf d : List Int) (es : List (Int × Int × Int × List Int)) (pc pd pl : Option Addr) (cc cd cl : Nat) (w0 : World) (i : Int) (hB : Blk w0 B 56 [.int .i64 bi, .int .i64 bt, .slice pc cf.length cc, .slice pd d.length cd, .slice pl (es.map entD).length cl]) (hl : Rd (fun _ => True) w0 (.slice pl (es.map entD).length cl) (.l 4 (es.map entD))) (hn : es.length ≤ 1000000) (hc : Rd (fun _ => True) w0 (.slice pc cf.length cc) (.ns .i64 cf)) (hcf : cf.length ≤ 900) (heb : EntsB es) :
    Calls Try.prog 29 #[.pointer (some ⟨B, 0, none⟩), .int .i64 i] w0 fun e w' => ∃ p c, e = .returned (.slice p (confL cf es i).length c) ∧ Rd (New w0) w' (.slice p (confL cf es i).length c) (.ns .i64 (confL cf es i)) ∧ Below w0.heap.size w0 w' := by
  refine enter (fn := Try.f29) Try.func29 rfl Try.ntmps29 rfl (fun a0 ha0 => ?_)
  simp only [List.zipIdx_cons, List.zipIdx_nil, List.map_cons, List.map_nil, Nat.reduceAdd, Nat.zero_add] at ha0
  have m0 := MemOk.start (fun _ => False) w0
  refine wp_seq_k (fun K0 hK0 => ?_)
  refine wp_region_lit ?_
  refine st_y ha0 rfl (y_assign ha0 rfl) ?_
  clear ha0 a0; intro a1 ha1
  refine wpList_nil ?_
  refine hK0 _ _ ?_; clear hK0; try clear K0
  refine wp_seq_k (fun K1 hK1 => ?_)
  refine wp_region_lit ?_
  refine st_y ha1 rfl (y_move ha1 rfl) ?_
  clear ha1 a1; intro a2 ha2
  refine st_y ha2 rfl (y_nilCheck ha2 rfl) ?_
  clear ha2 a2; intro a3 ha3
  refine st_y ha3 rfl (y_fieldAddr ha3 (off := 0) rfl Try.underlying56 rfl (s := 4) (by kernel_rfl) rfl) ?_
  clear ha3 a3; intro a4 ha4
  refine st_y ha4 rfl (y_fieldAddr ha4 (off := 0) rfl Try.underlying54 rfl (s := 3) (by kernel_rfl) rfl) ?_
  clear ha4 a4; intro a5 ha5
  refine st_y ha5 rfl (y_fieldAddr ha5 (off := 2) rfl Try.underlying28 rfl (s := 0) (by kernel_rfl) rfl) ?_
  clear ha5 a5; intro a6 ha6
  refine st_y ha6 rfl (y_loadX1 ha6 (hB.now m0 rfl) rfl rfl Try.underlying26 rfl) ?_
  clear ha6 a6; intro a7 ha7
  refine wpList_plain rfl (fun K hK => ?_)
  refine e_call ha7 Try.func44 rfl rfl rfl rfl (plainI_any cf _ _ _ ((hc.now' m0 rfl).any) (by omega)) ?_
  rintro e w8 ⟨p8, c8, rfl, hd8, hb8⟩
  have m9 := m0.callF 5 rfl hb8 hd8
  clear m0
  clear hb8 hd8
  refine ⟨_, rfl, fun a10 ha10 => ?_⟩; clear ha7 a7
  refine hK _ _ ?_; clear hK K
  refine st_y ha10 rfl (y_assign ha10 rfl) ?_
  clear ha10 a10; intro a11 ha11
  refine wpList_nil ?_
  refine hK1 _ _ ?_; clear hK1; try clear K1
  refine wp_seq_k (fun K2 hK2 => ?_)
  refine wp_seq_k (fun K3 hK3 => ?_)
  have ha12 : Has 42 [(0, _), (1, _), (4, _), (5, _)] a11 := ha11.only [0, 1, 4, 5]; clear ha11
  refine wp_region_lit ?_
  refine st_y ha12 rfl (y_move ha12 rfl) ?_
  clear ha12 a11; intro a13 ha13
  refine st_y ha13 rfl (y_nilCheck ha13 rfl) ?_
  clear ha13 a13; intro a14 ha14
  refine st_y ha14 rfl (y_fieldAddr ha14 (off := 0) rfl Try.underlying56 rfl (s := 4) (by kernel_rfl) rfl) ?_
  clear ha14 a14; intro a15 ha15
  refine st_y ha15 rfl (y_fieldAddr ha15 (off := 4) rfl Try.underlying54 rfl (s := 0) (by kernel_rfl) rfl) ?_
  clear ha15 a15; intro a16 ha16
  refine st_y ha16 rfl (y_loadX1 ha16 (hB.now m9 rfl) rfl rfl Try.underlying29 rfl) ?_
  clear ha16 a16; intro a17 ha17
  refine st_y ha17 rfl (y_len ha17 rfl Try.underlying29) ?_
  clear ha17 a17; intro a18 ha18
  refine st_y ha18 rfl (y_move ha18 rfl) ?_
  clear ha18 a18; intro a19 ha19
  refine wpList_nil ?_
  refine hK3 _ _ ?_; clear hK3; try clear K3
  refine wp_block ?_
  refine wp_loop_ghost (fun g a w => ∃ (k : Nat) (ms : List Int) (p : Option Addr) (c : Nat), k ≤ es.length ∧ g = es.length - k ∧ ms = (confTo cf (es.take k)) ∧ ms.length ≤ 900 ∧ (∀ j, j < k → (es.getD j e0).1 ≤ i) ∧ Has 42 [(1, .int .i64 i), (5, .slice p ms.length c), (19, .slice pl (es.map entD).length cl), (20, .int .i64 (es.map entD).length), (21, .int .i64 k)] a ∧ MemOk (cn w0) w0 [(6, .dat (.slice p ms.length c) (.ns .i64 ms))] w) (es.length) ?_ ?_
  · exact ⟨0, cf, _, _, Nat.zero_le _, rfl, rfl, hcf, (fun j hj => by omega), ha19.only [1, 5, 19, 20, 21], m9.ren [(6, 5)] (by decide)⟩
  · skip
    clear ha19 m9
    rintro g a20 w20 ⟨k, ms, p, c, hkl, hg, hms, hml, hle, ha20, m20⟩
    refine wp_seq_k (fun K4 hK4 => ?_)
    refine wp_region_lit ?_
    refine st_y ha20 rfl (y_lss ha20 rfl rfl) ?_
    clear ha20 a20; intro a21 ha21
    refine wpList_nil ?_
    refine hK4 _ _ ?_; clear hK4; try clear K4
    refine wp_seq_k (fun K5 hK5 => ?_)
    refine bool_cases ha21 (t := 22) rfl (fun hb22 ha22 => ?_) (fun hb22 ha22 => ?_)
    · skip
      clear ha21
      try simp only [decide_eq_true_eq, decide_eq_false_iff_not, Bool.not_eq_true, Bool.not_eq_false, Bool.not_eq_eq_eq_not, Bool.not_true, Bool.not_false, Bool.not_not, Int.not_lt, Int.not_le, ne_eq, Decidable.not_not] at hb22
      have hk : k < es.length := by rw [List.length_map] at hb22; omega
      obtain ⟨⟨ei, et, ek, ed⟩, hes⟩ : ∃ e, es[k]? = some e := ⟨_, List.getElem?_eq_getElem hk⟩
      have hedb := heb _ (List.mem_of_getElem? hes)
      dsimp only at hedb
      refine wp_cond_true (ha22.ev (x := .tmp 22) rfl) ?_
      refine wp_skip ?_
      refine hK5 _ _ ?_; clear hK5; try clear K5
      refine wp_seq_k (fun K6 hK6 => ?_)
      refine wp_block ?_
      refine wp_seq_k (fun K7 hK7 => ?_)
      refine wp_region_lit ?_
      obtain ⟨gx23, ox23, vx23, hp23, hl23, hR23, hrg23⟩ := hl.extA (k) (r := [.v (.int .i64 ei), .v (.int .i64 et), .v (.int .i64 ek), .ns .u8 ed]) (ent_get hes)
      cases hp23; clear hl23
      rcases hR23 with _ | ⟨hd23_0, _ | ⟨hd23_1, _ | ⟨hd23_2, _ | ⟨hd23_3, _ | _⟩⟩⟩⟩
      obtain rfl := hd23_0.v_out
      clear hd23_0
      obtain rfl := hd23_1.v_out
      clear hd23_1
      obtain rfl := hd23_2.v_out
      clear hd23_2
      obtain ⟨p24, c24, hv24, hw24⟩ := hd23_3.ns_shape; subst hv24
      refine st_y ha22 rfl (y_idx ha22 rfl rfl Try.underlying29 sz32cf (k) rfl (by rw [List.length_map]; exact hk)) ?_
      clear ha22 a21; intro a25 ha25
      refine st_y ha25 rfl (y_loadAt ha25 (hrg23 m20 rfl) rfl Try.underlying32 rfl sz32cf) ?_
      clear ha25 a25; intro a26 ha26
      refine wpList_plain rfl (fun K hK => ?_)
      refine e_alloc ha26 m20 101 zc32cf rfl ?_
      clear ha26 a26 m20; intro g27 a28 w28 ha28 m28 hB28 hg28
      clear hB28 hg28
      refine hK _ _ ?_; clear hK K
      refine wpList_plain rfl (fun K hK => ?_)
      refine e_storeW ha28 m28 101 rfl rfl rfl rfl rfl sz32cf ?_
      clear m28; intro w29 m29 hB29
      clear hB29
      refine hK _ _ ?_; clear hK K
      refine wpList_nil ?_
      refine hK7 _ _ ?_; clear hK7; try clear K7
      refine wp_seq_k (fun K8 hK8 => ?_)
      refine wp_seq_k (fun K9 hK9 => ?_)
      refine wp_region_lit ?_
      refine st_y ha28 rfl (y_fieldAddr ha28 (off := 0) rfl Try.underlying32 rfl (s := 0) (by kernel_rfl) rfl) ?_
      clear ha28 a28; intro a30 ha30
      refine st_y ha30 rfl (y_loadB1 ha30 m29 (i := 101) rfl rfl rfl Try.underlying3 rfl) ?_
      clear ha30 a30; intro a31 ha31
      refine st_y ha31 rfl (y_move ha31 rfl) ?_
      clear ha31 a31; intro a32 ha32
      refine st_y ha32 rfl (y_gtr ha32 rfl rfl) ?_
      clear ha32 a32; intro a33 ha33
      refine wpList_nil ?_
      refine hK9 _ _ ?_; clear hK9; try clear K9
      refine bool_cases ha33 (t := 28) rfl (fun hb34 ha34 => ?_) (fun hb34 ha34 => ?_)
      · skip
        clear ha33
        try simp only [decide_eq_true_eq, decide_eq_false_iff_not, Bool.not_eq_true, Bool.not_eq_false, Bool.not_eq_eq_eq_not, Bool.not_true, Bool.not_false, Bool.not_not, Int.not_lt, Int.not_le, ne_eq, Decidable.not_not] at hb34
        refine wp_cond_true (ha34.ev (x := .tmp 28) rfl) ?_
        refine wp_exit ?_
        refine hK2 _ _ ?_; clear hK2; try clear K2
        refine wp_seq_k (fun K10 hK10 => ?_)
        have ha35 : Has 42 [(1, _), (5, _), (19, _), (20, _), (21, _), (28, _)] a33 := ha34.only [1, 5, 19, 20, 21, 28]; clear ha34
        refine wp_region_lit ?_
        refine st_y ha35 rfl (y_move ha35 rfl) ?_
        clear ha35 a33; intro a36 ha36
        refine st_y ha36 rfl (y_assign ha36 rfl) ?_
        clear ha36 a36; intro a37 ha37
        refine wpList_nil ?_
        refine hK10 _ _ ?_; clear hK10; try clear K10
        refine wp_ret ?_
        try dsimp only [Exit.then, Exit.inBlock]
        refine (ret1 (fn := Try.f29) ha37 rfl rfl ?_)
        rw [conf_end hle (.inr ⟨hk, by rw [List.getD, hes]; show ¬ ei ≤ i; omega⟩)] at hms
        subst hms
        exact ⟨_, _, rfl, m29.outF (i := 6) rfl, m29.below⟩
      · skip
        clear ha33
        try simp only [decide_eq_true_eq, decide_eq_false_iff_not, Bool.not_eq_true, Bool.not_eq_false, Bool.not_eq_eq_eq_not, Bool.not_true, Bool.not_false, Bool.not_not, Int.not_lt, Int.not_le, ne_eq, Decidable.not_not] at hb34
        refine wp_cond_false (ha34.ev (x := .tmp 28) rfl) ?_
        refine wp_skip ?_
        refine hK8 _ _ ?_; clear hK8; try clear K8
        refine wp_seq_k (fun K11 hK11 => ?_)
        have ha38 : Has 42 [(1, _), (5, _), (19, _), (20, _), (21, _), (7, _), (28, _)] a33 := ha34.only [1, 5, 19, 20, 21, 7, 28]; clear ha34
        refine wp_region_lit ?_
        refine st_y ha38 rfl (y_fieldAddr ha38 (off := 2) rfl Try.underlying32 rfl (s := 0) (by kernel_rfl) rfl) ?_
        clear ha38 a33; intro a39 ha39
        refine st_y ha39 rfl (y_loadB1 ha39 m29 (i := 101) rfl rfl rfl Try.underlying3 rfl) ?_
        clear ha39 a39; intro a40 ha40
        refine st_y ha40 rfl (y_eql ha40 rfl rfl) ?_
        clear ha40 a40; intro a41 ha41
        refine st_y ha41 rfl (y_move ha41 rfl) ?_
        clear ha41 a41; intro a42 ha42
        refine bool_cases ha42 (t := 32) rfl (fun hb43 ha43 => ?_) (fun hb43 ha43 => ?_)
        · skip
          clear ha42
          try simp only [decide_eq_true_eq, decide_eq_false_iff_not, Bool.not_eq_true, Bool.not_eq_false, Bool.not_eq_eq_eq_not, Bool.not_true, Bool.not_false, Bool.not_not, Int.not_lt, Int.not_le, ne_eq, Decidable.not_not] at hb43
          refine st_g ha43 rfl rfl rfl rfl (y_loadBR ha43 m29 (i := 101) rfl rfl Try.underlying32 rfl sz32cf (by simp) (by dsimp only [List.drop, List.take] <;> rfl)) ?_
          clear ha43 a42; intro a44 ha44
          refine st_ge ha44 rfl rfl rfl rfl (fun K hK => ?_)
          refine e_call ha44 Try.func45 rfl rfl rfl rfl (entRight_any ei et ek _ ed _ ((hd23_3.now' m29 rfl).any).ns_out.nums) ?_
          rintro e w45 ⟨rfl, hb45⟩
          have m46 := m29.later hb45
          clear m29
          clear hb45
          refine ⟨_, rfl, fun a47 ha47 => ?_⟩; clear ha44 a44
          refine hK _ _ ?_; clear hK K
          refine st_y ha47 rfl (y_pickT ha47 rfl rfl) ?_
          clear ha47 a47; intro a48 ha48
          refine wpList_nil ?_
          refine hK11 _ _ ?_; clear hK11; try clear K11
          refine bool_cases ha48 (t := 35) rfl (fun hb49 ha49 => ?_) (fun hb49 ha49 => ?_)
          · skip
            clear ha48
            try simp only [decide_eq_true_eq, decide_eq_false_iff_not, Bool.not_eq_true, Bool.not_eq_false, Bool.not_eq_eq_eq_not, Bool.not_true, Bool.not_false, Bool.not_not, Int.not_lt, Int.not_le, ne_eq, Decidable.not_not] at hb49
            refine wp_cond_true (ha49.ev (x := .tmp 35) rfl) ?_
            refine wp_region_lit ?_
            refine st_y ha49 rfl (y_move ha49 rfl) ?_
            clear ha49 a48; intro a50 ha50
            refine st_y ha50 rfl (y_fieldAddr ha50 (off := 3) rfl Try.underlying32 rfl (s := 0) (by kernel_rfl) rfl) ?_
            clear ha50 a50; intro a51 ha51
            refine st_y ha51 rfl (y_loadB1 ha51 m46 (i := 101) rfl rfl rfl Try.underlying23 rfl) ?_
            clear ha51 a51; intro a52 ha52
            refine wpList_plain rfl (fun K hK => ?_)
            refine e_call ha52 Try.func46 rfl rfl rfl rfl (change_any ms ed _ _ _ _ _ ((m46.rd (i := 6) rfl).any) ((hd23_3.now' m46 rfl).any) (entOk_two hb43 hb49) hml hedb) ?_
            rintro e w53 ⟨p53, c53, rfl, hd53, hb53⟩
            have m54 := m46.callF 102 rfl hb53 hd53
            clear m46
            clear hb53 hd53
            refine ⟨_, rfl, fun a55 ha55 => ?_⟩; clear ha52 a52
            refine hK _ _ ?_; clear hK K
            refine st_y ha55 rfl (y_assign ha55 rfl) ?_
            clear ha55 a55; intro a56 ha56
            refine wpList_nil ?_
            refine hK6 _ _ ?_; clear hK6; try clear K6
            have ha57 : Has 42 [(1, _), (5, _), (19, _), (20, _), (21, _), (28, _), (32, _), (35, _)] a56 := ha56.only [1, 5, 19, 20, 21, 28, 32, 35]; clear ha56
            refine wp_region_lit ?_
            refine st_y ha57 rfl (y_add ha57 rfl rfl (r := ((k + 1 : Nat) : Int)) (by rw [IntWalk.i64_in _ (by omega)]; omega)) ?_
            clear ha57 a56; intro a58 ha58
            refine st_y ha58 rfl (y_move ha58 rfl) ?_
            clear ha58 a58; intro a59 ha59
            refine wpList_nil ?_
            show ∃ n', n' < _ ∧ _
            exact ⟨es.length - (k + 1), by omega, k + 1, (chgL ms ed), _, _, by omega, rfl, (conf_yes hms hes hb43 hb49), (Nat.le_trans (chgL_len _ _) (by decide)), le_snoc hle hes (by omega), ha59.only [1, 5, 19, 20, 21], m54.ren [(6, 102)] (by decide)⟩
          · skip
            clear ha48
            try simp only [decide_eq_true_eq, decide_eq_false_iff_not, Bool.not_eq_true, Bool.not_eq_false, Bool.not_eq_eq_eq_not, Bool.not_true, Bool.not_false, Bool.not_not, Int.not_lt, Int.not_le, ne_eq, Decidable.not_not] at hb49
            refine wp_cond_false (ha49.ev (x := .tmp 35) rfl) ?_
            refine wp_skip ?_
            refine hK6 _ _ ?_; clear hK6; try clear K6
            have ha60 : Has 42 [(1, _), (5, _), (19, _), (20, _), (21, _), (28, _), (32, _), (35, _)] a48 := ha49.only [1, 5, 19, 20, 21, 28, 32, 35]; clear ha49
            refine wp_region_lit ?_
            refine st_y ha60 rfl (y_add ha60 rfl rfl (r := ((k + 1 : Nat) : Int)) (by rw [IntWalk.i64_in _ (by omega)]; omega)) ?_
            clear ha60 a48; intro a61 ha61
            refine st_y ha61 rfl (y_move ha61 rfl) ?_
            clear ha61 a61; intro a62 ha62
            refine wpList_nil ?_
            show ∃ n', n' < _ ∧ _
            exact ⟨es.length - (k + 1), by omega, k + 1, ms, _, _, by omega, rfl, (conf_no hms hes (.inr hb49)), hml, le_snoc hle hes (by omega), ha62.only [1, 5, 19, 20, 21], m46.ren [(6, 6)] (by decide)⟩
        · skip
          clear ha42
          try simp only [decide_eq_true_eq, decide_eq_false_iff_not, Bool.not_eq_true, Bool.not_eq_false, Bool.not_eq_eq_eq_not, Bool.not_true, Bool.not_false, Bool.not_not, Int.not_lt, Int.not_le, ne_eq, Decidable.not_not] at hb43
          refine st_skip ha43 rfl rfl rfl rfl ?_
          clear ha43 a42; intro a63 ha63
          refine st_skip ha63 rfl rfl rfl rfl ?_
          clear ha63 a63; intro a64 ha64
          refine st_y ha64 rfl (y_pickF ha64 rfl rfl) ?_
          clear ha64 a64; intro a65 ha65
          refine wpList_nil ?_
          refine hK11 _ _ ?_; clear hK11; try clear K11
          refine wp_cond_false (ha65.ev (x := .tmp 35) rfl) ?_
          refine wp_skip ?_
          refine hK6 _ _ ?_; clear hK6; try clear K6
          have ha66 : Has 42 [(1, _), (5, _), (19, _), (20, _), (21, _), (28, _), (32, _), (35, _)] a65 := ha65.only [1, 5, 19, 20, 21, 28, 32, 35]; clear ha65
          refine wp_region_lit ?_
          refine st_y ha66 rfl (y_add ha66 rfl rfl (r := ((k + 1 : Nat) : Int)) (by rw [IntWalk.i64_in _ (by omega)]; omega)) ?_
          clear ha66 a65; intro a67 ha67
          refine st_y ha67 rfl (y_move ha67 rfl) ?_
          clear ha67 a67; intro a68 ha68
          refine wpList_nil ?_
          show ∃ n', n' < _ ∧ _
          exact ⟨es.length - (k + 1), by omega, k + 1, ms, _, _, by omega, rfl, (conf_no hms hes (.inl hb43)), hml, le_snoc hle hes (by omega), ha68.only [1, 5, 19, 20, 21], m29.ren [(6, 6)] (by decide)⟩
    · skip
      clear ha21
      try simp only [decide_eq_true_eq, decide_eq_false_iff_not, Bool.not_eq_true, Bool.not_eq_false, Bool.not_eq_eq_eq_not, Bool.not_true, Bool.not_false, Bool.not_not, Int.not_lt, Int.not_le, ne_eq, Decidable.not_not] at hb22
      obtain rfl : k = es.length := by rw [List.length_map] at hb22; omega
      refine wp_cond_false (ha22.ev (x := .tmp 22) rfl) ?_
      refine wp_exit ?_
      refine hK2 _ _ ?_; clear hK2; try clear K2
      refine wp_seq_k (fun K12 hK12 => ?_)
      refine wp_region_lit ?_
      refine st_y ha22 rfl (y_move ha22 rfl) ?_
      clear ha22 a21; intro a69 ha69
      refine st_y ha69 rfl (y_assign ha69 rfl) ?_
      clear ha69 a69; intro a70 ha70
      refine wpList_nil ?_
      refine hK12 _ _ ?_; clear hK12; try clear K12
      refine wp_ret ?_
      try dsimp only [Exit.then, Exit.inBlock]
      refine (ret1 (fn := Try.f29) ha70 rfl rfl ?_)
      rw [conf_end hle (.inl rfl)] at hms
      subst hms
      exact ⟨_, _, rfl, m20.outF (i := 6) rfl, m20.below⟩
end Go.Proofs.Ytmdckdhogbbhlaa.K
