/- NetOrder's walk. -/
import Derived.Test.YtnllgfmjcnjgdaaNet5
import Derived.Deep.Matrix
namespace Go.Proofs.Ytnllgfmjcnjgdaa.K
open Go.ChangeShapes Go.WideShapes Go.ChangeAt Go.RowKit
set_option linter.unusedVariables false
set_option linter.unusedSimpArgs false

theorem fl35o : flatS Try.prog 35 [.int .i64 0, .int .i64 0, .slice none 0 0] = true := by kernel_rfl
theorem inf35o : (Try.prog.info? 35).map (fun i => (i.zero, i.size, i.bytes)) = some (some (.agg #[.int .i64 0, .int .i64 0, .slice none 0 0]), 3, 40) := by kernel_rfl
theorem sz33o : (Try.prog.info? 33).map (·.size) = some 1 := by kernel_rfl
theorem sz35o : (Try.prog.info? 35).map (·.size) = some 3 := by kernel_rfl
theorem zc35o : ((Try.prog.info? 35).bind (·.zero)).map (·.cells.toList) = some [.int .i64 0, .int .i64 0, .slice none 0 0] := by kernel_rfl

def lD (b : List Int) : List D := [.ns .u8 b]
theorem ls_get {ls : List (List Int)} {i : Nat} (h : i < ls.length) : (ls.map lD)[i]? = some [.ns .u8 (ls.getD i [])] := by simp [lD, h, List.getD]
def allF (ls : List (List Int)) (i : Nat) : List (Int × Int × List Int) := (List.range i).map fun (j : Nat) => (((j : Nat) : Int).tmod 3, ((j + 1 : Nat) : Int).tmod 3, ls.getD j [])
theorem allF_snoc (ls : List (List Int)) (i : Nat) : allF ls (i + 1) = allF ls i ++ [((i : Int).tmod 3, ((i + 1 : Nat) : Int).tmod 3, ls.getD i [])] := by unfold allF; rw [List.range_succ, List.map_append]; rfl
theorem sh_snoc {ls : List (List Int)} {i : Nat} (h : ∀ j, j < i → (ls.getD j []).length ≤ 40) (hi : (ls.getD i []).length ≤ 40) : ∀ j, j < i + 1 → (ls.getD j []).length ≤ 40 := by
  intro j hj
  rcases Nat.lt_or_ge j i with h1 | h1
  · exact h j h1
  · obtain rfl : j = i := by omega
    exact hi
theorem own_len {p : Option Addr} {n n' c c' b : Nat} (h : (Value.slice p n c).ownBlock = some b) : (Value.slice p n' c').ownBlock = some b := by cases p <;> exact h
theorem allF_short {ls : List (List Int)} {i : Nat} (h : ∀ j, j < i → (ls.getD j []).length ≤ 40) : ∀ f ∈ allF ls i, f.2.2.length ≤ 100000 := by
  intro f hf
  obtain ⟨j, hj, rfl⟩ := List.mem_map.1 hf
  have := h j (List.mem_range.1 hj)
  dsimp only; omega
theorem erase0 {α : Type} {l : List α} {k : Nat} : (l.drop k).eraseIdx 0 = l.drop (k + 1) := by
  rw [List.eraseIdx_zero, List.tail_drop]
theorem Rd.lenEq {S : Nat → Prop} {w : World} {p : Option Addr} {n n' c : Nat} {d : D} (h : Rd S w (.slice p n c) d) (e : n = n') : Rd S w (.slice p n' c) d := e ▸ h
theorem lists_open {H : Type} {enc : TypeId × Value → H} {W : World} {base : Nat} {held : Bool} {fuel : Nat} {a : Option Addr} {len cap : Nat} {x : DataW H × List MemPlace}
    (h : DataW.trod enc Try.prog W base (fun _ => true) held fuel 43 [.slice a len cap] = some x) (ce : Try.prog.cellsOf 33 = 1) (cq : Try.prog.cellsOf 5 = 1) :
    ∃ ls : List (List Int), Rd (fun _ => True) W (.slice a ls.length cap) (.l 1 (ls.map lD)) ∧ ls.length = len := by
  rcases Deep.open_int_rows Try.underlying43 Try.underlying33 Try.underlying5 ce cq h with ⟨hcs, -⟩ | ⟨b, l, c, A, L, C, Z, hcs, -, hl, hm, -, hr⟩
  · simp only [List.cons.injEq, Value.slice.injEq, and_true] at hcs
    obtain ⟨rfl, rfl, rfl⟩ := hcs
    exact ⟨[], .l0 none 0 1, rfl⟩
  · simp only [List.cons.injEq, Value.slice.injEq, and_true] at hcs
    obtain ⟨rfl, rfl, rfl⟩ := hcs
    have hex : ∀ r, ∃ ys : List Int, r < len → Rd (fun _ => True) W (.slice (A r) (L r) (C r)) (.ns .u8 ys) := fun r => by
      by_cases hrl : r < len
      · obtain ⟨c1, c2, c3, c4, c5, c6, c7⟩ := hr r (by omega)
        obtain ⟨ys, h1, h2, -⟩ := NumsS.ofRow (k := .u8) (w := W) (a := A r) (len := L r) (cap := C r) (zs := Z r) (by
          cases hA : A r with
          | none =>
            have := c6 hA
            exact .inl ⟨rfl, by omega, this, List.eq_nil_of_length_eq_zero (by omega)⟩
          | some a' => exact .inr ⟨a', rfl, c2, c3, c4, fun i hi => (c7 a' hA).2 i (by omega), c5⟩)
        exact ⟨ys, fun _ => h2 ▸ h1⟩
      · exact ⟨[], fun h => absurd h hrl⟩
    obtain ⟨Y, hY⟩ : ∃ Y : Nat → List Int, ∀ r, r < len → Rd (fun _ => True) W (.slice (A r) (L r) (C r)) (.ns .u8 (Y r)) := ⟨fun r => Classical.choose (hex r), fun r => Classical.choose_spec (hex r)⟩
    refine ⟨(List.range len).map Y, ?_, by simp⟩
    by_cases h0 : len = 0
    · subst h0; exact .l0 _ _ _
    · obtain ⟨bb, bo, spot⟩ := b
      have hc0 := (hr 0 (by omega)).1
      have hspot : spot = none := by simpa [Addr.add] using World.cell?_spot hc0
      subst hspot
      have hlen : (((List.range len).map Y).map lD).length = ((List.range len).map Y).length := by simp
      have := Rd.l (S := fun _ => True) (w := W) 1 bb bo cap (((List.range len).map Y).map lD) (fun j _ => .slice (A j) (L j) (C j)) trivial (World.block_lt_of_cell? W _ hc0) (by simp; omega) (by simp [lD]) (fun j q hj hq => by
        have hjl : j < len := by simpa using hj
        have c1 := (hr j (by omega)).1
        rw [Addr.add_lit] at c1
        obtain rfl : q = 0 := by omega
        rw [Nat.mul_one, Nat.add_zero]
        exact ⟨c1, rfl⟩) (fun j q r d hj hq => by
        have hjl : j < len := by have := (List.getElem?_eq_some_iff.1 hj).1; simpa using this
        simp [lD, hjl] at hj
        subst hj
        have hq0 : q = 0 := by have := (List.getElem?_eq_some_iff.1 hq).1; simpa using this
        subst hq0
        simp at hq
        subst hq
        exact hY j hjl)
      rw [hlen] at this
      exact this
set_option maxRecDepth 100000
set_option maxHeartbeats 4000000
theorem netorder_walk (ls : List (List Int)) (tw : Nat) (p3 : Option Addr) (c3 : Nat) (w0 : World) (htw : tw ≤ 255) (h0 : Rd (fun _ => True) w0 (.slice p3 ls.length c3) (.l 1 (ls.map lD))) :
    Calls Try.prog 4 #[.slice p3 ls.length c3, .int .u8 (tw : Int)] w0 fun e w' => e = .returned (.bool true) ∧ Below w0.heap.size w0 w' := by
  refine enter (fn := Try.f4) Try.func4 rfl Try.ntmps4 rfl (fun a0 ha0 => ?_)
  simp only [List.zipIdx_cons, List.zipIdx_nil, List.map_cons, List.map_nil, Nat.reduceAdd, Nat.zero_add] at ha0
  have m0 := (MemOk.start (fun _ => True) w0).dat 3 rfl (h0.cast (fun _ _ => free_nil (fun _ => trivial)))
  refine wp_seq_k (fun K0 hK0 => ?_)
  refine wp_region_lit ?_
  refine st_y ha0 rfl (y_assign ha0 rfl) ?_
  clear ha0 a0; intro a1 ha1
  refine wpList_nil ?_
  refine hK0 _ _ ?_; clear hK0; try clear K0
  refine wp_seq_k (fun K1 hK1 => ?_)
  refine wp_seq_k (fun K2 hK2 => ?_)
  refine wp_region_lit ?_
  refine wpList_plain rfl (fun K hK => ?_)
  refine e_call ha1 Try.func6 rfl rfl rfl rfl (nknown_any _) ?_
  rintro e w2 ⟨rfl, hb2⟩
  have m3 := m0.later hb2
  clear m0
  clear hb2
  refine ⟨_, rfl, fun a4 ha4 => ?_⟩; clear ha1 a1
  refine hK _ _ ?_; clear hK K
  refine st_y ha4 rfl (y_not ha4 rfl) ?_
  clear ha4 a4; intro a5 ha5
  refine wpList_nil ?_
  refine hK2 _ _ ?_; clear hK2; try clear K2
  refine wp_cond_false (ha5.ev (x := .tmp 13) rfl) ?_
  refine wp_skip ?_
  refine hK1 _ _ ?_; clear hK1; try clear K1
  refine wp_seq_k (fun K3 hK3 => ?_)
  refine wp_seq_k (fun K4 hK4 => ?_)
  refine wp_region_lit ?_
  refine st_y ha5 rfl (y_move ha5 rfl) ?_
  clear ha5 a5; intro a6 ha6
  refine st_y ha6 rfl (y_len ha6 rfl Try.underlying43) ?_
  clear ha6 a6; intro a7 ha7
  refine st_y ha7 rfl (y_gtr ha7 rfl rfl) ?_
  clear ha7 a7; intro a8 ha8
  refine st_y ha8 rfl (y_move ha8 rfl) ?_
  clear ha8 a8; intro a9 ha9
  refine bool_cases ha9 (t := 17) rfl (fun hb10 ha10 => ?_) (fun hb10 ha10 => ?_)
  · skip
    clear ha9
    try simp only [decide_eq_true_eq, decide_eq_false_iff_not, Bool.not_eq_true, Bool.not_eq_false, Bool.not_eq_eq_eq_not, Bool.not_true, Bool.not_false, Bool.not_not, Int.not_lt, Int.not_le, ne_eq, Decidable.not_not] at hb10
    refine st_skip ha10 rfl rfl rfl rfl ?_
    clear ha10 a9; intro a11 ha11
    refine st_skip ha11 rfl rfl rfl rfl ?_
    clear ha11 a11; intro a12 ha12
    refine st_skip ha12 rfl rfl rfl rfl ?_
    clear ha12 a12; intro a13 ha13
    refine st_y ha13 rfl (y_pickT ha13 rfl rfl) ?_
    clear ha13 a13; intro a14 ha14
    refine wpList_nil ?_
    refine hK4 _ _ ?_; clear hK4; try clear K4
    refine wp_cond_true (ha14.ev (x := .tmp 21) rfl) ?_
    refine wp_seq_k (fun K5 hK5 => ?_)
    have ha15 : Has 126 [(0, _), (1, _), (4, _)] a14 := ha14.only [0, 1, 4]; clear ha14
    refine wp_region_lit ?_
    refine st_y ha15 rfl (y_assign ha15 rfl) ?_
    clear ha15 a14; intro a16 ha16
    refine wpList_nil ?_
    refine hK5 _ _ ?_; clear hK5; try clear K5
    refine wp_ret ?_
    try dsimp only [Exit.then, Exit.inBlock]
    refine (ret1 (fn := Try.f4) ha16 rfl rfl ?_)
    exact ⟨by simp, m3.below⟩
  · skip
    clear ha9
    try simp only [decide_eq_true_eq, decide_eq_false_iff_not, Bool.not_eq_true, Bool.not_eq_false, Bool.not_eq_eq_eq_not, Bool.not_true, Bool.not_false, Bool.not_not, Int.not_lt, Int.not_le, ne_eq, Decidable.not_not] at hb10
    refine st_g ha10 rfl rfl rfl rfl (y_move ha10 rfl) ?_
    clear ha10 a9; intro a17 ha17
    refine st_g ha17 rfl rfl rfl rfl (y_len ha17 rfl Try.underlying43) ?_
    clear ha17 a17; intro a18 ha18
    refine st_g ha18 rfl rfl rfl rfl (y_eql ha18 rfl rfl) ?_
    clear ha18 a18; intro a19 ha19
    refine st_y ha19 rfl (y_pickF ha19 rfl rfl) ?_
    clear ha19 a19; intro a20 ha20
    refine wpList_nil ?_
    refine hK4 _ _ ?_; clear hK4; try clear K4
    refine bool_cases ha20 (t := 21) rfl (fun hb21 ha21 => ?_) (fun hb21 ha21 => ?_)
    · skip
      clear ha20
      try simp only [decide_eq_true_eq, decide_eq_false_iff_not, Bool.not_eq_true, Bool.not_eq_false, Bool.not_eq_eq_eq_not, Bool.not_true, Bool.not_false, Bool.not_not, Int.not_lt, Int.not_le, ne_eq, Decidable.not_not] at hb21
      refine wp_cond_true (ha21.ev (x := .tmp 21) rfl) ?_
      refine wp_seq_k (fun K6 hK6 => ?_)
      have ha22 : Has 126 [(0, _), (1, _), (4, _)] a20 := ha21.only [0, 1, 4]; clear ha21
      refine wp_region_lit ?_
      refine st_y ha22 rfl (y_assign ha22 rfl) ?_
      clear ha22 a20; intro a23 ha23
      refine wpList_nil ?_
      refine hK6 _ _ ?_; clear hK6; try clear K6
      refine wp_ret ?_
      try dsimp only [Exit.then, Exit.inBlock]
      refine (ret1 (fn := Try.f4) ha23 rfl rfl ?_)
      exact ⟨by simp, m3.below⟩
    · skip
      clear ha20
      try simp only [decide_eq_true_eq, decide_eq_false_iff_not, Bool.not_eq_true, Bool.not_eq_false, Bool.not_eq_eq_eq_not, Bool.not_true, Bool.not_false, Bool.not_not, Int.not_lt, Int.not_le, ne_eq, Decidable.not_not] at hb21
      refine wp_cond_false (ha21.ev (x := .tmp 21) rfl) ?_
      refine wp_skip ?_
      refine hK3 _ _ ?_; clear hK3; try clear K3
      refine wp_seq_k (fun K7 hK7 => ?_)
      have ha24 : Has 126 [(0, _), (1, _), (4, _)] a20 := ha21.only [0, 1, 4]; clear ha21
      refine wp_region_lit ?_
      refine wpList_plain rfl (fun K hK => ?_)
      refine e_call ha24 Try.func7 rfl rfl rfl rfl (new_any _) ?_
      rintro e w25 ⟨B25, rfl, ⟨hB25, hg25⟩, hb25⟩
      have m26 := m3.newBox 1 hb25 hB25 (hg25.resolve_right (by simp [cx]))
      clear m3
      have m27 := m26.nilS 2 35 3
      clear m26
      clear hb25 hB25 hg25
      refine ⟨_, rfl, fun a28 ha28 => ?_⟩; clear ha24 a20
      refine hK _ _ ?_; clear hK K
      refine st_y ha28 rfl (y_assign ha28 rfl) ?_
      clear ha28 a28; intro a29 ha29
      refine wpList_nil ?_
      refine hK7 _ _ ?_; clear hK7; try clear K7
      refine wp_seq_k (fun K8 hK8 => ?_)
      refine wp_region_lit ?_
      have m30 := m27.nilS 4 35 3; clear m27
      refine st_y ha29 rfl (y_assign ha29 rfl) ?_
      clear ha29 a29; intro a31 ha31
      refine wpList_nil ?_
      refine hK8 _ _ ?_; clear hK8; try clear K8
      refine wp_seq_k (fun K9 hK9 => ?_)
      refine wp_seq_k (fun K10 hK10 => ?_)
      refine wp_region_lit ?_
      refine st_y ha31 rfl (y_assign ha31 rfl) ?_
      clear ha31 a31; intro a32 ha32
      refine wpList_nil ?_
      refine hK10 _ _ ?_; clear hK10; try clear K10
      refine wp_block ?_
      refine wp_loop_ghost (fun g a w => ∃ (i B : Nat) (pa p3 : Option Addr) (ca c3 : Nat), i ≤ ls.length ∧ g = ls.length - i ∧ (∀ j, j < i → (ls.getD j []).length ≤ 40) ∧ Has 126 [(0, .slice p3 ls.length c3), (1, .int .u8 (tw : Int)), (5, .pointer (some ⟨B, 0, none⟩)), (6, .slice pa ((allF ls i).map flD).length ca), (7, .int .i64 i)] a ∧ MemOk (cx (fun _ => True) w0) w0 [(1, .box B 48 [.slice none 0 0]), (2, .seg (.slice none 0 0) 35 3 []), (3, .dat (.slice p3 ls.length c3) (.l 1 (ls.map lD))), (4, .seg (.slice pa ((allF ls i).map flD).length ca) 35 3 ((allF ls i).map flD))] w) (ls.length) ?_ ?_
      · exact ⟨0, _, _, _, _, _, Nat.zero_le _, rfl, (fun j hj => by omega), ha32.only [0, 1, 5, 6, 7], m30.only [1, 2, 3, 4]⟩
      · skip
        clear ha32 m30
        rintro g a33 w33 ⟨i, B, pa, p3, ca, c3, hil, hg, hsh, ha33, m33⟩
        refine wp_seq_k (fun K11 hK11 => ?_)
        refine wp_seq_k (fun K12 hK12 => ?_)
        refine wp_region_lit ?_
        refine st_y ha33 rfl (y_move ha33 rfl) ?_
        clear ha33 a33; intro a34 ha34
        refine st_y ha34 rfl (y_move ha34 rfl) ?_
        clear ha34 a34; intro a35 ha35
        refine st_y ha35 rfl (y_len ha35 rfl Try.underlying43) ?_
        clear ha35 a35; intro a36 ha36
        refine st_y ha36 rfl (y_lss ha36 rfl rfl) ?_
        clear ha36 a36; intro a37 ha37
        refine wpList_nil ?_
        refine hK12 _ _ ?_; clear hK12; try clear K12
        refine bool_cases ha37 (t := 26) rfl (fun hb38 ha38 => ?_) (fun hb38 ha38 => ?_)
        · skip
          clear ha37
          try simp only [decide_eq_true_eq, decide_eq_false_iff_not, Bool.not_eq_true, Bool.not_eq_false, Bool.not_eq_eq_eq_not, Bool.not_true, Bool.not_false, Bool.not_not, Int.not_lt, Int.not_le, ne_eq, Decidable.not_not] at hb38
          have hi : i < ls.length := by omega
          refine wp_cond_true (ha38.ev (x := .tmp 26) rfl) ?_
          refine wp_skip ?_
          refine hK11 _ _ ?_; clear hK11; try clear K11
          refine wp_seq_k (fun K13 hK13 => ?_)
          refine wp_block ?_
          refine wp_seq_k (fun K14 hK14 => ?_)
          refine wp_seq_k (fun K15 hK15 => ?_)
          refine wp_region_lit ?_
          refine st_y ha38 rfl (y_move ha38 rfl) ?_
          clear ha38 a37; intro a39 ha39
          refine st_y ha39 rfl (y_move ha39 rfl) ?_
          clear ha39 a39; intro a40 ha40
          obtain ⟨b41, o41, vs41, hp41, hR41, ho41, m41⟩ := m33.openR (i := 3) rfl (i) (r := [.ns .u8 (ls.getD i [])]) (ls_get hi) 100 rfl
          cases hp41; clear m33 ho41
          rcases hR41 with _ | ⟨hd41_0, _ | _⟩
          obtain ⟨p42, c42, hv42, hc42⟩ := hd41_0.ns_shape; subst hv42
          have m42 := m41.dat 101 rfl (hd41_0.cast (fun _ h => (free_add rfl h))); clear m41 hd41_0
          refine st_y ha40 rfl (y_idx ha40 rfl rfl Try.underlying43 sz33o (i) rfl hi) ?_
          clear ha40 a40; intro a43 ha43
          refine st_y ha43 rfl (y_loadC0 ha43 m42 (i := 100) rfl rfl Try.underlying33 rfl) ?_
          clear ha43 a43; intro a44 ha44
          refine st_y ha44 rfl (y_len ha44 rfl Try.underlying33) ?_
          clear ha44 a44; intro a45 ha45
          refine st_y ha45 rfl (y_gtr ha45 rfl rfl) ?_
          clear ha45 a45; intro a46 ha46
          refine wpList_nil ?_
          refine hK15 _ _ ?_; clear hK15; try clear K15
          refine bool_cases ha46 (t := 34) rfl (fun hb47 ha47 => ?_) (fun hb47 ha47 => ?_)
          · skip
            clear ha46
            try simp only [decide_eq_true_eq, decide_eq_false_iff_not, Bool.not_eq_true, Bool.not_eq_false, Bool.not_eq_eq_eq_not, Bool.not_true, Bool.not_false, Bool.not_not, Int.not_lt, Int.not_le, ne_eq, Decidable.not_not] at hb47
            refine wp_cond_true (ha47.ev (x := .tmp 34) rfl) ?_
            refine wp_seq_k (fun K16 hK16 => ?_)
            have ha48 : Has 126 [(0, _), (1, _), (5, _), (6, _), (7, _)] a46 := ha47.only [0, 1, 5, 6, 7]; clear ha47
            refine wp_region_lit ?_
            refine st_y ha48 rfl (y_assign ha48 rfl) ?_
            clear ha48 a46; intro a49 ha49
            refine wpList_nil ?_
            refine hK16 _ _ ?_; clear hK16; try clear K16
            refine wp_ret ?_
            try dsimp only [Exit.then, Exit.inBlock]
            refine (ret1 (fn := Try.f4) ha49 rfl rfl ?_)
            exact ⟨by simp, m42.below⟩
          · skip
            clear ha46
            try simp only [decide_eq_true_eq, decide_eq_false_iff_not, Bool.not_eq_true, Bool.not_eq_false, Bool.not_eq_eq_eq_not, Bool.not_true, Bool.not_false, Bool.not_not, Int.not_lt, Int.not_le, ne_eq, Decidable.not_not] at hb47
            refine wp_cond_false (ha47.ev (x := .tmp 34) rfl) ?_
            refine wp_skip ?_
            refine hK14 _ _ ?_; clear hK14; try clear K14
            have ha50 : Has 126 [(0, _), (1, _), (5, _), (6, _), (7, _)] a46 := ha47.only [0, 1, 5, 6, 7]; clear ha47
            refine wp_region_lit ?_
            refine st_y ha50 rfl (y_move ha50 rfl) ?_
            clear ha50 a46; intro a51 ha51
            refine st_y ha51 rfl (y_move ha51 rfl) ?_
            clear ha51 a51; intro a52 ha52
            refine st_y ha52 rfl (y_rem ha52 rfl rfl (by decide) rfl) ?_
            clear ha52 a52; intro a53 ha53
            refine st_y ha53 rfl (y_move ha53 rfl) ?_
            clear ha53 a53; intro a54 ha54
            refine st_y ha54 rfl (y_add ha54 rfl rfl (r := ((i + 1 : Nat) : Int)) (by rw [IntWalk.i64_in _ (by omega)]; omega)) ?_
            clear ha54 a54; intro a55 ha55
            refine st_y ha55 rfl (y_rem ha55 rfl rfl (by decide) rfl) ?_
            clear ha55 a55; intro a56 ha56
            refine st_y ha56 rfl (y_move ha56 rfl) ?_
            clear ha56 a56; intro a57 ha57
            refine st_y ha57 rfl (y_move ha57 rfl) ?_
            clear ha57 a57; intro a58 ha58
            obtain ⟨b59, o59, vs59, hp59, hR59, ho59, m59⟩ := m42.openR (i := 3) rfl (i) (r := [.ns .u8 (ls.getD i [])]) (ls_get hi) 102 rfl
            cases hp59; clear m42 ho59
            rcases hR59 with _ | ⟨hd59_0, _ | _⟩
            obtain ⟨p60, c60, hv60, hc60⟩ := hd59_0.ns_shape; subst hv60
            have m60 := m59.dat 103 rfl (hd59_0.cast (fun _ h => (free_add rfl h))); clear m59 hd59_0
            refine st_y ha58 rfl (y_idx ha58 rfl rfl Try.underlying43 sz33o (i) rfl hi) ?_
            clear ha58 a58; intro a61 ha61
            refine st_y ha61 rfl (y_loadC0 ha61 m60 (i := 102) rfl rfl Try.underlying33 rfl) ?_
            clear ha61 a61; intro a62 ha62
            refine st_y ha62 rfl (y_build ha62 rfl zc35o fl35o rfl (by dsimp only [setL, List.set] <;> rfl)) ?_
            clear ha62 a62; intro a63 ha63
            refine wpList_plain rfl (fun K hK => ?_)
            refine e_litR ha63 m60 104 (mm := 3) rfl (.cons rfl rfl (.cons (.v _) (.cons (.v _) (.cons (m60.rd (i := 103) rfl) .nil))) <| .nil) Try.underlying27 inf35o rfl rfl rfl rfl rfl ?_
            clear ha63 a63 m60; intro g64 a65 w65 ha65 m65 
            refine hK _ _ ?_; clear hK K
            have m67 := m65.freezeR 104 rfl; clear m65
            refine wpList_plain rfl (fun K hK => ?_)
            refine e_appSA ha65 m67 4 rfl rfl rfl (m67.rd (i := 104) rfl).cells Try.underlying27 inf35o rfl rfl (by decide) (by simp [allF]; omega) rfl ?_
            clear ha65 a65 m67; intro p66 c66 a68 w68 ha68 m68 
            refine hK _ _ ?_; clear hK K
            refine st_y ha68 rfl (y_assign ha68 rfl) ?_
            clear ha68 a68; intro a69 ha69
            refine wpList_nil ?_
            refine hK13 _ _ ?_; clear hK13; try clear K13
            have ha70 : Has 126 [(0, _), (1, _), (5, _), (6, _), (7, _)] a69 := ha69.only [0, 1, 5, 6, 7]; clear ha69
            refine wp_region_lit ?_
            refine st_y ha70 rfl (y_move ha70 rfl) ?_
            clear ha70 a69; intro a71 ha71
            refine st_y ha71 rfl (y_add ha71 rfl rfl (r := ((i + 1 : Nat) : Int)) (by rw [IntWalk.i64_in _ (by omega)]; omega)) ?_
            clear ha71 a71; intro a72 ha72
            refine st_y ha72 rfl (y_assign ha72 rfl) ?_
            clear ha72 a72; intro a73 ha73
            refine wpList_nil ?_
            show ∃ n', n' < _ ∧ _
            have hE : ((allF ls i).map flD) ++ [[D.v (.int .i64 ((i : Int).tmod 3)), .v (.int .i64 (((i + 1 : Nat) : Int).tmod 3)), .ns .u8 (ls.getD i [])]] = ((allF ls (i + 1)).map flD) := by rw [allF_snoc, List.map_append]; rfl
            rw [hE] at m68 ha73
            exact ⟨ls.length - (i + 1), by omega, i + 1, _, _, _, _, _, by omega, rfl, sh_snoc hsh (by omega), ha73.only [0, 1, 5, 6, 7], m68.only [1, 2, 3, 4]⟩
        · skip
          clear ha37
          try simp only [decide_eq_true_eq, decide_eq_false_iff_not, Bool.not_eq_true, Bool.not_eq_false, Bool.not_eq_eq_eq_not, Bool.not_true, Bool.not_false, Bool.not_not, Int.not_lt, Int.not_le, ne_eq, Decidable.not_not] at hb38
          obtain rfl : i = ls.length := by omega
          obtain ⟨AL, hALe⟩ : ∃ x, allF ls ls.length = x := ⟨_, rfl⟩
          have hALl : AL.length = ls.length := by rw [← hALe]; simp [allF]
          have hALs : ∀ f ∈ AL, f.2.2.length ≤ 100000 := by rw [← hALe]; exact allF_short hsh
          rw [hALe] at m33 ha38
          obtain ⟨kk, hkk⟩ : ∃ x, tw % (AL.map flD).length = x := ⟨_, rfl⟩
          have hkl : kk < AL.length := by rw [← hkk, List.length_map]; exact Nat.mod_lt _ (by omega)
          obtain ⟨⟨kf, kt, kd⟩, hkf⟩ : ∃ e, AL[kk]? = some e := ⟨_, List.getElem?_eq_getElem hkl⟩
          have hkd := hALs _ (List.mem_of_getElem? hkf)
          dsimp only at hkd
          refine wp_cond_false (ha38.ev (x := .tmp 26) rfl) ?_
          refine wp_exit ?_
          refine hK9 _ _ ?_; clear hK9; try clear K9
          refine wp_seq_k (fun K17 hK17 => ?_)
          refine wp_region_lit ?_
          refine st_y ha38 rfl (y_move ha38 rfl) ?_
          clear ha38 a37; intro a74 ha74
          refine st_y ha74 rfl (y_move ha74 rfl) ?_
          clear ha74 a74; intro a75 ha75
          refine st_y ha75 rfl (y_move ha75 rfl) ?_
          clear ha75 a75; intro a76 ha76
          refine st_y ha76 rfl (y_len ha76 rfl Try.underlying27) ?_
          clear ha76 a76; intro a77 ha77
          refine st_y ha77 rfl (y_quo ha77 rfl rfl (by decide) (r := (((AL.length / 2) : Nat) : Int)) (by rw [List.length_map, Int.tdiv_eq_ediv_of_nonneg (by omega), IntWalk.i64_in _ (by omega)]; omega)) ?_
          clear ha77 a77; intro a78 ha78
          refine st_y ha78 rfl (y_sliceHn ha78 (AL.take (AL.length / 2)).length rfl rfl Try.underlying27 sz35o (by rw [List.length_take]; omega) (by have := m33.capS (i := 4) rfl; simp at this ⊢; omega)) ?_
          clear ha78 a78; intro a79 ha79
          have hlS := ((m33.ok 4 _ rfl : Res.ok _ _ _ _ (.seg _ _ _ _)).1.take (AL.length / 2) (by simp; omega)).rd (S' := fun b => Free _ _ b ∨ Value.ownBlock (.slice _ _ _) = some b) (fun b _ hF => .inl hF) (fun b hb => .inr hb)
          rw [← List.map_take] at hlS
          have hsS := fun b (hb : _ ∨ (Value.slice pa (AL.length / 2) ca).ownBlock = some b) => m33.argS (i := 1) (j := 2) (q := 4) (by decide) (by decide) rfl rfl rfl b (hb.imp_right own_len)
          skip
          refine wpList_plain rfl (fun K hK => ?_)
          refine e_call ha79 Try.func8 rfl rfl rfl rfl (send_ext _ _ _ _ _ (AL.take (AL.length / 2)) _ _ _ (m33.ok 1 _ rfl : Res.ok _ _ _ _ (.box _ _ _)).1 (m33.segP (i := 1) (j := 2) rfl rfl) (m33.neP (i := 1) (j := 2) (by decide) rfl rfl) (hlS.lenEq (by simp; try omega)) hsS (by simp; omega) (fun f hf => hALs f (List.mem_of_mem_take hf))) ?_
          rintro e w80 ⟨rfl, v80, hp80⟩
          have m81 := m33.callP 1 2 (by decide) rfl rfl hp80
          clear m33
          obtain ⟨p80, c80, hv80⟩ := hp80.2.1.shape
          subst hv80
          clear hp80
          refine ⟨_, rfl, fun a82 ha82 => ?_⟩; clear ha79 a79
          refine hK _ _ ?_; clear hK K
          clear hlS hsS
          rw [List.nil_append] at m81
          refine wpList_nil ?_
          refine hK17 _ _ ?_; clear hK17; try clear K17
          refine wp_seq_k (fun K18 hK18 => ?_)
          have ha83 : Has 126 [(0, _), (1, _), (5, _), (6, _), (7, _)] a82 := ha82.only [0, 1, 5, 6, 7]; clear ha82
          refine wp_region_lit ?_
          refine st_y ha83 rfl (y_move ha83 rfl) ?_
          clear ha83 a82; intro a84 ha84
          refine st_y ha84 rfl (y_move ha84 rfl) ?_
          clear ha84 a84; intro a85 ha85
          refine st_y ha85 rfl (y_move ha85 rfl) ?_
          clear ha85 a85; intro a86 ha86
          refine st_y ha86 rfl (y_len ha86 rfl Try.underlying27) ?_
          clear ha86 a86; intro a87 ha87
          refine st_y ha87 rfl (y_quo ha87 rfl rfl (by decide) (r := (((AL.length / 2) : Nat) : Int)) (by rw [List.length_map, Int.tdiv_eq_ediv_of_nonneg (by omega), IntWalk.i64_in _ (by omega)]; omega)) ?_
          clear ha87 a87; intro a88 ha88
          refine st_y ha88 rfl (y_sliceLn ha88 (AL.length / 2) rfl rfl Try.underlying27 sz35o rfl (by simp; omega)) ?_
          clear ha88 a88; intro a89 ha89
          rw [show (AL.map flD).length - (AL.length / 2) = (AL.drop (AL.length / 2)).length from by simp] at ha89
          have md90 := m81.dropS 4 rfl (AL.length / 2) (by simp; omega) (by simp; omega)
          rw [← List.map_drop] at md90
          have hlS := (md90.ok 4 _ rfl : Res.ok _ _ _ _ (.seg _ _ _ _)).1.rd (S' := fun b => Free _ _ b ∨ Value.ownBlock (.slice _ _ _) = some b) (fun b _ hF => .inl hF) (fun b hb => .inr hb)
          have hsS := fun b (hb : _ ∨ _) => md90.argS (i := 1) (j := 2) (q := 4) (by decide) (by decide) rfl rfl rfl b hb
          clear md90
          skip
          refine wpList_plain rfl (fun K hK => ?_)
          refine e_call ha89 Try.func8 rfl rfl rfl rfl (send_ext _ _ _ _ _ (AL.drop (AL.length / 2)) _ _ _ (m81.ok 1 _ rfl : Res.ok _ _ _ _ (.box _ _ _)).1 (m81.segP (i := 1) (j := 2) rfl rfl) (m81.neP (i := 1) (j := 2) (by decide) rfl rfl) (hlS.lenEq (by simp; try omega)) hsS (by simp; omega) (fun f hf => hALs f (List.mem_of_mem_drop hf))) ?_
          rintro e w91 ⟨rfl, v91, hp91⟩
          have m92 := m81.callP 1 2 (by decide) rfl rfl hp91
          clear m81
          obtain ⟨p91, c91, hv91⟩ := hp91.2.1.shape
          subst hv91
          clear hp91
          refine ⟨_, rfl, fun a93 ha93 => ?_⟩; clear ha89 a89
          refine hK _ _ ?_; clear hK K
          clear hlS hsS
          rw [← List.map_append, List.take_append_drop] at m92
          refine wpList_nil ?_
          refine hK18 _ _ ?_; clear hK18; try clear K18
          refine wp_seq_k (fun K19 hK19 => ?_)
          have ha94 : Has 126 [(0, _), (1, _), (5, _), (6, _), (7, _)] a93 := ha93.only [0, 1, 5, 6, 7]; clear ha93
          refine wp_region_lit ?_
          refine st_y ha94 rfl (y_move ha94 rfl) ?_
          clear ha94 a93; intro a95 ha95
          refine st_y ha95 rfl (y_conv ha95 rfl Try.underlying5 Try.underlying3 (IntWalk.i64_in _ (by omega))) ?_
          clear ha95 a95; intro a96 ha96
          refine st_y ha96 rfl (y_move ha96 rfl) ?_
          clear ha96 a96; intro a97 ha97
          refine st_y ha97 rfl (y_len ha97 rfl Try.underlying27) ?_
          clear ha97 a97; intro a98 ha98
          refine st_y ha98 rfl (y_rem ha98 rfl rfl (by rw [List.length_map]; omega) (r := (kk : Int)) (by rw [tmod_nat, hkk])) ?_
          clear ha98 a98; intro a99 ha99
          refine st_y ha99 rfl (y_assign ha99 rfl) ?_
          clear ha99 a99; intro a100 ha100
          refine wpList_nil ?_
          refine hK19 _ _ ?_; clear hK19; try clear K19
          refine wp_seq_k (fun K20 hK20 => ?_)
          refine wp_seq_k (fun K21 hK21 => ?_)
          refine wp_region_lit ?_
          refine st_y ha100 rfl (y_move ha100 rfl) ?_
          clear ha100 a100; intro a101 ha101
          refine st_y ha101 rfl (y_move ha101 rfl) ?_
          clear ha101 a101; intro a102 ha102
          refine wpList_plain rfl (fun K hK => ?_)
          refine e_call ha102 Try.func13 rfl rfl rfl rfl (twice_yes _ _ _ _ kk AL _ _ _ _ (m92.ok 1 _ rfl : Res.ok _ _ _ _ (.box _ _ _)).1 (m92.segP (i := 1) (j := 2) rfl rfl) (m92.neP (i := 1) (j := 2) (by decide) rfl rfl) (by omega) hkf hkd) ?_
          rintro e w103 ⟨v103, rfl, hp103⟩
          have m104 := m92.callP 1 2 (by decide) rfl rfl hp103
          clear m92
          obtain ⟨p103, c103, hv103⟩ := hp103.2.1.shape
          subst hv103
          clear hp103
          refine ⟨_, rfl, fun a105 ha105 => ?_⟩; clear ha102 a102
          refine hK _ _ ?_; clear hK K
          refine st_y ha105 rfl (y_not ha105 rfl) ?_
          clear ha105 a105; intro a106 ha106
          refine wpList_nil ?_
          refine hK21 _ _ ?_; clear hK21; try clear K21
          refine wp_cond_false (ha106.ev (x := .tmp 70) rfl) ?_
          refine wp_skip ?_
          refine hK20 _ _ ?_; clear hK20; try clear K20
          refine wp_seq_k (fun K22 hK22 => ?_)
          have ha107 : Has 126 [(0, _), (1, _), (5, _), (6, _), (7, _), (8, _)] a106 := ha106.only [0, 1, 5, 6, 7, 8]; clear ha106
          refine wp_region_lit ?_
          refine st_y ha107 rfl (y_move ha107 rfl) ?_
          clear ha107 a106; intro a108 ha108
          refine st_y ha108 rfl (y_move ha108 rfl) ?_
          clear ha108 a108; intro a109 ha109
          refine st_y ha109 rfl (y_move ha109 rfl) ?_
          clear ha109 a109; intro a110 ha110
          obtain ⟨gs111, os111, vs111, hp111, hl111, hR111, hrg111⟩ := m104.openS (i := 4) rfl (kk) (r := [.v (.int .i64 kf), .v (.int .i64 kt), .ns .u8 kd]) (fl_get hkf)
          cases hp111; clear hl111
          rcases hR111 with _ | ⟨hd111_0, _ | ⟨hd111_1, _ | ⟨hd111_2, _ | _⟩⟩⟩
          obtain rfl := hd111_0.v_out
          clear hd111_0
          obtain rfl := hd111_1.v_out
          clear hd111_1
          obtain ⟨p112, c112, hv112, hw112⟩ := hd111_2.ns_shape; subst hv112
          have m112 := m104.dat 100 rfl (hd111_2.cast (fun _ h => h)); clear m104 hd111_2
          refine st_y ha110 rfl (y_idx ha110 rfl rfl Try.underlying27 sz35o (kk) rfl (by rw [List.length_map]; exact hkl)) ?_
          clear ha110 a110; intro a113 ha113
          refine st_y ha113 rfl (y_loadAt ha113 hrg111 rfl Try.underlying35 rfl sz35o) ?_
          clear ha113 a113; intro a114 ha114
          refine wpList_plain rfl (fun K hK => ?_)
          refine e_litR ha114 m112 101 (mm := 3) rfl (.cons rfl rfl (.cons (.v _) (.cons (.v _) (.cons (m112.rd (i := 100) rfl) .nil))) <| .nil) Try.underlying27 inf35o rfl rfl rfl rfl rfl ?_
          clear ha114 a114 m112; intro g115 a116 w116 ha116 m116 
          refine hK _ _ ?_; clear hK K
          have m118 := m116.freezeR 101 rfl; clear m116
          refine wpList_plain rfl (fun K hK => ?_)
          refine e_appSA ha116 m118 4 rfl rfl rfl (m118.rd (i := 101) rfl).cells Try.underlying27 inf35o rfl rfl (by decide) (by simp; omega) rfl ?_
          clear ha116 a116 m118; intro p117 c117 a119 w119 ha119 m119 
          refine hK _ _ ?_; clear hK K
          refine st_y ha119 rfl (y_assign ha119 rfl) ?_
          clear ha119 a119; intro a120 ha120
          refine wpList_nil ?_
          refine hK22 _ _ ?_; clear hK22; try clear K22
          refine wp_seq_k (fun K23 hK23 => ?_)
          refine wp_seq_k (fun K24 hK24 => ?_)
          have ha121 : Has 126 [(0, _), (1, _), (5, _), (6, _), (7, _)] a120 := ha120.only [0, 1, 5, 6, 7]; clear ha120
          refine wp_region_lit ?_
          refine st_y ha121 rfl (y_assign ha121 rfl) ?_
          clear ha121 a120; intro a122 ha122
          refine wpList_nil ?_
          refine hK24 _ _ ?_; clear hK24; try clear K24
          refine wp_block ?_
          have hE : AL.map flD ++ [[D.v (.int .i64 kf), .v (.int .i64 kt), .ns .u8 kd]] = (AL ++ [(kf, kt, kd)]).map flD := by rw [List.map_append]; rfl
          obtain ⟨AK, hAK⟩ : ∃ x, AL ++ [(kf, kt, kd)] = x := ⟨_, rfl⟩
          have hAKl : AK.length = AL.length + 1 := by rw [← hAK]; simp
          rw [hE] at m119 ha122
          rw [hAK] at m119 ha122
          have m123 := m119.freezeS 4 rfl (by simp [cx]); clear m119
          refine wp_loop_ghost (fun g a w => ∃ (k B : Nat) (pa pp : Option Addr) (ca cc : Nat), k ≤ AK.length ∧ g = AK.length - k ∧ Has 126 [(5, .pointer (some ⟨B, 0, none⟩)), (6, .slice pa (AK.map flD).length ca), (9, .int .i64 k)] a ∧ MemOk (cx (fun _ => True) w0) w0 [(1, .box B 48 [.slice pp ((AK.drop k).map flD).length cc]), (2, .seg (.slice pp ((AK.drop k).map flD).length cc) 35 3 ((AK.drop k).map flD)), (4, .dat (.slice pa (AK.map flD).length ca) (.l 3 (AK.map flD)))] w) (AK.length) ?_ ?_
          · exact ⟨0, _, _, _, _, _, Nat.zero_le _, rfl, ha122.only [5, 6, 9], m123.only [1, 2, 4]⟩
          · skip
            clear ha122 m123
            rintro g a124 w124 ⟨k, B, pa, pp, ca, cc, hkl2, hg, ha124, m124⟩
            refine wp_seq_k (fun K25 hK25 => ?_)
            refine wp_seq_k (fun K26 hK26 => ?_)
            refine wp_region_lit ?_
            refine st_y ha124 rfl (y_move ha124 rfl) ?_
            clear ha124 a124; intro a125 ha125
            refine st_y ha125 rfl (y_move ha125 rfl) ?_
            clear ha125 a125; intro a126 ha126
            refine st_y ha126 rfl (y_len ha126 rfl Try.underlying27) ?_
            clear ha126 a126; intro a127 ha127
            refine st_y ha127 rfl (y_lss ha127 rfl rfl) ?_
            clear ha127 a127; intro a128 ha128
            refine wpList_nil ?_
            refine hK26 _ _ ?_; clear hK26; try clear K26
            refine bool_cases ha128 (t := 81) rfl (fun hb129 ha129 => ?_) (fun hb129 ha129 => ?_)
            · skip
              clear ha128
              try simp only [decide_eq_true_eq, decide_eq_false_iff_not, Bool.not_eq_true, Bool.not_eq_false, Bool.not_eq_eq_eq_not, Bool.not_true, Bool.not_false, Bool.not_not, Int.not_lt, Int.not_le, ne_eq, Decidable.not_not] at hb129
              have hk : k < AK.length := by rw [List.length_map] at hb129; omega
              obtain ⟨⟨ff, ft, fd⟩, hfl⟩ : ∃ e, AK[k]? = some e := ⟨_, List.getElem?_eq_getElem hk⟩
              have hfl0 : (AK.drop k)[0]? = some (ff, ft, fd) := by rw [List.getElem?_drop]; simpa using hfl
              refine wp_cond_true (ha129.ev (x := .tmp 81) rfl) ?_
              refine wp_skip ?_
              refine hK25 _ _ ?_; clear hK25; try clear K25
              refine wp_seq_k (fun K27 hK27 => ?_)
              refine wp_block ?_
              refine wp_seq_k (fun K28 hK28 => ?_)
              refine wp_region_lit ?_
              refine st_y ha129 rfl (y_move ha129 rfl) ?_
              clear ha129 a128; intro a130 ha130
              refine wpList_plain rfl (fun K hK => ?_)
              refine e_call ha130 Try.func10 rfl rfl rfl rfl (take_yes _ _ _ _ 0 (AK.drop k) _ _ _ _ (m124.ok 1 _ rfl : Res.ok _ _ _ _ (.box _ _ _)).1 (m124.segP (i := 1) (j := 2) rfl rfl) (m124.neP (i := 1) (j := 2) (by decide) rfl rfl) (by simp; omega) hfl0) ?_
              rintro e w131 ⟨v131, pp131, cc131, rfl, hp131, hd131⟩
              rw [erase0] at hp131
              have hd131 := hd131.cast (fun b h => m124.freeC (i := 1) (j := 2) (pt := 48) (e := 35) (mm := 3) (rows' := ((AK.drop (k + 1)).map flD)) h)
              have m132 := m124.callP 1 2 (by decide) rfl rfl hp131
              clear m124
              have m133 := m132.dat 200 rfl hd131
              clear m132
              obtain ⟨p131, c131, hv131⟩ := hp131.2.1.shape
              subst hv131
              clear hp131 hd131
              refine ⟨_, rfl, fun a134 ha134 => ?_⟩; clear ha130 a130
              refine hK _ _ ?_; clear hK K
              refine st_y ha134 rfl (y_move ha134 rfl) ?_
              clear ha134 a134; intro a135 ha135
              refine st_y ha135 rfl (y_extract ha135 rfl rfl) ?_
              clear ha135 a135; intro a136 ha136
              refine st_y ha136 rfl (y_extract ha136 rfl rfl) ?_
              clear ha136 a136; intro a137 ha137
              refine wpList_plain rfl (fun K hK => ?_)
              refine e_alloc ha137 m133 201 zc35o rfl ?_
              clear ha137 a137 m133; intro g138 a139 w139 ha139 m139 hB139 hg139
              clear hB139 hg139
              refine hK _ _ ?_; clear hK K
              refine wpList_plain rfl (fun K hK => ?_)
              refine e_storeW ha139 m139 201 rfl rfl rfl rfl rfl sz35o ?_
              clear m139; intro w140 m140 hB140
              clear hB140
              refine hK _ _ ?_; clear hK K
              refine st_y ha139 rfl (y_assign ha139 rfl) ?_
              clear ha139 a139; intro a141 ha141
              refine wpList_nil ?_
              refine hK28 _ _ ?_; clear hK28; try clear K28
              refine wp_seq_k (fun K29 hK29 => ?_)
              have ha142 : Has 126 [(5, _), (6, _), (9, _), (10, _), (11, _)] a141 := ha141.only [5, 6, 9, 10, 11]; clear ha141
              obtain ⟨b143, o143, vs143, hp143, hR143, ho143, m143⟩ := m140.openR (i := 4) rfl (k) (r := [.v (.int .i64 ff), .v (.int .i64 ft), .ns .u8 fd]) (fl_get hfl) 202 rfl
              cases hp143; clear m140 ho143
              rcases hR143 with _ | ⟨hd143_0, _ | ⟨hd143_1, _ | ⟨hd143_2, _ | _⟩⟩⟩
              obtain rfl := hd143_0.v_out
              clear hd143_0
              obtain rfl := hd143_1.v_out
              clear hd143_1
              obtain ⟨p144, c144, hv144, hc144⟩ := hd143_2.ns_shape; subst hv144
              have m144 := m143.dat 203 rfl (hd143_2.cast (fun _ h => (free_add rfl h))); clear m143 hd143_2
              obtain ⟨b145, o145, vs145, hp145, hR145, ho145, m145⟩ := m144.openR (i := 4) rfl (k) (r := [.v (.int .i64 ff), .v (.int .i64 ft), .ns .u8 fd]) (fl_get hfl) 204 rfl
              cases hp145; clear m144 ho145
              rcases hR145 with _ | ⟨hd145_0, _ | ⟨hd145_1, _ | ⟨hd145_2, _ | _⟩⟩⟩
              obtain rfl := hd145_0.v_out
              clear hd145_0
              obtain rfl := hd145_1.v_out
              clear hd145_1
              obtain ⟨p146, c146, hv146, hc146⟩ := hd145_2.ns_shape; subst hv146
              have m146 := m145.dat 205 rfl (hd145_2.cast (fun _ h => (free_add rfl h))); clear m145 hd145_2
              obtain ⟨b147, o147, vs147, hp147, hR147, ho147, m147⟩ := m146.openR (i := 4) rfl (k) (r := [.v (.int .i64 ff), .v (.int .i64 ft), .ns .u8 fd]) (fl_get hfl) 206 rfl
              cases hp147; clear m146 ho147
              rcases hR147 with _ | ⟨hd147_0, _ | ⟨hd147_1, _ | ⟨hd147_2, _ | _⟩⟩⟩
              obtain rfl := hd147_0.v_out
              clear hd147_0
              obtain rfl := hd147_1.v_out
              clear hd147_1
              obtain ⟨p148, c148, hv148, hc148⟩ := hd147_2.ns_shape; subst hv148
              have m148 := m147.dat 207 rfl (hd147_2.cast (fun _ h => (free_add rfl h))); clear m147 hd147_2
              have m149 : MemOk _ _ [(1, _), (2, _), (4, _), (200, _), (201, _), (202, _), (203, _), (204, _), (205, _), (206, _), (207, _)] _ := m148.only [1, 2, 4, 200, 201, 202, 203, 204, 205, 206, 207]; clear m148
              refine region_m 34 (B := [(1, _), (2, _), (4, _), (200, _), (201, _), (202, _), (203, _), (204, _), (205, _), (206, _), (207, _)]) (m149.to ⟨.inl rfl, .inl rfl, .inl rfl, .inl rfl, .inl rfl, .inl rfl, .inl rfl, .inl rfl, .inl rfl, .inl rfl, .inl rfl, trivial⟩) m149 (by kernel_rfl) (fun w150 mB150 m150 => ?_); clear m149 mB150
              refine d_y 0 ha142 rfl rfl (fun _ => (m150.to ⟨.inl rfl, .inl rfl, .inl rfl, .inl rfl, .inl rfl, .inl rfl, .inl rfl, .inl rfl, .inl rfl, .inl rfl, .inl rfl, trivial⟩)) (by kernel_rfl) (by kernel_rfl) (by kernel_rfl) (by rfl) (fun _ _ _ h => h) (fun W => y_move ha142 rfl) ?_
              clear ha142 a141; intro a151 ha151
              refine d_y 1 ha151 rfl rfl (fun _ => (m150.to ⟨.inl rfl, .inl rfl, .inl rfl, .inl rfl, .inl rfl, .inl rfl, .inl rfl, .inl rfl, .inl rfl, .inl rfl, .inl rfl, trivial⟩)) (by kernel_rfl) (by kernel_rfl) (by kernel_rfl) (by rfl) (fun _ _ _ h => h) (fun W => y_not ha151 rfl) ?_
              clear ha151 a151; intro a152 ha152
              refine d_y 2 ha152 rfl rfl (fun _ => (m150.to ⟨.inl rfl, .inl rfl, .inl rfl, .inl rfl, .inl rfl, .inl rfl, .inl rfl, .inl rfl, .inl rfl, .inl rfl, .inl rfl, trivial⟩)) (by kernel_rfl) (by kernel_rfl) (by kernel_rfl) (by rfl) (fun _ _ _ h => h) (fun W => y_move ha152 rfl) ?_
              clear ha152 a152; intro a153 ha153
              refine d_yg 3 ha153 rfl rfl rfl rfl rfl (fun _ => (m150.to ⟨.inl rfl, .inl rfl, .inl rfl, .inl rfl, .inl rfl, .inl rfl, .inl rfl, .inl rfl, .inl rfl, .inl rfl, .inl rfl, trivial⟩)) (by kernel_rfl) (by kernel_rfl) (by kernel_rfl) (by rfl) (fun _ _ _ h => h) (fun W => y_fieldAddr ha153 (off := 0) rfl Try.underlying35 rfl (s := 0) (by kernel_rfl) rfl) ?_
              clear ha153 a153; intro a154 ha154
              refine d_hg 4 ha154 rfl rfl rfl rfl rfl (m150.to ⟨.inl rfl, .inl rfl, .inl rfl, .inl rfl, .inl rfl, .inl rfl, .inl rfl, .inl rfl, .inl rfl, .inl rfl, .inl rfl, trivial⟩) (by kernel_rfl) (by kernel_rfl) (by kernel_rfl) (by kernel_rfl) (by kernel_rfl) (fun _ _ _ h => h) (fun W hW => y_loadB1 ha154 hW (i := 201) rfl rfl rfl Try.underlying3 rfl) ?_
              clear ha154 a154; intro a155 ha155
              refine d_yg 5 ha155 rfl rfl rfl rfl rfl (fun _ => (m150.to ⟨.inl rfl, .inl rfl, .inl rfl, .inl rfl, .inl rfl, .inl rfl, .inl rfl, .inl rfl, .inl rfl, .inl rfl, .inl rfl, trivial⟩)) (by kernel_rfl) (by kernel_rfl) (by kernel_rfl) (by rfl) (fun _ _ _ h => h) (fun W => y_move ha155 rfl) ?_
              clear ha155 a155; intro a156 ha156
              refine d_yg 6 ha156 rfl rfl rfl rfl rfl (fun _ => (m150.to ⟨.inl rfl, .inl rfl, .inl rfl, .inl rfl, .inl rfl, .inl rfl, .inl rfl, .inl rfl, .inl rfl, .inl rfl, .inl rfl, trivial⟩)) (by kernel_rfl) (by kernel_rfl) (by kernel_rfl) (by rfl) (fun _ _ _ h => h) (fun W => y_move ha156 rfl) ?_
              clear ha156 a156; intro a157 ha157
              refine d_yg 7 ha157 rfl rfl rfl rfl rfl (fun _ => (m150.to ⟨.inl rfl, .inl rfl, .inl rfl, .inl rfl, .inl rfl, .inl rfl, .inl rfl, .inl rfl, .inl rfl, .inl rfl, .inl rfl, trivial⟩)) (by kernel_rfl) (by kernel_rfl) (by kernel_rfl) (by rfl) (fun _ _ _ h => h) (fun W => y_idx ha157 rfl rfl Try.underlying27 sz35o (k) rfl (by rw [List.length_map]; exact hk)) ?_
              clear ha157 a157; intro a158 ha158
              refine d_yg 8 ha158 rfl rfl rfl rfl rfl (fun _ => (m150.to ⟨.inl rfl, .inl rfl, .inl rfl, .inl rfl, .inl rfl, .inl rfl, .inl rfl, .inl rfl, .inl rfl, .inl rfl, .inl rfl, trivial⟩)) (by kernel_rfl) (by kernel_rfl) (by kernel_rfl) (by rfl) (fun _ _ _ h => h) (fun W => y_fieldAddrQ ha158 0 rfl Try.underlying35 rfl (s := 0) (by kernel_rfl) rfl) ?_
              clear ha158 a158; intro a159 ha159
              refine d_hg 9 ha159 rfl rfl rfl rfl rfl (m150.to ⟨.inl rfl, .inl rfl, .inl rfl, .inl rfl, .inl rfl, .inl rfl, .inl rfl, .inl rfl, .inl rfl, .inl rfl, .inl rfl, trivial⟩) (by kernel_rfl) (by kernel_rfl) (by kernel_rfl) (by kernel_rfl) (by kernel_rfl) (fun _ _ _ h => h) (fun W hW => y_loadC0 ha159 hW (i := 202) rfl rfl Try.underlying3 rfl) ?_
              clear ha159 a159; intro a160 ha160
              refine d_yg 10 ha160 rfl rfl rfl rfl rfl (fun _ => (m150.to ⟨.inl rfl, .inl rfl, .inl rfl, .inl rfl, .inl rfl, .inl rfl, .inl rfl, .inl rfl, .inl rfl, .inl rfl, .inl rfl, trivial⟩)) (by kernel_rfl) (by kernel_rfl) (by kernel_rfl) (by rfl) (fun _ _ _ h => h) (fun W => y_neq ha160 rfl rfl) ?_
              clear ha160 a160; intro a161 ha161
              refine d_y 11 ha161 rfl rfl (fun _ => (m150.to ⟨.inl rfl, .inl rfl, .inl rfl, .inl rfl, .inl rfl, .inl rfl, .inl rfl, .inl rfl, .inl rfl, .inl rfl, .inl rfl, trivial⟩)) (by kernel_rfl) (by kernel_rfl) (by kernel_rfl) (by rfl) (fun _ _ _ h => h) (fun W => y_pickF ha161 rfl rfl) ?_
              clear ha161 a161; intro a162 ha162
              refine d_y 12 ha162 rfl rfl (fun _ => (m150.to ⟨.inl rfl, .inl rfl, .inl rfl, .inl rfl, .inl rfl, .inl rfl, .inl rfl, .inl rfl, .inl rfl, .inl rfl, .inl rfl, trivial⟩)) (by kernel_rfl) (by kernel_rfl) (by kernel_rfl) (by rfl) (fun _ _ _ h => h) (fun W => y_move ha162 rfl) ?_
              clear ha162 a162; intro a163 ha163
              refine bool_cases ha163 (t := 101) rfl (fun hb164 ha164 => ?_) (fun hb164 ha164 => ?_)
              · exact absurd hb164 (by simp)
              clear ha163 hb164
              refine d_yg 13 ha164 rfl rfl rfl rfl rfl (fun _ => (m150.to ⟨.inl rfl, .inl rfl, .inl rfl, .inl rfl, .inl rfl, .inl rfl, .inl rfl, .inl rfl, .inl rfl, .inl rfl, .inl rfl, trivial⟩)) (by kernel_rfl) (by kernel_rfl) (by kernel_rfl) (by rfl) (fun _ _ _ h => h) (fun W => y_fieldAddr ha164 (off := 1) rfl Try.underlying35 rfl (s := 0) (by kernel_rfl) rfl) ?_
              clear ha164 a163; intro a165 ha165
              refine d_hg 14 ha165 rfl rfl rfl rfl rfl (m150.to ⟨.inl rfl, .inl rfl, .inl rfl, .inl rfl, .inl rfl, .inl rfl, .inl rfl, .inl rfl, .inl rfl, .inl rfl, .inl rfl, trivial⟩) (by kernel_rfl) (by kernel_rfl) (by kernel_rfl) (by kernel_rfl) (by kernel_rfl) (fun _ _ _ h => h) (fun W hW => y_loadB1 ha165 hW (i := 201) rfl rfl rfl Try.underlying3 rfl) ?_
              clear ha165 a165; intro a166 ha166
              refine d_yg 15 ha166 rfl rfl rfl rfl rfl (fun _ => (m150.to ⟨.inl rfl, .inl rfl, .inl rfl, .inl rfl, .inl rfl, .inl rfl, .inl rfl, .inl rfl, .inl rfl, .inl rfl, .inl rfl, trivial⟩)) (by kernel_rfl) (by kernel_rfl) (by kernel_rfl) (by rfl) (fun _ _ _ h => h) (fun W => y_move ha166 rfl) ?_
              clear ha166 a166; intro a167 ha167
              refine d_yg 16 ha167 rfl rfl rfl rfl rfl (fun _ => (m150.to ⟨.inl rfl, .inl rfl, .inl rfl, .inl rfl, .inl rfl, .inl rfl, .inl rfl, .inl rfl, .inl rfl, .inl rfl, .inl rfl, trivial⟩)) (by kernel_rfl) (by kernel_rfl) (by kernel_rfl) (by rfl) (fun _ _ _ h => h) (fun W => y_move ha167 rfl) ?_
              clear ha167 a167; intro a168 ha168
              refine d_yg 17 ha168 rfl rfl rfl rfl rfl (fun _ => (m150.to ⟨.inl rfl, .inl rfl, .inl rfl, .inl rfl, .inl rfl, .inl rfl, .inl rfl, .inl rfl, .inl rfl, .inl rfl, .inl rfl, trivial⟩)) (by kernel_rfl) (by kernel_rfl) (by kernel_rfl) (by rfl) (fun _ _ _ h => h) (fun W => y_idx ha168 rfl rfl Try.underlying27 sz35o (k) rfl (by rw [List.length_map]; exact hk)) ?_
              clear ha168 a168; intro a169 ha169
              refine d_yg 18 ha169 rfl rfl rfl rfl rfl (fun _ => (m150.to ⟨.inl rfl, .inl rfl, .inl rfl, .inl rfl, .inl rfl, .inl rfl, .inl rfl, .inl rfl, .inl rfl, .inl rfl, .inl rfl, trivial⟩)) (by kernel_rfl) (by kernel_rfl) (by kernel_rfl) (by rfl) (fun _ _ _ h => h) (fun W => y_fieldAddrQ ha169 1 rfl Try.underlying35 rfl (s := 0) (by kernel_rfl) rfl) ?_
              clear ha169 a169; intro a170 ha170
              refine d_hg 19 ha170 rfl rfl rfl rfl rfl (m150.to ⟨.inl rfl, .inl rfl, .inl rfl, .inl rfl, .inl rfl, .inl rfl, .inl rfl, .inl rfl, .inl rfl, .inl rfl, .inl rfl, trivial⟩) (by kernel_rfl) (by kernel_rfl) (by kernel_rfl) (by kernel_rfl) (by kernel_rfl) (fun _ _ _ h => h) (fun W hW => y_loadC1 ha170 hW (i := 204) (q := 1) rfl rfl rfl Try.underlying3 rfl) ?_
              clear ha170 a170; intro a171 ha171
              refine d_yg 20 ha171 rfl rfl rfl rfl rfl (fun _ => (m150.to ⟨.inl rfl, .inl rfl, .inl rfl, .inl rfl, .inl rfl, .inl rfl, .inl rfl, .inl rfl, .inl rfl, .inl rfl, .inl rfl, trivial⟩)) (by kernel_rfl) (by kernel_rfl) (by kernel_rfl) (by rfl) (fun _ _ _ h => h) (fun W => y_neq ha171 rfl rfl) ?_
              clear ha171 a171; intro a172 ha172
              refine d_y 21 ha172 rfl rfl (fun _ => (m150.to ⟨.inl rfl, .inl rfl, .inl rfl, .inl rfl, .inl rfl, .inl rfl, .inl rfl, .inl rfl, .inl rfl, .inl rfl, .inl rfl, trivial⟩)) (by kernel_rfl) (by kernel_rfl) (by kernel_rfl) (by rfl) (fun _ _ _ h => h) (fun W => y_pickF ha172 rfl rfl) ?_
              clear ha172 a172; intro a173 ha173
              refine d_y 22 ha173 rfl rfl (fun _ => (m150.to ⟨.inl rfl, .inl rfl, .inl rfl, .inl rfl, .inl rfl, .inl rfl, .inl rfl, .inl rfl, .inl rfl, .inl rfl, .inl rfl, trivial⟩)) (by kernel_rfl) (by kernel_rfl) (by kernel_rfl) (by rfl) (fun _ _ _ h => h) (fun W => y_move ha173 rfl) ?_
              clear ha173 a173; intro a174 ha174
              refine bool_cases ha174 (t := 111) rfl (fun hb175 ha175 => ?_) (fun hb175 ha175 => ?_)
              · exact absurd hb175 (by simp)
              clear ha174 hb175
              refine d_yg 23 ha175 rfl rfl rfl rfl rfl (fun _ => (m150.to ⟨.inl rfl, .inl rfl, .inl rfl, .inl rfl, .inl rfl, .inl rfl, .inl rfl, .inl rfl, .inl rfl, .inl rfl, .inl rfl, trivial⟩)) (by kernel_rfl) (by kernel_rfl) (by kernel_rfl) (by rfl) (fun _ _ _ h => h) (fun W => y_fieldAddr ha175 (off := 2) rfl Try.underlying35 rfl (s := 0) (by kernel_rfl) rfl) ?_
              clear ha175 a174; intro a176 ha176
              refine d_hg 24 ha176 rfl rfl rfl rfl rfl (m150.to ⟨.inl rfl, .inl rfl, .inl rfl, .inl rfl, .inl rfl, .inl rfl, .inl rfl, .inl rfl, .inl rfl, .inl rfl, .inl rfl, trivial⟩) (by kernel_rfl) (by kernel_rfl) (by kernel_rfl) (by kernel_rfl) (by kernel_rfl) (fun _ _ _ h => h) (fun W hW => y_loadB1 ha176 hW (i := 201) rfl rfl rfl Try.underlying33 rfl) ?_
              clear ha176 a176; intro a177 ha177
              refine d_hg 25 ha177 rfl rfl rfl rfl rfl (m150.to ⟨.inl rfl, .inl rfl, .inl rfl, .inl rfl, .inl rfl, .inl rfl, .inl rfl, .inl rfl, .inl rfl, .inl rfl, .inl rfl, trivial⟩) (by kernel_rfl) (by kernel_rfl) (by kernel_rfl) (by kernel_rfl) (by kernel_rfl) (fun _ _ _ h => h) (fun W hW => y_str ha177 rfl (hW.nums (i := 200) rfl) Try.underlying33 Try.underlying5 Try.underlying9) ?_
              clear ha177 a177; intro a178 ha178
              refine d_yg 26 ha178 rfl rfl rfl rfl rfl (fun _ => (m150.to ⟨.inl rfl, .inl rfl, .inl rfl, .inl rfl, .inl rfl, .inl rfl, .inl rfl, .inl rfl, .inl rfl, .inl rfl, .inl rfl, trivial⟩)) (by kernel_rfl) (by kernel_rfl) (by kernel_rfl) (by rfl) (fun _ _ _ h => h) (fun W => y_move ha178 rfl) ?_
              clear ha178 a178; intro a179 ha179
              refine d_yg 27 ha179 rfl rfl rfl rfl rfl (fun _ => (m150.to ⟨.inl rfl, .inl rfl, .inl rfl, .inl rfl, .inl rfl, .inl rfl, .inl rfl, .inl rfl, .inl rfl, .inl rfl, .inl rfl, trivial⟩)) (by kernel_rfl) (by kernel_rfl) (by kernel_rfl) (by rfl) (fun _ _ _ h => h) (fun W => y_move ha179 rfl) ?_
              clear ha179 a179; intro a180 ha180
              refine d_yg 28 ha180 rfl rfl rfl rfl rfl (fun _ => (m150.to ⟨.inl rfl, .inl rfl, .inl rfl, .inl rfl, .inl rfl, .inl rfl, .inl rfl, .inl rfl, .inl rfl, .inl rfl, .inl rfl, trivial⟩)) (by kernel_rfl) (by kernel_rfl) (by kernel_rfl) (by rfl) (fun _ _ _ h => h) (fun W => y_idx ha180 rfl rfl Try.underlying27 sz35o (k) rfl (by rw [List.length_map]; exact hk)) ?_
              clear ha180 a180; intro a181 ha181
              refine d_yg 29 ha181 rfl rfl rfl rfl rfl (fun _ => (m150.to ⟨.inl rfl, .inl rfl, .inl rfl, .inl rfl, .inl rfl, .inl rfl, .inl rfl, .inl rfl, .inl rfl, .inl rfl, .inl rfl, trivial⟩)) (by kernel_rfl) (by kernel_rfl) (by kernel_rfl) (by rfl) (fun _ _ _ h => h) (fun W => y_fieldAddrQ ha181 2 rfl Try.underlying35 rfl (s := 0) (by kernel_rfl) rfl) ?_
              clear ha181 a181; intro a182 ha182
              refine d_hg 30 ha182 rfl rfl rfl rfl rfl (m150.to ⟨.inl rfl, .inl rfl, .inl rfl, .inl rfl, .inl rfl, .inl rfl, .inl rfl, .inl rfl, .inl rfl, .inl rfl, .inl rfl, trivial⟩) (by kernel_rfl) (by kernel_rfl) (by kernel_rfl) (by kernel_rfl) (by kernel_rfl) (fun _ _ _ h => h) (fun W hW => y_loadC1 ha182 hW (i := 206) (q := 2) rfl rfl rfl Try.underlying33 rfl) ?_
              clear ha182 a182; intro a183 ha183
              refine d_hg 31 ha183 rfl rfl rfl rfl rfl (m150.to ⟨.inl rfl, .inl rfl, .inl rfl, .inl rfl, .inl rfl, .inl rfl, .inl rfl, .inl rfl, .inl rfl, .inl rfl, .inl rfl, trivial⟩) (by kernel_rfl) (by kernel_rfl) (by kernel_rfl) (by kernel_rfl) (by kernel_rfl) (fun _ _ _ h => h) (fun W hW => y_str ha183 rfl (hW.nums (i := 207) rfl) Try.underlying33 Try.underlying5 Try.underlying9) ?_
              clear ha183 a183; intro a184 ha184
              refine d_yg 32 ha184 rfl rfl rfl rfl rfl (fun _ => (m150.to ⟨.inl rfl, .inl rfl, .inl rfl, .inl rfl, .inl rfl, .inl rfl, .inl rfl, .inl rfl, .inl rfl, .inl rfl, .inl rfl, trivial⟩)) (by kernel_rfl) (by kernel_rfl) (by kernel_rfl) (by rfl) (fun _ _ _ h => h) (fun W => y_neqS ha184 rfl rfl) ?_
              clear ha184 a184; intro a185 ha185
              refine d_y 33 ha185 rfl rfl (fun _ => (m150.to ⟨.inl rfl, .inl rfl, .inl rfl, .inl rfl, .inl rfl, .inl rfl, .inl rfl, .inl rfl, .inl rfl, .inl rfl, .inl rfl, trivial⟩)) (by kernel_rfl) (by kernel_rfl) (by kernel_rfl) (by rfl) (fun _ _ _ h => h) (fun W => y_pickF ha185 rfl rfl) ?_
              clear ha185 a185; intro a186 ha186
              refine wpAnyE_done (by kernel_rfl) ?_ _
              refine hK29 _ _ ?_; clear hK29; try clear K29
              refine bool_cases ha186 (t := 122) rfl (fun hb187 ha187 => ?_) (fun hb187 ha187 => ?_)
              · exact absurd hb187 (by simp)
              clear ha186 hb187
              refine wp_cond_false (ha187.ev (x := .tmp 122) rfl) ?_
              refine wp_skip ?_
              refine hK27 _ _ ?_; clear hK27; try clear K27
              have ha188 : Has 126 [(5, _), (6, _), (9, _)] a186 := ha187.only [5, 6, 9]; clear ha187
              refine wp_region_lit ?_
              refine st_y ha188 rfl (y_move ha188 rfl) ?_
              clear ha188 a186; intro a189 ha189
              refine st_y ha189 rfl (y_add ha189 rfl rfl (r := ((k + 1 : Nat) : Int)) (by rw [IntWalk.i64_in _ (by omega)]; omega)) ?_
              clear ha189 a189; intro a190 ha190
              refine st_y ha190 rfl (y_assign ha190 rfl) ?_
              clear ha190 a190; intro a191 ha191
              refine wpList_nil ?_
              show ∃ n', n' < _ ∧ _
              exact ⟨AK.length - (k + 1), by omega, k + 1, _, _, _, _, _, by omega, rfl, ha191.only [5, 6, 9], m150.only [1, 2, 4]⟩
            · skip
              clear ha128
              try simp only [decide_eq_true_eq, decide_eq_false_iff_not, Bool.not_eq_true, Bool.not_eq_false, Bool.not_eq_eq_eq_not, Bool.not_true, Bool.not_false, Bool.not_not, Int.not_lt, Int.not_le, ne_eq, Decidable.not_not] at hb129
              obtain rfl : k = AK.length := by rw [List.length_map] at hb129; omega
              refine wp_cond_false (ha129.ev (x := .tmp 81) rfl) ?_
              refine wp_exit ?_
              refine hK23 _ _ ?_; clear hK23; try clear K23
              refine wp_seq_k (fun K30 hK30 => ?_)
              refine wp_region_lit ?_
              refine st_y ha129 rfl (y_move ha129 rfl) ?_
              clear ha129 a128; intro a192 ha192
              refine wpList_plain rfl (fun K hK => ?_)
              refine e_call ha192 Try.func15 rfl rfl rfl rfl (len_any _ _ _ _ _ (m124.ok 1 _ rfl : Res.ok _ _ _ _ (.box _ _ _)).1) ?_
              rintro e w193 ⟨rfl, hb193⟩
              have m194 := m124.later hb193
              clear m124
              clear hb193
              refine ⟨_, rfl, fun a195 ha195 => ?_⟩; clear ha192 a192
              refine hK _ _ ?_; clear hK K
              refine st_y ha195 rfl (y_eql ha195 rfl rfl) ?_
              clear ha195 a195; intro a196 ha196
              refine st_y ha196 rfl (y_assign ha196 rfl) ?_
              clear ha196 a196; intro a197 ha197
              refine wpList_nil ?_
              refine hK30 _ _ ?_; clear hK30; try clear K30
              refine wp_ret ?_
              try dsimp only [Exit.then, Exit.inBlock]
              refine (ret1 (fn := Try.f4) ha197 rfl rfl ?_)
              exact ⟨by simp, m194.below⟩
end Go.Proofs.Ytnllgfmjcnjgdaa.K
