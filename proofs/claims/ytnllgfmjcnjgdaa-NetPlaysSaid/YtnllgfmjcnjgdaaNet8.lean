/- NetPlays' walk. -/
import Derived.Test.YtnllgfmjcnjgdaaNet7
import Derived.Test.YtnllgfmjcnjgdaaAb12
namespace Go.Proofs.Ytnllgfmjcnjgdaa.K
open Go.ChangeShapes Go.WideShapes Go.ChangeAt Go.RowKit
set_option linter.unusedVariables false
set_option linter.unusedSimpArgs false

theorem fl29p : flatS Try.prog 29 [.slice none 0 0] = true := by kernel_rfl
theorem inf35p : (Try.prog.info? 35).map (fun i => (i.zero, i.size, i.bytes)) = some (some (.agg #[.int .i64 0, .int .i64 0, .slice none 0 0]), 3, 40) := by kernel_rfl
theorem sz3p : (Try.prog.info? 3).map (·.size) = some 1 := by kernel_rfl
theorem sz31p : (Try.prog.info? 31).map (·.size) = some 3 := by kernel_rfl
theorem sz35p : (Try.prog.info? 35).map (·.size) = some 3 := by kernel_rfl
theorem zc29p : ((Try.prog.info? 29).bind (·.zero)).map (·.cells.toList) = some [.slice none 0 0] := by kernel_rfl
theorem zc31p : ((Try.prog.info? 31).bind (·.zero)).map (·.cells.toList) = some [.int .u8 0, .int .i64 0, .slice none 0 0] := by kernel_rfl
theorem zc35p : ((Try.prog.info? 35).bind (·.zero)).map (·.cells.toList) = some [.int .i64 0, .int .i64 0, .slice none 0 0] := by kernel_rfl

def tkB (q : Int) (fl : List (Int × Int × List Int)) : Bool := decide (0 ≤ q ∧ q < (fl.length : Int))
def tkF (q : Int) (fl : List (Int × Int × List Int)) : Int × Int × List Int := if 0 ≤ q ∧ q < (fl.length : Int) then fl.getD q.toNat (0, 0, []) else (0, 0, [])
def tkL (q : Int) (fl : List (Int × Int × List Int)) : List (Int × Int × List Int) := if 0 ≤ q ∧ q < (fl.length : Int) then fl.eraseIdx q.toNat else fl
def twL (q : Int) (fl : List (Int × Int × List Int)) : List (Int × Int × List Int) := if 0 ≤ q ∧ q < (fl.length : Int) then fl ++ [fl.getD q.toNat (0, 0, [])] else fl
theorem tkL_sub {q : Int} {fl : List (Int × Int × List Int)} : ∀ f ∈ tkL q fl, f ∈ fl := by
  intro f hf; unfold tkL at hf; split at hf
  · exact List.mem_of_mem_eraseIdx hf
  · exact hf
theorem tkL_len {q : Int} {fl : List (Int × Int × List Int)} : (tkL q fl).length ≤ fl.length := by
  unfold tkL; split
  · rename_i h; rw [List.length_eraseIdx]; split <;> omega
  · exact Nat.le_refl _
theorem twL_len {q : Int} {fl : List (Int × Int × List Int)} : (twL q fl).length ≤ fl.length + 1 := by
  unfold twL; split
  · simp
  · omega
theorem twL_sub {q : Int} {fl : List (Int × Int × List Int)} : ∀ f ∈ twL q fl, f ∈ fl := by
  intro f hf; unfold twL at hf; split at hf
  · rename_i h
    rcases List.mem_append.1 hf with hf | hf
    · exact hf
    · rw [List.mem_singleton.1 hf]
      have : q.toNat < fl.length := by omega
      simp [List.getD, this]
  · exact hf
def FlOk (fl : List (Int × Int × List Int)) : Prop := ∀ f ∈ fl, f.2.2.length ≤ 140737488351232
def actD (a : Int × Int × List (Int × Int × List Int)) : List D := [.v (.int .u8 a.1), .v (.int .i64 a.2.1), .l 3 (a.2.2.map flD)]
def ActOk (a : Int × Int × List (Int × Int × List Int)) : Prop := 0 ≤ a.1 ∧ a.1 ≤ 255 ∧ FlOk a.2.2
theorem act_get {A : List (Int × Int × List (Int × Int × List Int))} {k : Nat} {w n : Int} {f : List (Int × Int × List Int)} (h : A[k]? = some (w, n, f)) : (A.map actD)[k]? = some [.v (.int .u8 w), .v (.int .i64 n), .l 3 (f.map flD)] := by simp [h, actD]
def flS : List Shp := [.i .i64, .i .i64, .ns .u8]
def actS : List Shp := [.i .u8, .i .i64, .l flS]
theorem fitsFl : Fits Try.prog 35 flS := .mk (sss := [[.i .i64], [.i .i64], [.ns .u8]]) Try.underlying35 (by kernel_rfl) rfl (.cons rfl (by kernel_rfl) (.int Try.underlying3) (.cons rfl (by kernel_rfl) (.int Try.underlying3) (.cons rfl (by kernel_rfl) (.nums Try.underlying33 Try.underlying5 (by kernel_rfl) (by kernel_rfl)) (.nil _))))
theorem fitsAct : Fits Try.prog 31 actS := .mk (sss := [[.i .u8], [.i .i64], [.l flS]]) Try.underlying31 (by kernel_rfl) rfl (.cons rfl (by kernel_rfl) (.int Try.underlying5) (.cons rfl (by kernel_rfl) (.int Try.underlying3) (.cons rfl (by kernel_rfl) (.rows Try.underlying27 fitsFl (by kernel_rfl) (by decide) (by kernel_rfl)) (.nil _))))
theorem fitsActs : Fits Try.prog 22 [.l actS] := .rows Try.underlying22 fitsAct (by kernel_rfl) (by decide) (by kernel_rfl)
theorem fl_form {r : List D} (h : DOkL flS r) : ∃ f, r = flD f ∧ f.2.2.length ≤ 140737488351232 := by
  obtain ⟨_, _, rfl, h0, h⟩ := h.cons_out
  obtain ⟨_, _, rfl, h1, h⟩ := h.cons_out
  obtain ⟨_, _, rfl, h2, h⟩ := h.cons_out
  obtain rfl := h.nil_out
  obtain ⟨z0, rfl, -⟩ := h0.i_out
  obtain ⟨z1, rfl, -⟩ := h1.i_out
  obtain ⟨zs, rfl, hl, -⟩ := h2.ns_out
  exact ⟨(z0, z1, zs), rfl, hl⟩
theorem act_form {r : List D} (h : DOkL actS r) : ∃ a, r = actD a ∧ ActOk a := by
  obtain ⟨_, _, rfl, h0, h⟩ := h.cons_out
  obtain ⟨_, _, rfl, h1, h⟩ := h.cons_out
  obtain ⟨_, _, rfl, h2, h⟩ := h.cons_out
  obtain rfl := h.nil_out
  obtain ⟨z0, rfl, hz⟩ := h0.i_out
  obtain ⟨z1, rfl, -⟩ := h1.i_out
  obtain ⟨rows, rfl, hl, hr⟩ := h2.l_out
  obtain ⟨fl, rfl, hfl⟩ := rows_map (fun r hr' => fl_form (hr r hr'))
  have := bounds_u8 hz
  exact ⟨(z0, z1, fl), rfl, by omega, by omega, hfl⟩
theorem rsame_map (fl : List (Int × Int × List Int)) (p1 p2 : Option Addr) (c1 c2 : Nat) (w0 : World) (hn : fl.length ≤ 1000) (h1 : Rd (fun _ => True) w0 (.slice p1 (fl.map flD).length c1) (.l 3 (fl.map flD))) (h2 : Rd (fun _ => True) w0 (.slice p2 (fl.map flD).length c2) (.l 3 (fl.map flD))) :
    Calls Try.prog 12 #[.slice p1 (fl.map flD).length c1, .slice p2 (fl.map flD).length c2] w0 fun e w' => e = .returned (.bool true) ∧ Below w0.heap.size w0 w' := by
  rw [List.length_map] at h1 h2 ⊢
  exact rsame_any fl p1 p2 c1 c2 w0 hn h1 h2
theorem take_is (S : Nat → Prop) (B : Nat) (p0 : Option Addr) (c0 : Nat) (q : Int) (fl : List (Int × Int × List Int)) (w0 : World) (hB : Blk w0 B 48 [.slice p0 (fl.map flD).length c0]) (hs : SegOk (fun b => S b ∧ b ≠ B ∧ (Value.slice p0 (fl.map flD).length c0).ownBlock ≠ some b) w0 (.slice p0 (fl.map flD).length c0) 35 3 (fl.map flD)) (hne : (Value.slice p0 (fl.map flD).length c0).ownBlock ≠ some B) (hn : fl.length ≤ 1000) {ff ft : Int} {fd : List Int} {fl2 : List (Int × Int × List Int)} {tb : Bool} (hF : tkF q fl = (ff, ft, fd)) (hL : tkL q fl = fl2) (hb : tkB q fl = tb) :
    Calls Try.prog 10 #[.pointer (some ⟨B, 0, none⟩), .int .i64 q] w0 fun e w' => ∃ v' p' c', e = .returned (.tuple #[.agg #[.int .i64 ff, .int .i64 ft, .slice p' fd.length c'], .bool tb]) ∧ PoolAt S w0 B 48 35 3 (.slice p0 (fl.map flD).length c0) (fl2.map flD) w' v' ∧ Rd (fun b => (S b ∨ w0.heap.size ≤ b) ∧ b ≠ B ∧ v'.ownBlock ≠ some b) w' (.slice p' fd.length c') (.ns .u8 fd) := by
  by_cases h : 0 ≤ q ∧ q < (fl.length : Int)
  · obtain ⟨k, rfl⟩ : ∃ k : Nat, q = k := ⟨q.toNat, by omega⟩
    have hk : k < fl.length := by omega
    have hfl : fl[k]? = some (ff, ft, fd) := by rw [tkF, if_pos h] at hF; rw [← hF]; simp [List.getD, hk]
    refine (take_yes S B p0 c0 k fl ff ft fd w0 hB hs hne hn hfl).mono ?_
    rintro e w' ⟨v', p', c', rfl, h1, h2⟩
    rw [tkL, if_pos h, Int.toNat_natCast] at hL
    subst hL
    exact ⟨v', p', c', by rw [← hb, tkB, decide_eq_true h], h1, h2⟩
  · rw [tkF, if_neg h] at hF
    rw [tkL, if_neg h] at hL
    injection hF with e1 e2
    injection e2 with e2 e3
    subst e1; subst e2; subst e3; subst hL
    refine (take_no S B p0 c0 q fl w0 hB hs hne hn (by omega)).mono ?_
    rintro e w' ⟨v', rfl, h1⟩
    exact ⟨v', none, 0, by rw [← hb, tkB, decide_eq_false h]; rfl, h1, Rd.nilN _ _ _ _⟩
theorem rtake_is (S : Nat → Prop) (B : Nat) (p0 : Option Addr) (c0 : Nat) (q : Int) (fl : List (Int × Int × List Int)) (w0 : World) (hB : Blk w0 B 29 [.slice p0 (fl.map flD).length c0]) (hs : SegOk (fun b => S b ∧ b ≠ B ∧ (Value.slice p0 (fl.map flD).length c0).ownBlock ≠ some b) w0 (.slice p0 (fl.map flD).length c0) 35 3 (fl.map flD)) (hne : (Value.slice p0 (fl.map flD).length c0).ownBlock ≠ some B) (hn : fl.length ≤ 1000) {ff ft : Int} {fd : List Int} {fl2 : List (Int × Int × List Int)} {tb : Bool} (hF : tkF q fl = (ff, ft, fd)) (hL : tkL q fl = fl2) (hb : tkB q fl = tb) :
    Calls Try.prog 11 #[.pointer (some ⟨B, 0, none⟩), .int .i64 q] w0 fun e w' => ∃ v' p' c', e = .returned (.tuple #[.agg #[.int .i64 ff, .int .i64 ft, .slice p' fd.length c'], .bool tb]) ∧ PoolAt S w0 B 29 35 3 (.slice p0 (fl.map flD).length c0) (fl2.map flD) w' v' ∧ Rd (fun b => (S b ∨ w0.heap.size ≤ b) ∧ b ≠ B ∧ v'.ownBlock ≠ some b) w' (.slice p' fd.length c') (.ns .u8 fd) := by
  by_cases h : 0 ≤ q ∧ q < (fl.length : Int)
  · obtain ⟨k, rfl⟩ : ∃ k : Nat, q = k := ⟨q.toNat, by omega⟩
    have hk : k < fl.length := by omega
    have hfl : fl[k]? = some (ff, ft, fd) := by rw [tkF, if_pos h] at hF; rw [← hF]; simp [List.getD, hk]
    refine (rtake_yes S B p0 c0 k fl ff ft fd w0 hB hs hne hn hfl).mono ?_
    rintro e w' ⟨v', p', c', rfl, h1, h2⟩
    rw [tkL, if_pos h, Int.toNat_natCast] at hL
    subst hL
    exact ⟨v', p', c', by rw [← hb, tkB, decide_eq_true h], h1, h2⟩
  · rw [tkF, if_neg h] at hF
    rw [tkL, if_neg h] at hL
    injection hF with e1 e2
    injection e2 with e2 e3
    subst e1; subst e2; subst e3; subst hL
    refine (rtake_no S B p0 c0 q fl w0 hB hs hne hn (by omega)).mono ?_
    rintro e w' ⟨v', rfl, h1⟩
    exact ⟨v', none, 0, by rw [← hb, tkB, decide_eq_false h]; rfl, h1, Rd.nilN _ _ _ _⟩
theorem twice_is (S : Nat → Prop) (B : Nat) (p0 : Option Addr) (c0 : Nat) (q : Int) (fl : List (Int × Int × List Int)) (w0 : World) (hB : Blk w0 B 48 [.slice p0 (fl.map flD).length c0]) (hs : SegOk (fun b => S b ∧ b ≠ B ∧ (Value.slice p0 (fl.map flD).length c0).ownBlock ≠ some b) w0 (.slice p0 (fl.map flD).length c0) 35 3 (fl.map flD)) (hne : (Value.slice p0 (fl.map flD).length c0).ownBlock ≠ some B) (hn : fl.length ≤ 900) (hfd : FlOk fl) {fl2 : List (Int × Int × List Int)} {tb : Bool} (hL : twL q fl = fl2) (hb : tkB q fl = tb) :
    Calls Try.prog 13 #[.pointer (some ⟨B, 0, none⟩), .int .i64 q] w0 fun e w' => ∃ v', e = .returned (.bool tb) ∧ PoolAt S w0 B 48 35 3 (.slice p0 (fl.map flD).length c0) (fl2.map flD) w' v' := by
  by_cases h : 0 ≤ q ∧ q < (fl.length : Int)
  · obtain ⟨k, rfl⟩ : ∃ k : Nat, q = k := ⟨q.toNat, by omega⟩
    have hk : k < fl.length := by omega
    rw [twL, if_pos h, Int.toNat_natCast] at hL
    obtain ⟨⟨ff, ft, fd⟩, hfl⟩ : ∃ e, fl[k]? = some e := ⟨_, List.getElem?_eq_getElem hk⟩
    rw [show fl.getD k (0, 0, []) = (ff, ft, fd) from by simp [List.getD, hfl]] at hL
    subst hL
    refine (twiceB_yes S B p0 c0 k fl ff ft fd w0 hB hs hne hn hfl (hfd _ (List.mem_of_getElem? hfl))).mono ?_
    rintro e w' ⟨v', rfl, h1⟩
    exact ⟨v', by rw [← hb, tkB, decide_eq_true h], h1⟩
  · rw [twL, if_neg h] at hL
    subst hL
    refine (twice_no S B p0 c0 q fl w0 hB hs hne (by omega) (by omega)).mono ?_
    rintro e w' ⟨v', rfl, h1⟩
    exact ⟨v', by rw [← hb, tkB, decide_eq_false h], h1⟩
theorem rtwice_is (S : Nat → Prop) (B : Nat) (p0 : Option Addr) (c0 : Nat) (q : Int) (fl : List (Int × Int × List Int)) (w0 : World) (hB : Blk w0 B 29 [.slice p0 (fl.map flD).length c0]) (hs : SegOk (fun b => S b ∧ b ≠ B ∧ (Value.slice p0 (fl.map flD).length c0).ownBlock ≠ some b) w0 (.slice p0 (fl.map flD).length c0) 35 3 (fl.map flD)) (hne : (Value.slice p0 (fl.map flD).length c0).ownBlock ≠ some B) (hn : fl.length ≤ 900)  {fl2 : List (Int × Int × List Int)} {tb : Bool} (hL : twL q fl = fl2) (hb : tkB q fl = tb) :
    Calls Try.prog 14 #[.pointer (some ⟨B, 0, none⟩), .int .i64 q] w0 fun e w' => ∃ v', e = .returned (.bool tb) ∧ PoolAt S w0 B 29 35 3 (.slice p0 (fl.map flD).length c0) (fl2.map flD) w' v' := by
  by_cases h : 0 ≤ q ∧ q < (fl.length : Int)
  · obtain ⟨k, rfl⟩ : ∃ k : Nat, q = k := ⟨q.toNat, by omega⟩
    have hk : k < fl.length := by omega
    rw [twL, if_pos h, Int.toNat_natCast] at hL
    obtain ⟨⟨ff, ft, fd⟩, hfl⟩ : ∃ e, fl[k]? = some e := ⟨_, List.getElem?_eq_getElem hk⟩
    rw [show fl.getD k (0, 0, []) = (ff, ft, fd) from by simp [List.getD, hfl]] at hL
    subst hL
    refine (rtwice_yes S B p0 c0 k fl ff ft fd w0 hB hs hne hn hfl ).mono ?_
    rintro e w' ⟨v', rfl, h1⟩
    exact ⟨v', by rw [← hb, tkB, decide_eq_true h], h1⟩
  · rw [twL, if_neg h] at hL
    subst hL
    refine (rtwice_no S B p0 c0 q fl w0 hB hs hne (by omega) (by omega)).mono ?_
    rintro e w' ⟨v', rfl, h1⟩
    exact ⟨v', by rw [← hb, tkB, decide_eq_false h], h1⟩
theorem sendB_map (S : Nat → Prop) (B : Nat) (v0 : Value) (rows : List (List D)) (fl : List (Int × Int × List Int)) (pl : Option Addr) (cl : Nat) (w0 : World) (hB : Blk w0 B 48 [v0]) (hs : SegOk (fun b => S b ∧ b ≠ B ∧ v0.ownBlock ≠ some b) w0 v0 35 3 rows) (hne : v0.ownBlock ≠ some B) (hl : Rd (fun b => S b ∧ b ≠ B ∧ v0.ownBlock ≠ some b) w0 (.slice pl (fl.map flD).length cl) (.l 3 (fl.map flD))) (hn : rows.length ≤ 1000 ∧ fl.length ≤ 1000) (hfd : FlOk fl) :
    Calls Try.prog 8 #[.pointer (some ⟨B, 0, none⟩), .slice pl (fl.map flD).length cl] w0 fun e w' => e = .returned (.tuple #[]) ∧ ∃ v', PoolAt S w0 B 48 35 3 v0 (rows ++ fl.map flD) w' v' := by
  rw [List.length_map] at hl ⊢
  exact sendB_any S B v0 rows fl pl cl w0 hB hs hne hl hn hfd
theorem rsend_map (S : Nat → Prop) (B : Nat) (v0 : Value) (rows : List (List D)) (fl : List (Int × Int × List Int)) (pl : Option Addr) (cl : Nat) (w0 : World) (hB : Blk w0 B 29 [v0]) (hs : SegOk (fun b => S b ∧ b ≠ B ∧ v0.ownBlock ≠ some b) w0 v0 35 3 rows) (hne : v0.ownBlock ≠ some B) (hl : Rd (fun b => S b ∧ b ≠ B ∧ v0.ownBlock ≠ some b) w0 (.slice pl (fl.map flD).length cl) (.l 3 (fl.map flD))) (hn : rows.length ≤ 1000 ∧ fl.length ≤ 1000)  :
    Calls Try.prog 9 #[.pointer (some ⟨B, 0, none⟩), .slice pl (fl.map flD).length cl] w0 fun e w' => e = .returned (.tuple #[]) ∧ ∃ v', PoolAt S w0 B 29 35 3 v0 (rows ++ fl.map flD) w' v' := by
  rw [List.length_map] at hl ⊢
  exact rsend_any S B v0 rows fl pl cl w0 hB hs hne hl hn 
theorem flok_app {a b : List (Int × Int × List Int)} (h1 : FlOk a) (h2 : FlOk b) : FlOk (a ++ b) := by
  intro f hf
  rcases List.mem_append.1 hf with hf | hf
  · exact h1 f hf
  · exact h2 f hf
set_option maxRecDepth 100000
set_option maxHeartbeats 4000000
theorem netplays_walk (acts : List (Int × Int × List (Int × Int × List Int))) (p5 : Option Addr) (c5 : Nat) (w0 : World) (hok : ∀ a ∈ acts, ActOk a) (h0 : Rd (fun _ => True) w0 (.slice p5 acts.length c5) (.l 3 (acts.map actD))) :
    Calls Try.prog 3 #[.slice p5 acts.length c5] w0 fun e w' => e = .returned (.bool true) ∧ Below w0.heap.size w0 w' := by
  refine enter (fn := Try.f3) Try.func3 rfl Try.ntmps3 rfl (fun a0 ha0 => ?_)
  simp only [List.zipIdx_cons, List.zipIdx_nil, List.map_cons, List.map_nil, Nat.reduceAdd, Nat.zero_add] at ha0
  have m0 := (MemOk.start (fun _ => True) w0).dat 5 rfl (h0.cast (fun _ _ => free_nil (fun _ => trivial)))
  refine wp_seq_k (fun K0 hK0 => ?_)
  refine wp_region_lit ?_
  refine st_y ha0 rfl (y_assign ha0 rfl) ?_
  clear ha0 a0; intro a1 ha1
  refine wpList_nil ?_
  refine hK0 _ _ ?_; clear hK0; try clear K0
  refine wp_seq_k (fun K1 hK1 => ?_)
  refine wp_seq_k (fun K2 hK2 => ?_)
  refine wp_region_lit ?_
  refine wpList_plain rfl (fun K hK => ?_)
  refine e_call ha1 Try.func6 rfl rfl rfl rfl (nknown_any _) ?_
  rintro e w2 ⟨rfl, hb2⟩
  have m3 := m0.later hb2
  clear m0
  clear hb2
  refine ⟨_, rfl, fun a4 ha4 => ?_⟩; clear ha1 a1
  refine hK _ _ ?_; clear hK K
  refine st_y ha4 rfl (y_not ha4 rfl) ?_
  clear ha4 a4; intro a5 ha5
  refine wpList_nil ?_
  refine hK2 _ _ ?_; clear hK2; try clear K2
  refine wp_cond_false (ha5.ev (x := .tmp 12) rfl) ?_
  refine wp_skip ?_
  refine hK1 _ _ ?_; clear hK1; try clear K1
  refine wp_seq_k (fun K3 hK3 => ?_)
  refine wp_seq_k (fun K4 hK4 => ?_)
  refine wp_region_lit ?_
  refine st_y ha5 rfl (y_move ha5 rfl) ?_
  clear ha5 a5; intro a6 ha6
  refine st_y ha6 rfl (y_len ha6 rfl Try.underlying22) ?_
  clear ha6 a6; intro a7 ha7
  refine st_y ha7 rfl (y_gtr ha7 rfl rfl) ?_
  clear ha7 a7; intro a8 ha8
  refine wpList_nil ?_
  refine hK4 _ _ ?_; clear hK4; try clear K4
  refine bool_cases ha8 (t := 15) rfl (fun hb9 ha9 => ?_) (fun hb9 ha9 => ?_)
  · skip
    clear ha8
    try simp only [decide_eq_true_eq, decide_eq_false_iff_not, Bool.not_eq_true, Bool.not_eq_false, Bool.not_eq_eq_eq_not, Bool.not_true, Bool.not_false, Bool.not_not, Int.not_lt, Int.not_le, ne_eq, Decidable.not_not] at hb9
    refine wp_cond_true (ha9.ev (x := .tmp 15) rfl) ?_
    refine wp_seq_k (fun K5 hK5 => ?_)
    refine wp_region_lit ?_
    refine st_y ha9 rfl (y_assign ha9 rfl) ?_
    clear ha9 a8; intro a10 ha10
    refine wpList_nil ?_
    refine hK5 _ _ ?_; clear hK5; try clear K5
    refine wp_ret ?_
    try dsimp only [Exit.then, Exit.inBlock]
    refine (ret1 (fn := Try.f3) ha10 rfl rfl ?_)
    exact ⟨rfl, m3.below⟩
  · skip
    clear ha8
    try simp only [decide_eq_true_eq, decide_eq_false_iff_not, Bool.not_eq_true, Bool.not_eq_false, Bool.not_eq_eq_eq_not, Bool.not_true, Bool.not_false, Bool.not_not, Int.not_lt, Int.not_le, ne_eq, Decidable.not_not] at hb9
    refine wp_cond_false (ha9.ev (x := .tmp 15) rfl) ?_
    refine wp_skip ?_
    refine hK3 _ _ ?_; clear hK3; try clear K3
    refine wp_seq_k (fun K6 hK6 => ?_)
    refine wp_region_lit ?_
    refine wpList_plain rfl (fun K hK => ?_)
    refine e_call ha9 Try.func7 rfl rfl rfl rfl (new_any _) ?_
    rintro e w11 ⟨B11, rfl, ⟨hB11, hg11⟩, hb11⟩
    have m12 := m3.newBox 1 hb11 hB11 (hg11.resolve_right (by simp [cx]))
    clear m3
    have m13 := m12.nilS 2 35 3
    clear m12
    clear hb11 hB11 hg11
    refine ⟨_, rfl, fun a14 ha14 => ?_⟩; clear ha9 a8
    refine hK _ _ ?_; clear hK K
    refine st_y ha14 rfl (y_build ha14 rfl zc29p fl29p rfl (by dsimp only [setL, List.set] <;> rfl)) ?_
    clear ha14 a14; intro a15 ha15
    refine wpList_plain rfl (fun K hK => ?_)
    refine e_box ha15 m13 3 (cs := [_]) rfl rfl rfl ?_
    clear ha15 a15 m13; intro g16 a17 w17 ha17 m17 hB17 hg17
    clear hB17 hg17
    refine hK _ _ ?_; clear hK K
    have m18 := m17.nilS 4 35 3; clear m17
    refine st_y ha17 rfl (y_assign ha17 rfl) ?_
    clear ha17 a17; intro a19 ha19
    refine st_y ha19 rfl (y_assign ha19 rfl) ?_
    clear ha19 a19; intro a20 ha20
    refine wpList_nil ?_
    refine hK6 _ _ ?_; clear hK6; try clear K6
    refine wp_seq_k (fun K7 hK7 => ?_)
    refine wp_seq_k (fun K8 hK8 => ?_)
    have ha21 : Has 110 [(0, _), (2, _), (3, _), (4, _)] a20 := ha20.only [0, 2, 3, 4]; clear ha20
    refine wp_region_lit ?_
    refine st_y ha21 rfl (y_assign ha21 rfl) ?_
    clear ha21 a20; intro a22 ha22
    refine wpList_nil ?_
    refine hK8 _ _ ?_; clear hK8; try clear K8
    refine wp_block ?_
    refine wp_loop_ghost (fun g a w => ∃ (i B C : Nat) (fl : List (Int × Int × List Int)) (pp pw p5 : Option Addr) (cc cw c5 : Nat), i ≤ acts.length ∧ g = acts.length - i ∧ fl.length ≤ 5 * i ∧ FlOk fl ∧ Has 110 [(0, .slice p5 acts.length c5), (3, .pointer (some ⟨B, 0, none⟩)), (4, .pointer (some ⟨C, 0, none⟩)), (5, .int .i64 i)] a ∧ MemOk (cx (fun _ => True) w0) w0 [(1, .box B 48 [.slice pp (fl.map flD).length cc]), (2, .seg (.slice pp (fl.map flD).length cc) 35 3 (fl.map flD)), (3, .box C 29 [.slice pw (fl.map flD).length cw]), (4, .seg (.slice pw (fl.map flD).length cw) 35 3 (fl.map flD)), (5, .dat (.slice p5 acts.length c5) (.l 3 (acts.map actD)))] w) (acts.length) ?_ ?_
    · exact ⟨0, _, _, [], none, none, _, 0, 0, _, Nat.zero_le _, rfl, Nat.zero_le _, (fun f hf => by cases hf), ha22.only [0, 3, 4, 5], m18.only [1, 2, 3, 4, 5]⟩
    · skip
      clear ha22 m18
      rintro g a23 w23 ⟨i, B, C, fl, pp, pw, p5, cc, cw, c5, hil, hg, hfn, hfo, ha23, m23⟩
      refine wp_seq_k (fun K9 hK9 => ?_)
      refine wp_seq_k (fun K10 hK10 => ?_)
      refine wp_region_lit ?_
      refine st_y ha23 rfl (y_move ha23 rfl) ?_
      clear ha23 a23; intro a24 ha24
      refine st_y ha24 rfl (y_move ha24 rfl) ?_
      clear ha24 a24; intro a25 ha25
      refine st_y ha25 rfl (y_len ha25 rfl Try.underlying22) ?_
      clear ha25 a25; intro a26 ha26
      refine st_y ha26 rfl (y_lss ha26 rfl rfl) ?_
      clear ha26 a26; intro a27 ha27
      refine wpList_nil ?_
      refine hK10 _ _ ?_; clear hK10; try clear K10
      refine bool_cases ha27 (t := 22) rfl (fun hb28 ha28 => ?_) (fun hb28 ha28 => ?_)
      · skip
        clear ha27
        try simp only [decide_eq_true_eq, decide_eq_false_iff_not, Bool.not_eq_true, Bool.not_eq_false, Bool.not_eq_eq_eq_not, Bool.not_true, Bool.not_false, Bool.not_not, Int.not_lt, Int.not_le, ne_eq, Decidable.not_not] at hb28
        have hi : i < acts.length := by omega
        obtain ⟨⟨aw, an, af⟩, hact⟩ : ∃ e, acts[i]? = some e := ⟨_, List.getElem?_eq_getElem hi⟩
        have haok := hok _ (List.mem_of_getElem? hact)
        have haf : FlOk af := haok.2.2
        refine wp_cond_true (ha28.ev (x := .tmp 22) rfl) ?_
        refine wp_skip ?_
        refine hK9 _ _ ?_; clear hK9; try clear K9
        refine wp_seq_k (fun K11 hK11 => ?_)
        refine wp_block ?_
        refine wp_seq_k (fun K12 hK12 => ?_)
        refine wp_region_lit ?_
        refine st_y ha28 rfl (y_move ha28 rfl) ?_
        clear ha28 a27; intro a29 ha29
        refine st_y ha29 rfl (y_move ha29 rfl) ?_
        clear ha29 a29; intro a30 ha30
        obtain ⟨b31, o31, vs31, hp31, hR31, ho31, m31⟩ := m23.openR (i := 5) rfl (i) (r := [.v (.int .u8 aw), .v (.int .i64 an), .l 3 (af.map flD)]) (act_get hact) 100 rfl
        cases hp31; clear m23 ho31
        rcases hR31 with _ | ⟨hd31_0, _ | ⟨hd31_1, _ | ⟨hd31_2, _ | _⟩⟩⟩
        obtain rfl := hd31_0.v_out
        clear hd31_0
        obtain rfl := hd31_1.v_out
        clear hd31_1
        obtain ⟨p32, c32, hv32, hc32⟩ := hd31_2.l_shape; subst hv32
        have m32 := m31.dat 101 rfl (hd31_2.cast (fun _ h => (free_add rfl h))); clear m31 hd31_2
        refine st_y ha30 rfl (y_idx ha30 rfl rfl Try.underlying22 sz31p (i) rfl hi) ?_
        clear ha30 a30; intro a33 ha33
        refine st_y ha33 rfl (y_loadCR ha33 m32 (i := 100) rfl rfl Try.underlying31 rfl sz31p) ?_
        clear ha33 a33; intro a34 ha34
        refine wpList_plain rfl (fun K hK => ?_)
        refine e_alloc ha34 m32 102 zc31p rfl ?_
        clear ha34 a34 m32; intro g35 a36 w36 ha36 m36 hB36 hg36
        clear hB36 hg36
        refine hK _ _ ?_; clear hK K
        refine wpList_plain rfl (fun K hK => ?_)
        refine e_storeW ha36 m36 102 rfl rfl rfl rfl rfl sz31p ?_
        clear m36; intro w37 m37 hB37
        clear hB37
        refine hK _ _ ?_; clear hK K
        refine wpList_nil ?_
        refine hK12 _ _ ?_; clear hK12; try clear K12
        refine wp_seq_k (fun K13 hK13 => ?_)
        refine wp_seq_k (fun K14 hK14 => ?_)
        have ha38 : Has 110 [(0, _), (3, _), (4, _), (5, _), (6, _)] a36 := ha36.only [0, 3, 4, 5, 6]; clear ha36
        refine wp_region_lit ?_
        refine st_y ha38 rfl (y_fieldAddr ha38 (off := 2) rfl Try.underlying31 rfl (s := 0) (by kernel_rfl) rfl) ?_
        clear ha38 a36; intro a39 ha39
        refine st_y ha39 rfl (y_loadB1 ha39 m37 (i := 102) rfl rfl rfl Try.underlying27 rfl) ?_
        clear ha39 a39; intro a40 ha40
        refine st_y ha40 rfl (y_len ha40 rfl Try.underlying27) ?_
        clear ha40 a40; intro a41 ha41
        refine st_y ha41 rfl (y_gtr ha41 rfl rfl) ?_
        clear ha41 a41; intro a42 ha42
        refine wpList_nil ?_
        refine hK14 _ _ ?_; clear hK14; try clear K14
        refine bool_cases ha42 (t := 32) rfl (fun hb43 ha43 => ?_) (fun hb43 ha43 => ?_)
        · skip
          clear ha42
          try simp only [decide_eq_true_eq, decide_eq_false_iff_not, Bool.not_eq_true, Bool.not_eq_false, Bool.not_eq_eq_eq_not, Bool.not_true, Bool.not_false, Bool.not_not, Int.not_lt, Int.not_le, ne_eq, Decidable.not_not] at hb43
          refine wp_cond_true (ha43.ev (x := .tmp 32) rfl) ?_
          refine wp_seq_k (fun K15 hK15 => ?_)
          refine wp_region_lit ?_
          refine st_y ha43 rfl (y_assign ha43 rfl) ?_
          clear ha43 a42; intro a44 ha44
          refine wpList_nil ?_
          refine hK15 _ _ ?_; clear hK15; try clear K15
          refine wp_ret ?_
          try dsimp only [Exit.then, Exit.inBlock]
          refine (ret1 (fn := Try.f3) ha44 rfl rfl ?_)
          exact ⟨rfl, m37.below⟩
        · skip
          clear ha42
          try simp only [decide_eq_true_eq, decide_eq_false_iff_not, Bool.not_eq_true, Bool.not_eq_false, Bool.not_eq_eq_eq_not, Bool.not_true, Bool.not_false, Bool.not_not, Int.not_lt, Int.not_le, ne_eq, Decidable.not_not] at hb43
          have hafl : af.length ≤ 5 := by simp at hb43; omega
          refine wp_cond_false (ha43.ev (x := .tmp 32) rfl) ?_
          refine wp_skip ?_
          refine hK13 _ _ ?_; clear hK13; try clear K13
          refine wp_seq_k (fun K16 hK16 => ?_)
          have hC16 : ∀ (a : Act) (w : World), (∃ (nn : Int) (C6 : Nat) (pf p5 : Option Addr) (cf : Nat), Has 110 [(0, .slice p5 acts.length c5), (3, .pointer (some ⟨B, 0, none⟩)), (4, .pointer (some ⟨C, 0, none⟩)), (5, .int .i64 i), (6, .pointer (some ⟨C6, 0, none⟩))] a ∧ MemOk (cx (fun _ => True) w0) w0 [(1, .box B 48 [.slice pp (fl.map flD).length cc]), (2, .seg (.slice pp (fl.map flD).length cc) 35 3 (fl.map flD)), (3, .box C 29 [.slice pw (fl.map flD).length cw]), (4, .seg (.slice pw (fl.map flD).length cw) 35 3 (fl.map flD)), (5, .dat (.slice p5 acts.length c5) (.l 3 (acts.map actD))), (6, .box C6 31 [.int .u8 aw, .int .i64 nn, .slice pf (af.map flD).length cf]), (7, .dat (.slice pf (af.map flD).length cf) (.l 3 (af.map flD)))] w) → K16 a w := by
            clear ha43 m37
            rintro a45 w45 ⟨nn, C6, pf, p5, cf, ha45, m45⟩
            refine hK16 _ _ ?_; clear hK16; try clear K16
            refine wp_seq_k (fun K17 hK17 => ?_)
            have hC17 : ∀ (a : Act) (w : World), (∃ (fl2 : List (Int × Int × List Int)) (pp pw p5 : Option Addr) (cc cw : Nat), fl2.length ≤ fl.length + 5 ∧ FlOk fl2 ∧ Has 110 [(0, .slice p5 acts.length c5), (3, .pointer (some ⟨B, 0, none⟩)), (4, .pointer (some ⟨C, 0, none⟩)), (5, .int .i64 i)] a ∧ MemOk (cx (fun _ => True) w0) w0 [(1, .box B 48 [.slice pp (fl2.map flD).length cc]), (2, .seg (.slice pp (fl2.map flD).length cc) 35 3 (fl2.map flD)), (3, .box C 29 [.slice pw (fl2.map flD).length cw]), (4, .seg (.slice pw (fl2.map flD).length cw) 35 3 (fl2.map flD)), (5, .dat (.slice p5 acts.length c5) (.l 3 (acts.map actD)))] w) → K17 a w := by
              clear ha45 m45
              rintro a46 w46 ⟨fl2, pp, pw, p5, cc, cw, hfn2, hfo2, ha46, m46⟩
              refine hK17 _ _ ?_; clear hK17; try clear K17
              refine wp_seq_k (fun K18 hK18 => ?_)
              have m47 : MemOk _ _ [(1, _), (2, _), (3, _), (4, _), (5, _)] _ := m46.only [1, 2, 3, 4, 5]; clear m46
              refine region_m 18 (B := [(3, _)]) (m47.to ⟨.inl rfl, trivial⟩) m47 (by kernel_rfl) (fun w48 mB48 m48 => ?_); clear m47 mB48
              refine d_y 0 ha46 rfl rfl (fun _ => (m48.to ⟨.inl rfl, trivial⟩)) (by kernel_rfl) (by kernel_rfl) (by kernel_rfl) (by rfl) (fun _ _ _ h => h) (fun W => y_move ha46 rfl) ?_
              clear ha46 a46; intro a49 ha49
              refine d_y 2 ha49 rfl rfl (fun _ => (m48.to ⟨.inl rfl, trivial⟩)) (by kernel_rfl) (by kernel_rfl) (by kernel_rfl) (by rfl) (fun _ _ _ h => h) (fun W => y_move ha49 rfl) ?_
              clear ha49 a49; intro a50 ha50
              refine d_y 3 ha50 rfl rfl (fun _ => (m48.to ⟨.inl rfl, trivial⟩)) (by kernel_rfl) (by kernel_rfl) (by kernel_rfl) (by rfl) (fun _ _ _ h => h) (fun W => y_nilCheck ha50 rfl) ?_
              clear ha50 a50; intro a51 ha51
              refine d_y 4 ha51 rfl rfl (fun _ => (m48.to ⟨.inl rfl, trivial⟩)) (by kernel_rfl) (by kernel_rfl) (by kernel_rfl) (by rfl) (fun _ _ _ h => h) (fun W => y_fieldAddr ha51 (off := 0) rfl Try.underlying29 rfl (s := 0) (by kernel_rfl) rfl) ?_
              clear ha51 a51; intro a52 ha52
              refine d_h 5 ha52 rfl rfl (m48.to ⟨.inl rfl, trivial⟩) (by kernel_rfl) (by kernel_rfl) (by kernel_rfl) (by kernel_rfl) (by kernel_rfl) (fun _ _ _ h => h) (fun W hW => y_loadB1 ha52 hW (i := 3) rfl rfl rfl Try.underlying27 rfl) ?_
              clear ha52 a52; intro a53 ha53
              refine d_y 6 ha53 rfl rfl (fun _ => (m48.to ⟨.inl rfl, trivial⟩)) (by kernel_rfl) (by kernel_rfl) (by kernel_rfl) (by rfl) (fun _ _ _ h => h) (fun W => y_len ha53 rfl Try.underlying27) ?_
              clear ha53 a53; intro a54 ha54
              refine stepE_only 1 rfl (by kernel_rfl) rfl (fun K hK => ?_)
              refine e_call ha54 Try.func15 rfl rfl rfl rfl (len_any _ _ _ _ _ (m48.ok 1 _ rfl : Res.ok _ _ _ _ (.box _ _ _)).1) ?_
              rintro e w55 ⟨rfl, hb55⟩
              have m56 := m48.later hb55
              clear m48
              clear hb55
              refine ⟨_, rfl, fun a57 ha57 => ?_⟩; clear ha54 a54
              refine hK _ _ (m56.to ⟨.inl rfl, trivial⟩) ?_; clear hK K
              refine d_y 7 ha57 rfl rfl (fun _ => (m56.to ⟨.inl rfl, trivial⟩)) (by kernel_rfl) (by kernel_rfl) (by kernel_rfl) (by rfl) (fun _ _ _ h => h) (fun W => y_neq ha57 rfl rfl) ?_
              clear ha57 a57; intro a58 ha58
              refine d_y 8 ha58 rfl rfl (fun _ => (m56.to ⟨.inl rfl, trivial⟩)) (by kernel_rfl) (by kernel_rfl) (by kernel_rfl) (by rfl) (fun _ _ _ h => h) (fun W => y_move ha58 rfl) ?_
              clear ha58 a58; intro a59 ha59
              refine bool_cases ha59 (t := 100) rfl (fun hb60 ha60 => ?_) (fun hb60 ha60 => ?_)
              · exact absurd hb60 (by simp)
              clear ha59 hb60
              refine d_yg 9 ha60 rfl rfl rfl rfl rfl (fun _ => (m56.to ⟨.inl rfl, trivial⟩)) (by kernel_rfl) (by kernel_rfl) (by kernel_rfl) (by rfl) (fun _ _ _ h => h) (fun W => y_move ha60 rfl) ?_
              clear ha60 a59; intro a61 ha61
              refine d_yg 11 ha61 rfl rfl rfl rfl rfl (fun _ => (m56.to ⟨.inl rfl, trivial⟩)) (by kernel_rfl) (by kernel_rfl) (by kernel_rfl) (by rfl) (fun _ _ _ h => h) (fun W => y_move ha61 rfl) ?_
              clear ha61 a61; intro a62 ha62
              refine d_yg 12 ha62 rfl rfl rfl rfl rfl (fun _ => (m56.to ⟨.inl rfl, trivial⟩)) (by kernel_rfl) (by kernel_rfl) (by kernel_rfl) (by rfl) (fun _ _ _ h => h) (fun W => y_nilCheck ha62 rfl) ?_
              clear ha62 a62; intro a63 ha63
              refine d_yg 13 ha63 rfl rfl rfl rfl rfl (fun _ => (m56.to ⟨.inl rfl, trivial⟩)) (by kernel_rfl) (by kernel_rfl) (by kernel_rfl) (by rfl) (fun _ _ _ h => h) (fun W => y_fieldAddr ha63 (off := 0) rfl Try.underlying29 rfl (s := 0) (by kernel_rfl) rfl) ?_
              clear ha63 a63; intro a64 ha64
              refine d_hg 14 ha64 rfl rfl rfl rfl rfl (m56.to ⟨.inl rfl, trivial⟩) (by kernel_rfl) (by kernel_rfl) (by kernel_rfl) (by kernel_rfl) (by kernel_rfl) (fun _ _ _ h => h) (fun W hW => y_loadB1 ha64 hW (i := 3) rfl rfl rfl Try.underlying27 rfl) ?_
              clear ha64 a64; intro a65 ha65
              refine stepE_only 10 rfl (by kernel_rfl) (wantedG ha65 rfl rfl rfl rfl) (fun K hK => ?_)
              refine e_call ha65 Try.func16 rfl rfl rfl rfl (allB_any _ _ _ fl2 _ (m56.ok 1 _ rfl : Res.ok _ _ _ _ (.box _ _ _)).1 (m56.segP (i := 1) (j := 2) rfl rfl) (m56.neP (i := 1) (j := 2) (by decide) rfl rfl) (by omega) hfo2) ?_
              rintro e w66 ⟨v66, pp66, cc66, rfl, hp66, hd66⟩
              have hd66 := hd66.cast (fun b h => m56.freeC (i := 1) (j := 2) (pt := 48) (e := 35) (mm := 3) (rows' := (fl2.map flD)) h)
              have m67 := m56.callP 1 2 (by decide) rfl rfl hp66
              clear m56
              have m68 := m67.dat 300 rfl hd66
              clear m67
              obtain ⟨p66, c66, hv66⟩ := hp66.2.1.shape
              subst hv66
              clear hp66 hd66
              refine ⟨_, rfl, fun a69 ha69 => ?_⟩; clear ha65 a65
              refine hK _ _ (m68.to ⟨.inl rfl, trivial⟩) ?_; clear hK K
              refine stepE_only 15 rfl (by kernel_rfl) (wantedG ha69 rfl rfl rfl rfl) (fun K hK => ?_)
              refine e_call ha69 Try.func12 rfl rfl rfl rfl (rsame_map fl2 _ _ _ _ _ (by omega) (m68.rd (i := 300) rfl).any ((m68.ok 4 _ rfl : Res.ok _ _ _ _ (.seg _ _ _ _)).1.rd (S' := fun _ => True) (fun _ _ _ => trivial) (fun _ _ => trivial))) ?_
              rintro e w70 ⟨rfl, hb70⟩
              have m71 := m68.later hb70
              clear m68
              clear hb70
              refine ⟨_, rfl, fun a72 ha72 => ?_⟩; clear ha69 a69
              refine hK _ _ (m71.to ⟨.inl rfl, trivial⟩) ?_; clear hK K
              refine d_yg 16 ha72 rfl rfl rfl rfl rfl (fun _ => (m71.to ⟨.inl rfl, trivial⟩)) (by kernel_rfl) (by kernel_rfl) (by kernel_rfl) (by rfl) (fun _ _ _ h => h) (fun W => y_not ha72 rfl) ?_
              clear ha72 a72; intro a73 ha73
              refine d_y 17 ha73 rfl rfl (fun _ => (m71.to ⟨.inl rfl, trivial⟩)) (by kernel_rfl) (by kernel_rfl) (by kernel_rfl) (by rfl) (fun _ _ _ h => h) (fun W => y_pickF ha73 rfl rfl) ?_
              clear ha73 a73; intro a74 ha74
              refine wpAnyE_done (by kernel_rfl) ?_ _
              refine hK18 _ _ ?_; clear hK18; try clear K18
              refine wp_cond_false (ha74.ev (x := .tmp 109) rfl) ?_
              refine wp_skip ?_
              refine hK11 _ _ ?_; clear hK11; try clear K11
              have ha75 : Has 110 [(0, _), (3, _), (4, _), (5, _)] a74 := ha74.only [0, 3, 4, 5]; clear ha74
              refine wp_region_lit ?_
              refine st_y ha75 rfl (y_move ha75 rfl) ?_
              clear ha75 a74; intro a76 ha76
              refine st_y ha76 rfl (y_add ha76 rfl rfl (r := ((i + 1 : Nat) : Int)) (by rw [IntWalk.i64_in _ (by omega)]; omega)) ?_
              clear ha76 a76; intro a77 ha77
              refine st_y ha77 rfl (y_assign ha77 rfl) ?_
              clear ha77 a77; intro a78 ha78
              refine wpList_nil ?_
              show ∃ n', n' < _ ∧ _
              exact ⟨acts.length - (i + 1), by omega, i + 1, _, _, fl2, _, _, _, _, _, _, by omega, rfl, by omega, hfo2, ha78.only [0, 3, 4, 5], m71.only [1, 2, 3, 4, 5]⟩
            refine wp_seq_k (fun K19 hK19 => ?_)
            refine wp_region_lit ?_
            refine st_y ha45 rfl (y_fieldAddr ha45 (off := 0) rfl Try.underlying31 rfl (s := 0) (by kernel_rfl) rfl) ?_
            clear ha45 a45; intro a79 ha79
            refine st_y ha79 rfl (y_loadB1 ha79 m45 (i := 6) rfl rfl rfl Try.underlying5 rfl) ?_
            clear ha79 a79; intro a80 ha80
            refine st_y ha80 rfl (y_rem ha80 rfl rfl (by decide) rfl) ?_
            clear ha80 a80; intro a81 ha81
            refine wpList_nil ?_
            refine hK19 _ _ ?_; clear hK19; try clear K19
            refine wp_block ?_
            refine wp_seq_k (fun K20 hK20 => ?_)
            refine wp_seq_k (fun K21 hK21 => ?_)
            refine wp_region_lit ?_
            refine st_y ha81 rfl (y_eql ha81 rfl rfl) ?_
            clear ha81 a81; intro a82 ha82
            refine st_y ha82 rfl (y_assign ha82 rfl) ?_
            clear ha82 a82; intro a83 ha83
            refine wpList_nil ?_
            refine hK21 _ _ ?_; clear hK21; try clear K21
            refine bool_cases ha83 (t := 52) rfl (fun hb84 ha84 => ?_) (fun hb84 ha84 => ?_)
            · skip
              clear ha83
              try simp only [decide_eq_true_eq, decide_eq_false_iff_not, Bool.not_eq_true, Bool.not_eq_false, Bool.not_eq_eq_eq_not, Bool.not_true, Bool.not_false, Bool.not_not, Int.not_lt, Int.not_le, ne_eq, Decidable.not_not] at hb84
              refine wp_cond_true (ha84.ev (x := .tmp 52) rfl) ?_
              refine wp_skip ?_
              refine hK20 _ _ ?_; clear hK20; try clear K20
              refine wp_cond_true (ha84.ev (x := .tmp 52) rfl) ?_
              refine wp_seq_k (fun K22 hK22 => ?_)
              refine wp_region_lit ?_
              refine st_y ha84 rfl (y_move ha84 rfl) ?_
              clear ha84 a83; intro a85 ha85
              refine st_y ha85 rfl (y_fieldAddr ha85 (off := 2) rfl Try.underlying31 rfl (s := 0) (by kernel_rfl) rfl) ?_
              clear ha85 a85; intro a86 ha86
              refine st_y ha86 rfl (y_loadB1 ha86 m45 (i := 6) rfl rfl rfl Try.underlying27 rfl) ?_
              clear ha86 a86; intro a87 ha87
              refine wpList_plain rfl (fun K hK => ?_)
              refine e_call ha87 Try.func8 rfl rfl rfl rfl (sendB_map _ _ _ _ af _ _ _ (m45.ok 1 _ rfl : Res.ok _ _ _ _ (.box _ _ _)).1 (m45.segP (i := 1) (j := 2) rfl rfl) (m45.neP (i := 1) (j := 2) (by decide) rfl rfl) ((m45.rd (i := 7) rfl).cast (fun b hF => ⟨hF, fun h => hF.2 ⟨1, _, rfl, by rw [h]; rfl⟩, fun h => hF.2 ⟨2, _, rfl, h⟩⟩)) (by simp; omega) haf) ?_
              rintro e w88 ⟨rfl, v88, hp88⟩
              have m89 := m45.callP 1 2 (by decide) rfl rfl hp88
              clear m45
              obtain ⟨p88, c88, hv88⟩ := hp88.2.1.shape
              subst hv88
              clear hp88
              refine ⟨_, rfl, fun a90 ha90 => ?_⟩; clear ha87 a87
              refine hK _ _ ?_; clear hK K
              refine wpList_nil ?_
              refine hK22 _ _ ?_; clear hK22; try clear K22
              have ha91 : Has 110 [(0, _), (3, _), (4, _), (5, _), (6, _), (42, _), (52, _)] a90 := ha90.only [0, 3, 4, 5, 6, 42, 52]; clear ha90
              refine wp_region_lit ?_
              refine st_y ha91 rfl (y_move ha91 rfl) ?_
              clear ha91 a90; intro a92 ha92
              refine st_y ha92 rfl (y_fieldAddr ha92 (off := 2) rfl Try.underlying31 rfl (s := 0) (by kernel_rfl) rfl) ?_
              clear ha92 a92; intro a93 ha93
              refine st_y ha93 rfl (y_loadB1 ha93 m89 (i := 6) rfl rfl rfl Try.underlying27 rfl) ?_
              clear ha93 a93; intro a94 ha94
              refine wpList_plain rfl (fun K hK => ?_)
              refine e_call ha94 Try.func9 rfl rfl rfl rfl (rsend_map _ _ _ _ af _ _ _ (m89.ok 3 _ rfl : Res.ok _ _ _ _ (.box _ _ _)).1 (m89.segP (i := 3) (j := 4) rfl rfl) (m89.neP (i := 3) (j := 4) (by decide) rfl rfl) ((m89.rd (i := 7) rfl).cast (fun b hF => ⟨hF, fun h => hF.2 ⟨3, _, rfl, by rw [h]; rfl⟩, fun h => hF.2 ⟨4, _, rfl, h⟩⟩)) (by simp; omega) ) ?_
              rintro e w95 ⟨rfl, v95, hp95⟩
              have m96 := m89.callP 3 4 (by decide) rfl rfl hp95
              clear m89
              obtain ⟨p95, c95, hv95⟩ := hp95.2.1.shape
              subst hv95
              clear hp95
              refine ⟨_, rfl, fun a97 ha97 => ?_⟩; clear ha94 a94
              refine hK _ _ ?_; clear hK K
              refine wpList_nil ?_
              rw [← List.map_append] at m96
              exact hC17 _ _ ⟨fl ++ af, _, _, _, _, _, by simp; omega, flok_app hfo haf, ha97.only [0, 3, 4, 5], m96.only [1, 2, 3, 4, 5]⟩
            · skip
              clear ha83
              try simp only [decide_eq_true_eq, decide_eq_false_iff_not, Bool.not_eq_true, Bool.not_eq_false, Bool.not_eq_eq_eq_not, Bool.not_true, Bool.not_false, Bool.not_not, Int.not_lt, Int.not_le, ne_eq, Decidable.not_not] at hb84
              refine wp_cond_false (ha84.ev (x := .tmp 52) rfl) ?_
              refine wp_seq_k (fun K23 hK23 => ?_)
              refine wp_region_lit ?_
              refine st_y ha84 rfl (y_eql ha84 rfl rfl) ?_
              clear ha84 a83; intro a98 ha98
              refine st_y ha98 rfl (y_assign ha98 rfl) ?_
              clear ha98 a98; intro a99 ha99
              refine wpList_nil ?_
              refine hK23 _ _ ?_; clear hK23; try clear K23
              refine bool_cases ha99 (t := 52) rfl (fun hb100 ha100 => ?_) (fun hb100 ha100 => ?_)
              · skip
                clear ha99
                try simp only [decide_eq_true_eq, decide_eq_false_iff_not, Bool.not_eq_true, Bool.not_eq_false, Bool.not_eq_eq_eq_not, Bool.not_true, Bool.not_false, Bool.not_not, Int.not_lt, Int.not_le, ne_eq, Decidable.not_not] at hb100
                refine wp_cond_true (ha100.ev (x := .tmp 52) rfl) ?_
                refine wp_skip ?_
                refine hK20 _ _ ?_; clear hK20; try clear K20
                refine wp_cond_true (ha100.ev (x := .tmp 52) rfl) ?_
                refine wp_seq_k (fun K24 hK24 => ?_)
                refine wp_region_lit ?_
                refine st_y ha100 rfl (y_move ha100 rfl) ?_
                clear ha100 a99; intro a101 ha101
                refine st_y ha101 rfl (y_fieldAddr ha101 (off := 2) rfl Try.underlying31 rfl (s := 0) (by kernel_rfl) rfl) ?_
                clear ha101 a101; intro a102 ha102
                refine st_y ha102 rfl (y_loadB1 ha102 m45 (i := 6) rfl rfl rfl Try.underlying27 rfl) ?_
                clear ha102 a102; intro a103 ha103
                refine wpList_plain rfl (fun K hK => ?_)
                refine e_call ha103 Try.func8 rfl rfl rfl rfl (sendB_map _ _ _ _ af _ _ _ (m45.ok 1 _ rfl : Res.ok _ _ _ _ (.box _ _ _)).1 (m45.segP (i := 1) (j := 2) rfl rfl) (m45.neP (i := 1) (j := 2) (by decide) rfl rfl) ((m45.rd (i := 7) rfl).cast (fun b hF => ⟨hF, fun h => hF.2 ⟨1, _, rfl, by rw [h]; rfl⟩, fun h => hF.2 ⟨2, _, rfl, h⟩⟩)) (by simp; omega) haf) ?_
                rintro e w104 ⟨rfl, v104, hp104⟩
                have m105 := m45.callP 1 2 (by decide) rfl rfl hp104
                clear m45
                obtain ⟨p104, c104, hv104⟩ := hp104.2.1.shape
                subst hv104
                clear hp104
                refine ⟨_, rfl, fun a106 ha106 => ?_⟩; clear ha103 a103
                refine hK _ _ ?_; clear hK K
                refine wpList_nil ?_
                refine hK24 _ _ ?_; clear hK24; try clear K24
                have ha107 : Has 110 [(0, _), (3, _), (4, _), (5, _), (6, _), (42, _), (52, _)] a106 := ha106.only [0, 3, 4, 5, 6, 42, 52]; clear ha106
                refine wp_region_lit ?_
                refine st_y ha107 rfl (y_move ha107 rfl) ?_
                clear ha107 a106; intro a108 ha108
                refine st_y ha108 rfl (y_fieldAddr ha108 (off := 2) rfl Try.underlying31 rfl (s := 0) (by kernel_rfl) rfl) ?_
                clear ha108 a108; intro a109 ha109
                refine st_y ha109 rfl (y_loadB1 ha109 m105 (i := 6) rfl rfl rfl Try.underlying27 rfl) ?_
                clear ha109 a109; intro a110 ha110
                refine wpList_plain rfl (fun K hK => ?_)
                refine e_call ha110 Try.func9 rfl rfl rfl rfl (rsend_map _ _ _ _ af _ _ _ (m105.ok 3 _ rfl : Res.ok _ _ _ _ (.box _ _ _)).1 (m105.segP (i := 3) (j := 4) rfl rfl) (m105.neP (i := 3) (j := 4) (by decide) rfl rfl) ((m105.rd (i := 7) rfl).cast (fun b hF => ⟨hF, fun h => hF.2 ⟨3, _, rfl, by rw [h]; rfl⟩, fun h => hF.2 ⟨4, _, rfl, h⟩⟩)) (by simp; omega) ) ?_
                rintro e w111 ⟨rfl, v111, hp111⟩
                have m112 := m105.callP 3 4 (by decide) rfl rfl hp111
                clear m105
                obtain ⟨p111, c111, hv111⟩ := hp111.2.1.shape
                subst hv111
                clear hp111
                refine ⟨_, rfl, fun a113 ha113 => ?_⟩; clear ha110 a110
                refine hK _ _ ?_; clear hK K
                refine wpList_nil ?_
                rw [← List.map_append] at m112
                exact hC17 _ _ ⟨fl ++ af, _, _, _, _, _, by simp; omega, flok_app hfo haf, ha113.only [0, 3, 4, 5], m112.only [1, 2, 3, 4, 5]⟩
              · skip
                clear ha99
                try simp only [decide_eq_true_eq, decide_eq_false_iff_not, Bool.not_eq_true, Bool.not_eq_false, Bool.not_eq_eq_eq_not, Bool.not_true, Bool.not_false, Bool.not_not, Int.not_lt, Int.not_le, ne_eq, Decidable.not_not] at hb100
                refine wp_cond_false (ha100.ev (x := .tmp 52) rfl) ?_
                refine wp_region_lit ?_
                refine st_y ha100 rfl (y_eql ha100 rfl rfl) ?_
                clear ha100 a99; intro a114 ha114
                refine st_y ha114 rfl (y_assign ha114 rfl) ?_
                clear ha114 a114; intro a115 ha115
                refine wpList_nil ?_
                refine hK20 _ _ ?_; clear hK20; try clear K20
                refine bool_cases ha115 (t := 52) rfl (fun hb116 ha116 => ?_) (fun hb116 ha116 => ?_)
                · skip
                  clear ha115
                  try simp only [decide_eq_true_eq, decide_eq_false_iff_not, Bool.not_eq_true, Bool.not_eq_false, Bool.not_eq_eq_eq_not, Bool.not_true, Bool.not_false, Bool.not_not, Int.not_lt, Int.not_le, ne_eq, Decidable.not_not] at hb116
                  refine wp_cond_true (ha116.ev (x := .tmp 52) rfl) ?_
                  refine wp_seq_k (fun K25 hK25 => ?_)
                  refine wp_region_lit ?_
                  refine st_y ha116 rfl (y_move ha116 rfl) ?_
                  clear ha116 a115; intro a117 ha117
                  refine st_y ha117 rfl (y_fieldAddr ha117 (off := 2) rfl Try.underlying31 rfl (s := 0) (by kernel_rfl) rfl) ?_
                  clear ha117 a117; intro a118 ha118
                  refine st_y ha118 rfl (y_loadB1 ha118 m45 (i := 6) rfl rfl rfl Try.underlying27 rfl) ?_
                  clear ha118 a118; intro a119 ha119
                  refine wpList_plain rfl (fun K hK => ?_)
                  refine e_call ha119 Try.func8 rfl rfl rfl rfl (sendB_map _ _ _ _ af _ _ _ (m45.ok 1 _ rfl : Res.ok _ _ _ _ (.box _ _ _)).1 (m45.segP (i := 1) (j := 2) rfl rfl) (m45.neP (i := 1) (j := 2) (by decide) rfl rfl) ((m45.rd (i := 7) rfl).cast (fun b hF => ⟨hF, fun h => hF.2 ⟨1, _, rfl, by rw [h]; rfl⟩, fun h => hF.2 ⟨2, _, rfl, h⟩⟩)) (by simp; omega) haf) ?_
                  rintro e w120 ⟨rfl, v120, hp120⟩
                  have m121 := m45.callP 1 2 (by decide) rfl rfl hp120
                  clear m45
                  obtain ⟨p120, c120, hv120⟩ := hp120.2.1.shape
                  subst hv120
                  clear hp120
                  refine ⟨_, rfl, fun a122 ha122 => ?_⟩; clear ha119 a119
                  refine hK _ _ ?_; clear hK K
                  refine wpList_nil ?_
                  refine hK25 _ _ ?_; clear hK25; try clear K25
                  have ha123 : Has 110 [(0, _), (3, _), (4, _), (5, _), (6, _), (42, _), (52, _)] a122 := ha122.only [0, 3, 4, 5, 6, 42, 52]; clear ha122
                  refine wp_region_lit ?_
                  refine st_y ha123 rfl (y_move ha123 rfl) ?_
                  clear ha123 a122; intro a124 ha124
                  refine st_y ha124 rfl (y_fieldAddr ha124 (off := 2) rfl Try.underlying31 rfl (s := 0) (by kernel_rfl) rfl) ?_
                  clear ha124 a124; intro a125 ha125
                  refine st_y ha125 rfl (y_loadB1 ha125 m121 (i := 6) rfl rfl rfl Try.underlying27 rfl) ?_
                  clear ha125 a125; intro a126 ha126
                  refine wpList_plain rfl (fun K hK => ?_)
                  refine e_call ha126 Try.func9 rfl rfl rfl rfl (rsend_map _ _ _ _ af _ _ _ (m121.ok 3 _ rfl : Res.ok _ _ _ _ (.box _ _ _)).1 (m121.segP (i := 3) (j := 4) rfl rfl) (m121.neP (i := 3) (j := 4) (by decide) rfl rfl) ((m121.rd (i := 7) rfl).cast (fun b hF => ⟨hF, fun h => hF.2 ⟨3, _, rfl, by rw [h]; rfl⟩, fun h => hF.2 ⟨4, _, rfl, h⟩⟩)) (by simp; omega) ) ?_
                  rintro e w127 ⟨rfl, v127, hp127⟩
                  have m128 := m121.callP 3 4 (by decide) rfl rfl hp127
                  clear m121
                  obtain ⟨p127, c127, hv127⟩ := hp127.2.1.shape
                  subst hv127
                  clear hp127
                  refine ⟨_, rfl, fun a129 ha129 => ?_⟩; clear ha126 a126
                  refine hK _ _ ?_; clear hK K
                  refine wpList_nil ?_
                  rw [← List.map_append] at m128
                  exact hC17 _ _ ⟨fl ++ af, _, _, _, _, _, by simp; omega, flok_app hfo haf, ha129.only [0, 3, 4, 5], m128.only [1, 2, 3, 4, 5]⟩
                · skip
                  clear ha115
                  try simp only [decide_eq_true_eq, decide_eq_false_iff_not, Bool.not_eq_true, Bool.not_eq_false, Bool.not_eq_eq_eq_not, Bool.not_true, Bool.not_false, Bool.not_not, Int.not_lt, Int.not_le, ne_eq, Decidable.not_not] at hb116
                  refine wp_cond_false (ha116.ev (x := .tmp 52) rfl) ?_
                  refine wp_seq_k (fun K26 hK26 => ?_)
                  refine wp_seq_k (fun K27 hK27 => ?_)
                  refine wp_region_lit ?_
                  refine st_y ha116 rfl (y_eql ha116 rfl rfl) ?_
                  clear ha116 a115; intro a130 ha130
                  refine st_y ha130 rfl (y_assign ha130 rfl) ?_
                  clear ha130 a130; intro a131 ha131
                  refine wpList_nil ?_
                  refine hK27 _ _ ?_; clear hK27; try clear K27
                  refine bool_cases ha131 (t := 64) rfl (fun hb132 ha132 => ?_) (fun hb132 ha132 => ?_)
                  · skip
                    clear ha131
                    try simp only [decide_eq_true_eq, decide_eq_false_iff_not, Bool.not_eq_true, Bool.not_eq_false, Bool.not_eq_eq_eq_not, Bool.not_true, Bool.not_false, Bool.not_not, Int.not_lt, Int.not_le, ne_eq, Decidable.not_not] at hb132
                    refine wp_cond_true (ha132.ev (x := .tmp 64) rfl) ?_
                    refine wp_skip ?_
                    refine hK26 _ _ ?_; clear hK26; try clear K26
                    refine wp_cond_true (ha132.ev (x := .tmp 64) rfl) ?_
                    refine wp_seq_k (fun K28 hK28 => ?_)
                    have ha133 : Has 110 [(0, _), (3, _), (4, _), (5, _), (6, _), (52, _), (64, _)] a131 := ha132.only [0, 3, 4, 5, 6, 52, 64]; clear ha132
                    refine wp_region_lit ?_
                    refine st_y ha133 rfl (y_move ha133 rfl) ?_
                    clear ha133 a131; intro a134 ha134
                    refine st_y ha134 rfl (y_fieldAddr ha134 (off := 1) rfl Try.underlying31 rfl (s := 0) (by kernel_rfl) rfl) ?_
                    clear ha134 a134; intro a135 ha135
                    refine st_y ha135 rfl (y_loadB1 ha135 m45 (i := 6) rfl rfl rfl Try.underlying3 rfl) ?_
                    clear ha135 a135; intro a136 ha136
                    obtain ⟨⟨ff, ft, fd⟩, hF⟩ : ∃ x, tkF nn fl = x := ⟨_, rfl⟩
                    obtain ⟨fl2, hL⟩ : ∃ x, tkL nn fl = x := ⟨_, rfl⟩
                    obtain ⟨tb, htb⟩ : ∃ x, tkB nn fl = x := ⟨_, rfl⟩
                    refine wpList_plain rfl (fun K hK => ?_)
                    refine e_call ha136 Try.func10 rfl rfl rfl rfl (take_is _ _ _ _ nn fl _ (m45.ok 1 _ rfl : Res.ok _ _ _ _ (.box _ _ _)).1 (m45.segP (i := 1) (j := 2) rfl rfl) (m45.neP (i := 1) (j := 2) (by decide) rfl rfl) (by omega) hF hL htb) ?_
                    rintro e w137 ⟨v137, pp137, cc137, rfl, hp137, hd137⟩
                    have hd137 := hd137.cast (fun b h => m45.freeC (i := 1) (j := 2) (pt := 48) (e := 35) (mm := 3) (rows' := (fl2.map flD)) h)
                    have m138 := m45.callP 1 2 (by decide) rfl rfl hp137
                    clear m45
                    have m139 := m138.dat 200 rfl hd137
                    clear m138
                    obtain ⟨p137, c137, hv137⟩ := hp137.2.1.shape
                    subst hv137
                    clear hp137 hd137
                    refine ⟨_, rfl, fun a140 ha140 => ?_⟩; clear ha136 a136
                    refine hK _ _ ?_; clear hK K
                    refine st_y ha140 rfl (y_move ha140 rfl) ?_
                    clear ha140 a140; intro a141 ha141
                    refine st_y ha141 rfl (y_extract ha141 rfl rfl) ?_
                    clear ha141 a141; intro a142 ha142
                    refine st_y ha142 rfl (y_extract ha142 rfl rfl) ?_
                    clear ha142 a142; intro a143 ha143
                    refine wpList_plain rfl (fun K hK => ?_)
                    refine e_alloc ha143 m139 201 zc35p rfl ?_
                    clear ha143 a143 m139; intro g144 a145 w145 ha145 m145 hB145 hg145
                    clear hB145 hg145
                    refine hK _ _ ?_; clear hK K
                    refine wpList_plain rfl (fun K hK => ?_)
                    refine e_storeW ha145 m145 201 rfl rfl rfl rfl rfl sz35p ?_
                    clear m145; intro w146 m146 hB146
                    clear hB146
                    refine hK _ _ ?_; clear hK K
                    refine st_y ha145 rfl (y_assign ha145 rfl) ?_
                    clear ha145 a145; intro a147 ha147
                    refine wpList_nil ?_
                    refine hK28 _ _ ?_; clear hK28; try clear K28
                    refine wp_seq_k (fun K29 hK29 => ?_)
                    have ha148 : Has 110 [(0, _), (3, _), (4, _), (5, _), (6, _), (52, _), (64, _), (7, _), (8, _)] a147 := ha147.only [0, 3, 4, 5, 6, 52, 64, 7, 8]; clear ha147
                    refine wp_region_lit ?_
                    refine st_y ha148 rfl (y_move ha148 rfl) ?_
                    clear ha148 a147; intro a149 ha149
                    refine st_y ha149 rfl (y_fieldAddr ha149 (off := 1) rfl Try.underlying31 rfl (s := 0) (by kernel_rfl) rfl) ?_
                    clear ha149 a149; intro a150 ha150
                    refine st_y ha150 rfl (y_loadB1 ha150 m146 (i := 6) rfl rfl rfl Try.underlying3 rfl) ?_
                    clear ha150 a150; intro a151 ha151
                    refine wpList_plain rfl (fun K hK => ?_)
                    refine e_call ha151 Try.func11 rfl rfl rfl rfl (rtake_is _ _ _ _ nn fl _ (m146.ok 3 _ rfl : Res.ok _ _ _ _ (.box _ _ _)).1 (m146.segP (i := 3) (j := 4) rfl rfl) (m146.neP (i := 3) (j := 4) (by decide) rfl rfl) (by omega) hF hL htb) ?_
                    rintro e w152 ⟨v152, pp152, cc152, rfl, hp152, hd152⟩
                    have hd152 := hd152.cast (fun b h => m146.freeC (i := 3) (j := 4) (pt := 29) (e := 35) (mm := 3) (rows' := (fl2.map flD)) h)
                    have m153 := m146.callP 3 4 (by decide) rfl rfl hp152
                    clear m146
                    have m154 := m153.dat 202 rfl hd152
                    clear m153
                    obtain ⟨p152, c152, hv152⟩ := hp152.2.1.shape
                    subst hv152
                    clear hp152 hd152
                    refine ⟨_, rfl, fun a155 ha155 => ?_⟩; clear ha151 a151
                    refine hK _ _ ?_; clear hK K
                    refine st_y ha155 rfl (y_move ha155 rfl) ?_
                    clear ha155 a155; intro a156 ha156
                    refine st_y ha156 rfl (y_extract ha156 rfl rfl) ?_
                    clear ha156 a156; intro a157 ha157
                    refine st_y ha157 rfl (y_extract ha157 rfl rfl) ?_
                    clear ha157 a157; intro a158 ha158
                    refine wpList_plain rfl (fun K hK => ?_)
                    refine e_alloc ha158 m154 203 zc35p rfl ?_
                    clear ha158 a158 m154; intro g159 a160 w160 ha160 m160 hB160 hg160
                    clear hB160 hg160
                    refine hK _ _ ?_; clear hK K
                    refine wpList_plain rfl (fun K hK => ?_)
                    refine e_storeW ha160 m160 203 rfl rfl rfl rfl rfl sz35p ?_
                    clear m160; intro w161 m161 hB161
                    clear hB161
                    refine hK _ _ ?_; clear hK K
                    refine st_y ha160 rfl (y_assign ha160 rfl) ?_
                    clear ha160 a160; intro a162 ha162
                    refine wpList_nil ?_
                    refine hK29 _ _ ?_; clear hK29; try clear K29
                    refine wp_seq_k (fun K30 hK30 => ?_)
                    have ha163 : Has 110 [(0, _), (3, _), (4, _), (5, _), (6, _), (52, _), (64, _), (7, _), (8, _), (9, _), (10, _)] a162 := ha162.only [0, 3, 4, 5, 6, 52, 64, 7, 8, 9, 10]; clear ha162
                    refine wp_region_lit ?_
                    refine st_y ha163 rfl (y_move ha163 rfl) ?_
                    clear ha163 a162; intro a164 ha164
                    refine st_y ha164 rfl (y_move ha164 rfl) ?_
                    clear ha164 a164; intro a165 ha165
                    refine st_y ha165 rfl (y_neqB ha165 rfl rfl Try.underlying4) ?_
                    clear ha165 a165; intro a166 ha166
                    refine st_y ha166 rfl (y_move ha166 rfl) ?_
                    clear ha166 a166; intro a167 ha167
                    refine bool_cases ha167 (t := 84) rfl (fun hb168 ha168 => ?_) (fun hb168 ha168 => ?_)
                    · exact absurd hb168 (by simp)
                    clear ha167 hb168
                    refine st_g ha168 rfl rfl rfl rfl (y_loadBR ha168 m161 (i := 201) rfl rfl Try.underlying35 rfl sz35p (by simp) (by dsimp only [List.drop, List.take] <;> rfl)) ?_
                    clear ha168 a167; intro a169 ha169
                    refine st_ge ha169 rfl rfl rfl rfl (fun K hK => ?_)
                    refine e_litR ha169 m161 204 (mm := 3) rfl (.cons rfl rfl (.cons (.v _) (.cons (.v _) (.cons (m161.rd (i := 200) rfl) .nil))) <| .nil) Try.underlying27 inf35p rfl rfl rfl rfl rfl ?_
                    clear ha169 a169 m161; intro g170 a171 w171 ha171 m171 
                    refine hK _ _ ?_; clear hK K
                    refine st_g ha171 rfl rfl rfl rfl (y_loadBR ha171 m171 (i := 203) rfl rfl Try.underlying35 rfl sz35p (by simp) (by dsimp only [List.drop, List.take] <;> rfl)) ?_
                    clear ha171 a171; intro a172 ha172
                    refine st_ge ha172 rfl rfl rfl rfl (fun K hK => ?_)
                    refine e_litR ha172 m171 205 (mm := 3) rfl (.cons rfl rfl (.cons (.v _) (.cons (.v _) (.cons (m171.rd (i := 202) rfl) .nil))) <| .nil) Try.underlying27 inf35p rfl rfl rfl rfl rfl ?_
                    clear ha172 a172 m171; intro g173 a174 w174 ha174 m174 
                    refine hK _ _ ?_; clear hK K
                    have m175 := m174.freezeR 204 rfl; clear m174
                    have m176 := m175.freezeR 205 rfl; clear m175
                    refine st_ge ha174 rfl rfl rfl rfl (fun K hK => ?_)
                    refine e_call ha174 Try.func12 rfl rfl rfl rfl (rsame_map [(ff, ft, fd)] _ _ _ _ _ (by simp) (m176.rd (i := 204) rfl).any (m176.rd (i := 205) rfl).any) ?_
                    rintro e w177 ⟨rfl, hb177⟩
                    have m178 := m176.later hb177
                    clear m176
                    clear hb177
                    refine ⟨_, rfl, fun a179 ha179 => ?_⟩; clear ha174 a174
                    refine hK _ _ ?_; clear hK K
                    refine st_g ha179 rfl rfl rfl rfl (y_not ha179 rfl) ?_
                    clear ha179 a179; intro a180 ha180
                    refine st_y ha180 rfl (y_pickF ha180 rfl rfl) ?_
                    clear ha180 a180; intro a181 ha181
                    refine wpList_nil ?_
                    refine hK30 _ _ ?_; clear hK30; try clear K30
                    refine wp_cond_false (ha181.ev (x := .tmp 91) rfl) ?_
                    refine wp_skip ?_
                    exact hC17 _ _ ⟨fl2, _, _, _, _, _, by have := tkL_len (q := nn) (fl := fl); rw [hL] at this; omega, (fun f hf => hfo f (tkL_sub (q := nn) f (hL ▸ hf))), ha181.only [0, 3, 4, 5], m178.only [1, 2, 3, 4, 5]⟩
                  · skip
                    clear ha131
                    try simp only [decide_eq_true_eq, decide_eq_false_iff_not, Bool.not_eq_true, Bool.not_eq_false, Bool.not_eq_eq_eq_not, Bool.not_true, Bool.not_false, Bool.not_not, Int.not_lt, Int.not_le, ne_eq, Decidable.not_not] at hb132
                    refine wp_cond_false (ha132.ev (x := .tmp 64) rfl) ?_
                    have ha182 : Has 110 [(0, _), (3, _), (4, _), (5, _), (6, _), (42, _), (52, _), (64, _)] a131 := ha132.only [0, 3, 4, 5, 6, 42, 52, 64]; clear ha132
                    refine wp_region_lit ?_
                    refine st_y ha182 rfl (y_eql ha182 rfl rfl) ?_
                    clear ha182 a131; intro a183 ha183
                    refine st_y ha183 rfl (y_assign ha183 rfl) ?_
                    clear ha183 a183; intro a184 ha184
                    refine wpList_nil ?_
                    refine hK26 _ _ ?_; clear hK26; try clear K26
                    refine bool_cases ha184 (t := 64) rfl (fun hb185 ha185 => ?_) (fun hb185 ha185 => ?_)
                    · skip
                      clear ha184
                      try simp only [decide_eq_true_eq, decide_eq_false_iff_not, Bool.not_eq_true, Bool.not_eq_false, Bool.not_eq_eq_eq_not, Bool.not_true, Bool.not_false, Bool.not_not, Int.not_lt, Int.not_le, ne_eq, Decidable.not_not] at hb185
                      refine wp_cond_true (ha185.ev (x := .tmp 64) rfl) ?_
                      refine wp_seq_k (fun K31 hK31 => ?_)
                      refine wp_region_lit ?_
                      refine st_y ha185 rfl (y_move ha185 rfl) ?_
                      clear ha185 a184; intro a186 ha186
                      refine st_y ha186 rfl (y_fieldAddr ha186 (off := 1) rfl Try.underlying31 rfl (s := 0) (by kernel_rfl) rfl) ?_
                      clear ha186 a186; intro a187 ha187
                      refine st_y ha187 rfl (y_loadB1 ha187 m45 (i := 6) rfl rfl rfl Try.underlying3 rfl) ?_
                      clear ha187 a187; intro a188 ha188
                      obtain ⟨⟨ff, ft, fd⟩, hF⟩ : ∃ x, tkF nn fl = x := ⟨_, rfl⟩
                      obtain ⟨fl2, hL⟩ : ∃ x, tkL nn fl = x := ⟨_, rfl⟩
                      obtain ⟨tb, htb⟩ : ∃ x, tkB nn fl = x := ⟨_, rfl⟩
                      refine wpList_plain rfl (fun K hK => ?_)
                      refine e_call ha188 Try.func10 rfl rfl rfl rfl (take_is _ _ _ _ nn fl _ (m45.ok 1 _ rfl : Res.ok _ _ _ _ (.box _ _ _)).1 (m45.segP (i := 1) (j := 2) rfl rfl) (m45.neP (i := 1) (j := 2) (by decide) rfl rfl) (by omega) hF hL htb) ?_
                      rintro e w189 ⟨v189, pp189, cc189, rfl, hp189, hd189⟩
                      have hd189 := hd189.cast (fun b h => m45.freeC (i := 1) (j := 2) (pt := 48) (e := 35) (mm := 3) (rows' := (fl2.map flD)) h)
                      have m190 := m45.callP 1 2 (by decide) rfl rfl hp189
                      clear m45
                      have m191 := m190.dat 200 rfl hd189
                      clear m190
                      obtain ⟨p189, c189, hv189⟩ := hp189.2.1.shape
                      subst hv189
                      clear hp189 hd189
                      refine ⟨_, rfl, fun a192 ha192 => ?_⟩; clear ha188 a188
                      refine hK _ _ ?_; clear hK K
                      refine st_y ha192 rfl (y_move ha192 rfl) ?_
                      clear ha192 a192; intro a193 ha193
                      refine st_y ha193 rfl (y_extract ha193 rfl rfl) ?_
                      clear ha193 a193; intro a194 ha194
                      refine st_y ha194 rfl (y_extract ha194 rfl rfl) ?_
                      clear ha194 a194; intro a195 ha195
                      refine wpList_plain rfl (fun K hK => ?_)
                      refine e_alloc ha195 m191 201 zc35p rfl ?_
                      clear ha195 a195 m191; intro g196 a197 w197 ha197 m197 hB197 hg197
                      clear hB197 hg197
                      refine hK _ _ ?_; clear hK K
                      refine wpList_plain rfl (fun K hK => ?_)
                      refine e_storeW ha197 m197 201 rfl rfl rfl rfl rfl sz35p ?_
                      clear m197; intro w198 m198 hB198
                      clear hB198
                      refine hK _ _ ?_; clear hK K
                      refine st_y ha197 rfl (y_assign ha197 rfl) ?_
                      clear ha197 a197; intro a199 ha199
                      refine wpList_nil ?_
                      refine hK31 _ _ ?_; clear hK31; try clear K31
                      refine wp_seq_k (fun K32 hK32 => ?_)
                      have ha200 : Has 110 [(0, _), (3, _), (4, _), (5, _), (6, _), (52, _), (64, _), (7, _), (8, _)] a199 := ha199.only [0, 3, 4, 5, 6, 52, 64, 7, 8]; clear ha199
                      refine wp_region_lit ?_
                      refine st_y ha200 rfl (y_move ha200 rfl) ?_
                      clear ha200 a199; intro a201 ha201
                      refine st_y ha201 rfl (y_fieldAddr ha201 (off := 1) rfl Try.underlying31 rfl (s := 0) (by kernel_rfl) rfl) ?_
                      clear ha201 a201; intro a202 ha202
                      refine st_y ha202 rfl (y_loadB1 ha202 m198 (i := 6) rfl rfl rfl Try.underlying3 rfl) ?_
                      clear ha202 a202; intro a203 ha203
                      refine wpList_plain rfl (fun K hK => ?_)
                      refine e_call ha203 Try.func11 rfl rfl rfl rfl (rtake_is _ _ _ _ nn fl _ (m198.ok 3 _ rfl : Res.ok _ _ _ _ (.box _ _ _)).1 (m198.segP (i := 3) (j := 4) rfl rfl) (m198.neP (i := 3) (j := 4) (by decide) rfl rfl) (by omega) hF hL htb) ?_
                      rintro e w204 ⟨v204, pp204, cc204, rfl, hp204, hd204⟩
                      have hd204 := hd204.cast (fun b h => m198.freeC (i := 3) (j := 4) (pt := 29) (e := 35) (mm := 3) (rows' := (fl2.map flD)) h)
                      have m205 := m198.callP 3 4 (by decide) rfl rfl hp204
                      clear m198
                      have m206 := m205.dat 202 rfl hd204
                      clear m205
                      obtain ⟨p204, c204, hv204⟩ := hp204.2.1.shape
                      subst hv204
                      clear hp204 hd204
                      refine ⟨_, rfl, fun a207 ha207 => ?_⟩; clear ha203 a203
                      refine hK _ _ ?_; clear hK K
                      refine st_y ha207 rfl (y_move ha207 rfl) ?_
                      clear ha207 a207; intro a208 ha208
                      refine st_y ha208 rfl (y_extract ha208 rfl rfl) ?_
                      clear ha208 a208; intro a209 ha209
                      refine st_y ha209 rfl (y_extract ha209 rfl rfl) ?_
                      clear ha209 a209; intro a210 ha210
                      refine wpList_plain rfl (fun K hK => ?_)
                      refine e_alloc ha210 m206 203 zc35p rfl ?_
                      clear ha210 a210 m206; intro g211 a212 w212 ha212 m212 hB212 hg212
                      clear hB212 hg212
                      refine hK _ _ ?_; clear hK K
                      refine wpList_plain rfl (fun K hK => ?_)
                      refine e_storeW ha212 m212 203 rfl rfl rfl rfl rfl sz35p ?_
                      clear m212; intro w213 m213 hB213
                      clear hB213
                      refine hK _ _ ?_; clear hK K
                      refine st_y ha212 rfl (y_assign ha212 rfl) ?_
                      clear ha212 a212; intro a214 ha214
                      refine wpList_nil ?_
                      refine hK32 _ _ ?_; clear hK32; try clear K32
                      refine wp_seq_k (fun K33 hK33 => ?_)
                      have ha215 : Has 110 [(0, _), (3, _), (4, _), (5, _), (6, _), (52, _), (64, _), (7, _), (8, _), (9, _), (10, _)] a214 := ha214.only [0, 3, 4, 5, 6, 52, 64, 7, 8, 9, 10]; clear ha214
                      refine wp_region_lit ?_
                      refine st_y ha215 rfl (y_move ha215 rfl) ?_
                      clear ha215 a214; intro a216 ha216
                      refine st_y ha216 rfl (y_move ha216 rfl) ?_
                      clear ha216 a216; intro a217 ha217
                      refine st_y ha217 rfl (y_neqB ha217 rfl rfl Try.underlying4) ?_
                      clear ha217 a217; intro a218 ha218
                      refine st_y ha218 rfl (y_move ha218 rfl) ?_
                      clear ha218 a218; intro a219 ha219
                      refine bool_cases ha219 (t := 84) rfl (fun hb220 ha220 => ?_) (fun hb220 ha220 => ?_)
                      · exact absurd hb220 (by simp)
                      clear ha219 hb220
                      refine st_g ha220 rfl rfl rfl rfl (y_loadBR ha220 m213 (i := 201) rfl rfl Try.underlying35 rfl sz35p (by simp) (by dsimp only [List.drop, List.take] <;> rfl)) ?_
                      clear ha220 a219; intro a221 ha221
                      refine st_ge ha221 rfl rfl rfl rfl (fun K hK => ?_)
                      refine e_litR ha221 m213 204 (mm := 3) rfl (.cons rfl rfl (.cons (.v _) (.cons (.v _) (.cons (m213.rd (i := 200) rfl) .nil))) <| .nil) Try.underlying27 inf35p rfl rfl rfl rfl rfl ?_
                      clear ha221 a221 m213; intro g222 a223 w223 ha223 m223 
                      refine hK _ _ ?_; clear hK K
                      refine st_g ha223 rfl rfl rfl rfl (y_loadBR ha223 m223 (i := 203) rfl rfl Try.underlying35 rfl sz35p (by simp) (by dsimp only [List.drop, List.take] <;> rfl)) ?_
                      clear ha223 a223; intro a224 ha224
                      refine st_ge ha224 rfl rfl rfl rfl (fun K hK => ?_)
                      refine e_litR ha224 m223 205 (mm := 3) rfl (.cons rfl rfl (.cons (.v _) (.cons (.v _) (.cons (m223.rd (i := 202) rfl) .nil))) <| .nil) Try.underlying27 inf35p rfl rfl rfl rfl rfl ?_
                      clear ha224 a224 m223; intro g225 a226 w226 ha226 m226 
                      refine hK _ _ ?_; clear hK K
                      have m227 := m226.freezeR 204 rfl; clear m226
                      have m228 := m227.freezeR 205 rfl; clear m227
                      refine st_ge ha226 rfl rfl rfl rfl (fun K hK => ?_)
                      refine e_call ha226 Try.func12 rfl rfl rfl rfl (rsame_map [(ff, ft, fd)] _ _ _ _ _ (by simp) (m228.rd (i := 204) rfl).any (m228.rd (i := 205) rfl).any) ?_
                      rintro e w229 ⟨rfl, hb229⟩
                      have m230 := m228.later hb229
                      clear m228
                      clear hb229
                      refine ⟨_, rfl, fun a231 ha231 => ?_⟩; clear ha226 a226
                      refine hK _ _ ?_; clear hK K
                      refine st_g ha231 rfl rfl rfl rfl (y_not ha231 rfl) ?_
                      clear ha231 a231; intro a232 ha232
                      refine st_y ha232 rfl (y_pickF ha232 rfl rfl) ?_
                      clear ha232 a232; intro a233 ha233
                      refine wpList_nil ?_
                      refine hK33 _ _ ?_; clear hK33; try clear K33
                      refine wp_cond_false (ha233.ev (x := .tmp 91) rfl) ?_
                      refine wp_skip ?_
                      exact hC17 _ _ ⟨fl2, _, _, _, _, _, by have := tkL_len (q := nn) (fl := fl); rw [hL] at this; omega, (fun f hf => hfo f (tkL_sub (q := nn) f (hL ▸ hf))), ha233.only [0, 3, 4, 5], m230.only [1, 2, 3, 4, 5]⟩
                    · skip
                      clear ha184
                      try simp only [decide_eq_true_eq, decide_eq_false_iff_not, Bool.not_eq_true, Bool.not_eq_false, Bool.not_eq_eq_eq_not, Bool.not_true, Bool.not_false, Bool.not_not, Int.not_lt, Int.not_le, ne_eq, Decidable.not_not] at hb185
                      refine wp_cond_false (ha185.ev (x := .tmp 64) rfl) ?_
                      refine wp_seq_k (fun K34 hK34 => ?_)
                      obtain ⟨fl2, hL⟩ : ∃ x, twL nn fl = x := ⟨_, rfl⟩
                      obtain ⟨tb, htb⟩ : ∃ x, tkB nn fl = x := ⟨_, rfl⟩
                      have m234 : MemOk _ _ [(1, _), (2, _), (3, _), (4, _), (5, _), (6, _), (7, _)] _ := m45.only [1, 2, 3, 4, 5, 6, 7]; clear m45
                      refine region_m 9 (B := [(6, _)]) (m234.to ⟨.inl rfl, trivial⟩) m234 (by kernel_rfl) (fun w235 mB235 m235 => ?_); clear m234 mB235
                      refine d_y 0 ha185 rfl rfl (fun _ => (m235.to ⟨.inl rfl, trivial⟩)) (by kernel_rfl) (by kernel_rfl) (by kernel_rfl) (by rfl) (fun _ _ _ h => h) (fun W => y_move ha185 rfl) ?_
                      clear ha185 a184; intro a236 ha236
                      refine d_y 1 ha236 rfl rfl (fun _ => (m235.to ⟨.inl rfl, trivial⟩)) (by kernel_rfl) (by kernel_rfl) (by kernel_rfl) (by rfl) (fun _ _ _ h => h) (fun W => y_fieldAddr ha236 (off := 1) rfl Try.underlying31 rfl (s := 0) (by kernel_rfl) rfl) ?_
                      clear ha236 a236; intro a237 ha237
                      refine d_h 2 ha237 rfl rfl (m235.to ⟨.inl rfl, trivial⟩) (by kernel_rfl) (by kernel_rfl) (by kernel_rfl) (by kernel_rfl) (by kernel_rfl) (fun _ _ _ h => h) (fun W hW => y_loadB1 ha237 hW (i := 6) rfl rfl rfl Try.underlying3 rfl) ?_
                      clear ha237 a237; intro a238 ha238
                      refine d_y 4 ha238 rfl rfl (fun _ => (m235.to ⟨.inl rfl, trivial⟩)) (by kernel_rfl) (by kernel_rfl) (by kernel_rfl) (by rfl) (fun _ _ _ h => h) (fun W => y_move ha238 rfl) ?_
                      clear ha238 a238; intro a239 ha239
                      refine d_y 5 ha239 rfl rfl (fun _ => (m235.to ⟨.inl rfl, trivial⟩)) (by kernel_rfl) (by kernel_rfl) (by kernel_rfl) (by rfl) (fun _ _ _ h => h) (fun W => y_fieldAddr ha239 (off := 1) rfl Try.underlying31 rfl (s := 0) (by kernel_rfl) rfl) ?_
                      clear ha239 a239; intro a240 ha240
                      refine d_h 6 ha240 rfl rfl (m235.to ⟨.inl rfl, trivial⟩) (by kernel_rfl) (by kernel_rfl) (by kernel_rfl) (by kernel_rfl) (by kernel_rfl) (fun _ _ _ h => h) (fun W hW => y_loadB1 ha240 hW (i := 6) rfl rfl rfl Try.underlying3 rfl) ?_
                      clear ha240 a240; intro a241 ha241
                      refine stepE_only 3 rfl (by kernel_rfl) rfl (fun K hK => ?_)
                      refine e_call ha241 Try.func13 rfl rfl rfl rfl (twice_is _ _ _ _ nn fl _ (m235.ok 1 _ rfl : Res.ok _ _ _ _ (.box _ _ _)).1 (m235.segP (i := 1) (j := 2) rfl rfl) (m235.neP (i := 1) (j := 2) (by decide) rfl rfl) (by omega) hfo hL htb) ?_
                      rintro e w242 ⟨v242, rfl, hp242⟩
                      have m243 := m235.callP 1 2 (by decide) rfl rfl hp242
                      clear m235
                      obtain ⟨p242, c242, hv242⟩ := hp242.2.1.shape
                      subst hv242
                      clear hp242
                      refine ⟨_, rfl, fun a244 ha244 => ?_⟩; clear ha241 a241
                      refine hK _ _ (m243.to ⟨.inl rfl, trivial⟩) ?_; clear hK K
                      refine stepE_only 7 rfl (by kernel_rfl) rfl (fun K hK => ?_)
                      refine e_call ha244 Try.func14 rfl rfl rfl rfl (rtwice_is _ _ _ _ nn fl _ (m243.ok 3 _ rfl : Res.ok _ _ _ _ (.box _ _ _)).1 (m243.segP (i := 3) (j := 4) rfl rfl) (m243.neP (i := 3) (j := 4) (by decide) rfl rfl) (by omega)  hL htb) ?_
                      rintro e w245 ⟨v245, rfl, hp245⟩
                      have m246 := m243.callP 3 4 (by decide) rfl rfl hp245
                      clear m243
                      obtain ⟨p245, c245, hv245⟩ := hp245.2.1.shape
                      subst hv245
                      clear hp245
                      refine ⟨_, rfl, fun a247 ha247 => ?_⟩; clear ha244 a244
                      refine hK _ _ (m246.to ⟨.inl rfl, trivial⟩) ?_; clear hK K
                      refine d_y 8 ha247 rfl rfl (fun _ => (m246.to ⟨.inl rfl, trivial⟩)) (by kernel_rfl) (by kernel_rfl) (by kernel_rfl) (by rfl) (fun _ _ _ h => h) (fun W => y_neqB ha247 rfl rfl Try.underlying4) ?_
                      clear ha247 a247; intro a248 ha248
                      refine wpAnyE_done (by kernel_rfl) ?_ _
                      refine hK34 _ _ ?_; clear hK34; try clear K34
                      refine bool_cases ha248 (t := 51) rfl (fun hb249 ha249 => ?_) (fun hb249 ha249 => ?_)
                      · exact absurd hb249 (by simp)
                      clear ha248 hb249
                      refine wp_cond_false (ha249.ev (x := .tmp 51) rfl) ?_
                      refine wp_skip ?_
                      exact hC17 _ _ ⟨fl2, _, _, _, _, _, by have := twL_len (q := nn) (fl := fl); rw [hL] at this; omega, (fun f hf => hfo f (twL_sub (q := nn) f (hL ▸ hf))), ha249.only [0, 3, 4, 5], m246.only [1, 2, 3, 4, 5]⟩
          refine wp_seq_k (fun K35 hK35 => ?_)
          refine wp_region_lit ?_
          refine st_y ha43 rfl (y_move ha43 rfl) ?_
          clear ha43 a42; intro a250 ha250
          refine st_y ha250 rfl (y_rem ha250 rfl rfl (by decide) rfl) ?_
          clear ha250 a250; intro a251 ha251
          refine st_y ha251 rfl (y_gtr ha251 rfl rfl) ?_
          clear ha251 a251; intro a252 ha252
          refine wpList_nil ?_
          refine hK35 _ _ ?_; clear hK35; try clear K35
          refine bool_cases ha252 (t := 35) rfl (fun hb253 ha253 => ?_) (fun hb253 ha253 => ?_)
          · skip
            clear ha252
            try simp only [decide_eq_true_eq, decide_eq_false_iff_not, Bool.not_eq_true, Bool.not_eq_false, Bool.not_eq_eq_eq_not, Bool.not_true, Bool.not_false, Bool.not_not, Int.not_lt, Int.not_le, ne_eq, Decidable.not_not] at hb253
            refine wp_cond_true (ha253.ev (x := .tmp 35) rfl) ?_
            have ha254 : Has 110 [(0, _), (3, _), (4, _), (5, _), (6, _)] a252 := ha253.only [0, 3, 4, 5, 6]; clear ha253
            refine wp_region_lit ?_
            refine st_y ha254 rfl (y_fieldAddr ha254 (off := 1) rfl Try.underlying31 rfl (s := 0) (by kernel_rfl) rfl) ?_
            clear ha254 a252; intro a255 ha255
            refine st_y ha255 rfl (y_loadB1 ha255 m37 (i := 102) rfl rfl rfl Try.underlying3 rfl) ?_
            clear ha255 a255; intro a256 ha256
            refine st_y ha256 rfl (y_and ha256 rfl rfl rfl) ?_
            clear ha256 a256; intro a257 ha257
            refine st_y ha257 rfl (y_fieldAddr ha257 (off := 1) rfl Try.underlying31 rfl (s := 0) (by kernel_rfl) rfl) ?_
            clear ha257 a257; intro a258 ha258
            refine wpList_plain rfl (fun K hK => ?_)
            refine e_store1 ha258 m37 102 rfl rfl rfl rfl rfl sz3p (by dsimp only [List.set] <;> rfl) ?_
            clear m37; intro w259 m259 hB259
            clear hB259
            refine hK _ _ ?_; clear hK K
            refine wpList_nil ?_
            exact hC16 _ _ ⟨_, _, _, _, _, ha258.only [0, 3, 4, 5, 6], m259.ren [(1, 1), (2, 2), (3, 3), (4, 4), (5, 5), (6, 102), (7, 101)] (by decide)⟩
          · skip
            clear ha252
            try simp only [decide_eq_true_eq, decide_eq_false_iff_not, Bool.not_eq_true, Bool.not_eq_false, Bool.not_eq_eq_eq_not, Bool.not_true, Bool.not_false, Bool.not_not, Int.not_lt, Int.not_le, ne_eq, Decidable.not_not] at hb253
            refine wp_cond_false (ha253.ev (x := .tmp 35) rfl) ?_
            refine wp_skip ?_
            exact hC16 _ _ ⟨_, _, _, _, _, ha253.only [0, 3, 4, 5, 6], m37.ren [(1, 1), (2, 2), (3, 3), (4, 4), (5, 5), (6, 102), (7, 101)] (by decide)⟩
      · skip
        clear ha27
        try simp only [decide_eq_true_eq, decide_eq_false_iff_not, Bool.not_eq_true, Bool.not_eq_false, Bool.not_eq_eq_eq_not, Bool.not_true, Bool.not_false, Bool.not_not, Int.not_lt, Int.not_le, ne_eq, Decidable.not_not] at hb28
        obtain rfl : i = acts.length := by omega
        refine wp_cond_false (ha28.ev (x := .tmp 22) rfl) ?_
        refine wp_exit ?_
        refine hK7 _ _ ?_; clear hK7; try clear K7
        refine wp_seq_k (fun K36 hK36 => ?_)
        refine wp_region_lit ?_
        refine st_y ha28 rfl (y_assign ha28 rfl) ?_
        clear ha28 a27; intro a260 ha260
        refine wpList_nil ?_
        refine hK36 _ _ ?_; clear hK36; try clear K36
        refine wp_ret ?_
        try dsimp only [Exit.then, Exit.inBlock]
        refine (ret1 (fn := Try.f3) ha260 rfl rfl ?_)
        exact ⟨rfl, m23.below⟩
end Go.Proofs.Ytnllgfmjcnjgdaa.K
