/- volume: the reference's shape, New, Same; Data, Items, Create of the seat. -/
import Derived.Test.YtocfbocdnklllaaVol9
import Derived.Test.YtocfbocdnklllaaAb19
namespace Go.Proofs.Ytocfbocdnklllaa.K
open Go.ChangeShapes Go.WideShapes Go.ChangeAt Go.RowKit
set_option linter.unusedVariables false
set_option linter.unusedSimpArgs false

theorem sz3si : (Try.prog.info? 3).map (·.size) = some 1 := by kernel_rfl
theorem sz2sp : (Try.prog.info? 2).map (·.size) = some 1 := by kernel_rfl
theorem sz67it2 : (Try.prog.info? 67).map (·.size) = some 2 := by kernel_rfl
theorem sz55wr2 : (Try.prog.info? 55).map (·.size) = some 2 := by kernel_rfl

theorem sz34sm2 : (Try.prog.info? 34).map (·.size) = some 11 := by kernel_rfl
theorem sz3rs : (Try.prog.info? 3).map (·.size) = some 1 := by kernel_rfl
theorem fl34rn : flatS Try.prog 34 [.int .i64 0, .int .i64 0, .int .i64 0, .int .i64 0, .slice none 0 0, .int .i64 0, .int .i64 0, .bool false, .int .i64 0, .slice none 0 0, .slice none 0 0] = true := by kernel_rfl
theorem inf3rn : (Try.prog.info? 3).map (fun i => (i.zero, i.size, i.bytes)) = some (some (.int .i64 0), 1, 8) := by kernel_rfl
theorem sz25rn : (Try.prog.info? 25).map (·.size) = some 10 := by kernel_rfl
theorem sz34rn : (Try.prog.info? 34).map (·.size) = some 11 := by kernel_rfl
theorem zc34rn : ((Try.prog.info? 34).bind (·.zero)).map (·.cells.toList) = some [.int .i64 0, .int .i64 0, .int .i64 0, .int .i64 0, .slice none 0 0, .int .i64 0, .int .i64 0, .bool false, .int .i64 0, .slice none 0 0, .slice none 0 0] := by kernel_rfl
theorem inf5da : (Try.prog.info? 5).map (fun i => (i.zero, i.size, i.bytes)) = some (some (.int .u8 0), 1, 1) := by kernel_rfl
theorem fl25cr : flatS Try.prog 25 [.int .i64 0, .int .i64 0, .int .i64 0, .int .i64 0, .int .i64 0, .slice none 0 0, .int .i64 0, .int .i64 0, .int .i64 0, .slice none 0 0] = true := by kernel_rfl
theorem inf3cr : (Try.prog.info? 3).map (fun i => (i.zero, i.size, i.bytes)) = some (some (.int .i64 0), 1, 8) := by kernel_rfl
theorem sz3cr : (Try.prog.info? 3).map (·.size) = some 1 := by kernel_rfl
theorem sz22cr : (Try.prog.info? 22).map (·.size) = some 1 := by kernel_rfl
theorem sz25cr : (Try.prog.info? 25).map (·.size) = some 10 := by kernel_rfl
theorem zc25cr : ((Try.prog.info? 25).bind (·.zero)).map (·.cells.toList) = some [.int .i64 0, .int .i64 0, .int .i64 0, .int .i64 0, .int .i64 0, .slice none 0 0, .int .i64 0, .int .i64 0, .int .i64 0, .slice none 0 0] := by kernel_rfl
theorem fl67is2 : flatS Try.prog 67 [.int .i64 0, .slice none 0 0] = true := by kernel_rfl
theorem inf67is2 : (Try.prog.info? 67).map (fun i => (i.zero, i.size, i.bytes)) = some (some (.agg #[.int .i64 0, .slice none 0 0]), 2, 32) := by kernel_rfl
theorem sz5is2 : (Try.prog.info? 5).map (·.size) = some 1 := by kernel_rfl
theorem sz67is2 : (Try.prog.info? 67).map (·.size) = some 2 := by kernel_rfl
theorem zc67is2 : ((Try.prog.info? 67).bind (·.zero)).map (·.cells.toList) = some [.int .i64 0, .slice none 0 0] := by kernel_rfl

def BytesL (d : List Int) : Prop := ∀ x ∈ d, 0 ≤ x ∧ x ≤ 255
theorem bytes_snoc {d : List Int} {z : Int} (h : BytesL d) (hz : 0 ≤ z ∧ z ≤ 255) : BytesL (d ++ [z]) := fun x hx => by
 rcases List.mem_append.1 hx with h1 | h1
 · exact h x h1
 · simp at h1; subst h1; exact hz
def crL (px : Int) (i : Nat) : List Int := (List.range i).map (fun j : Nat => 1 + ((j : Int) + px) % 2)
theorem crL_len (px : Int) (i : Nat) : (crL px i).length = i := by simp [crL]
theorem crL_snoc (px : Int) (i : Nat) : crL px (i + 1) = crL px i ++ [1 + ((i : Int) + px) % 2] := by simp [crL, List.range_succ]
theorem crL_ok (px : Int) (i : Nat) : ∀ g ∈ crL px i, 1 ≤ g ∧ g ≤ 7 := fun g hg => by
 obtain ⟨j, -, rfl⟩ := List.mem_map.1 hg
 omega
def ItsB (es : List (Int × List Int)) : Prop := ∀ e ∈ es, e.2.length ≤ 1000000 ∧ BytesL e.2
theorem ItsB.ok {es : List (Int × List Int)} (h : ItsB es) : ItsOk es := fun e he => Nat.le_trans (h e he).1 (by decide)
theorem itsB_snoc {es : List (Int × List Int)} {b : Int} {d : List Int} (h : ItsB es) (h1 : d.length ≤ 1000000) (h2 : BytesL d) : ItsB (es ++ [(b, d)]) := fun e he => by
 rcases List.mem_append.1 he with h3 | h3
 · exact h e h3
 · simp at h3; subst h3; exact ⟨h1, h2⟩
theorem itpre_app {bl sz : Int} {it : List (Int × List Int)} {b : Int} {d : List Int} (h : ItPre bl sz it it.length) (hb : 0 ≤ b ∧ b < bl) (hs : (d.length : Int) = sz) (hn : ¬ ∃ e ∈ it, e.1 = b) : ItPre bl sz (it ++ [(b, d)]) (it.length + 1) := fun j hj => by
 rcases Nat.lt_or_ge j it.length with h1 | h1
 · have h2 := h j h1
   rw [show (it ++ [(b, d)]).getD j i0 = it.getD j i0 by simp [List.getD, List.getElem?_append, h1], List.take_append_of_le_length (by omega)]
   exact h2
 · obtain rfl : j = it.length := by omega
   rw [show (it ++ [(b, d)]).getD it.length i0 = (b, d) by simp [List.getD], List.take_left]
   exact ⟨hb.1, hb.2, hs, hn⟩
theorem there_snoc {it : List (Int × List Int)} {j : Nat} {b yb : Int} {yd : List Int} {tb : Bool} (h : tb = true ↔ ∃ e ∈ it.take j, e.1 = b) (hit : it[j]? = some (yb, yd)) : (tb || decide (yb = b)) = true ↔ ∃ e ∈ it.take (j + 1), e.1 = b := by
 rw [take_snoc hit, Bool.or_eq_true, h, decide_eq_true_eq]
 constructor
 · rintro (⟨e, h1, h2⟩ | h1)
   · exact ⟨e, List.mem_append_left _ h1, h2⟩
   · exact ⟨_, List.mem_append_right _ (List.mem_singleton.2 rfl), h1⟩
 · rintro ⟨e, h1, h2⟩
   rcases List.mem_append.1 h1 with h3 | h3
   · exact .inl ⟨e, h3, h2⟩
   · simp at h3; subst h3; exact .inr h2
set_option maxRecDepth 100000
set_option maxHeartbeats 4000000
theorem ssi_any (xs : List Int) (p1 p2 : Option Addr) (c1 c2 : Nat) (w0 : World) (hx : xs.length ≤ 1000000) (h1 : Rd (fun _ => True) w0 (.slice p1 xs.length c1) (.ns .i64 xs)) (h2 : Rd (fun _ => True) w0 (.slice p2 xs.length c2) (.ns .i64 xs)) :
   Calls Try.prog 54 #[.slice p1 xs.length c1, .slice p2 xs.length c2] w0 fun e w' => e = .returned (.bool true) ∧ Below w0.heap.size w0 w' := by
 refine enter (fn := Try.f54) Try.func54 rfl Try.ntmps54 rfl (fun a0 ha0 => ?_)
 simp only [List.zipIdx_cons, List.zipIdx_nil, List.map_cons, List.map_nil, Nat.reduceAdd, Nat.zero_add] at ha0
 have m0 := MemOk.start (fun _ => False) w0
 refine wp_seq_k (fun K0 hK0 => ?_)
 refine wp_region_lit ?_
 refine st_y ha0 rfl (y_assign ha0 rfl) ?_
 clear ha0 a0; intro a1 ha1
 refine wpList_nil ?_
 refine hK0 _ _ ?_; clear hK0; try clear K0
 refine wp_seq_k (fun K1 hK1 => ?_)
 refine wp_seq_k (fun K2 hK2 => ?_)
 refine wp_region_lit ?_
 refine st_y ha1 rfl (y_move ha1 rfl) ?_
 clear ha1 a1; intro a2 ha2
 refine st_y ha2 rfl (y_len ha2 rfl Try.underlying22) ?_
 clear ha2 a2; intro a3 ha3
 refine st_y ha3 rfl (y_move ha3 rfl) ?_
 clear ha3 a3; intro a4 ha4
 refine st_y ha4 rfl (y_len ha4 rfl Try.underlying22) ?_
 clear ha4 a4; intro a5 ha5
 refine st_y ha5 rfl (y_neq ha5 rfl rfl) ?_
 clear ha5 a5; intro a6 ha6
 refine wpList_nil ?_
 refine hK2 _ _ ?_; clear hK2; try clear K2
 refine bool_cases ha6 (t := 10) rfl (fun hb7 ha7 => ?_) (fun hb7 ha7 => ?_)
 · exact absurd hb7 (by simp)
 clear ha6 hb7
 refine wp_cond_false (ha7.ev (x := .tmp 10) rfl) ?_
 refine wp_skip ?_
 refine hK1 _ _ ?_; clear hK1; try clear K1
 refine wp_seq_k (fun K3 hK3 => ?_)
 refine wp_seq_k (fun K4 hK4 => ?_)
 refine wp_region_lit ?_
 refine st_y ha7 rfl (y_assign ha7 rfl) ?_
 clear ha7 a6; intro a8 ha8
 refine wpList_nil ?_
 refine hK4 _ _ ?_; clear hK4; try clear K4
 refine wp_block ?_
 refine wp_loop_ghost (fun g a w => ∃ k : Nat, k ≤ xs.length ∧ g = xs.length - k ∧ Has 26 [(0, .slice p1 xs.length c1), (1, .slice p2 xs.length c2), (5, .int .i64 k)] a ∧ MemOk (cn w0) w0 [] w) (xs.length) ?_ ?_
 · exact ⟨0, Nat.zero_le _, rfl, ha8.only [0, 1, 5], m0.only []⟩
 ·
  clear ha8 m0
  rintro g a9 w9 ⟨k, hkl, hg, ha9, m9⟩
  refine wp_seq_k (fun K5 hK5 => ?_)
  refine wp_seq_k (fun K6 hK6 => ?_)
  refine wp_region_lit ?_
  refine st_y ha9 rfl (y_move ha9 rfl) ?_
  clear ha9 a9; intro a10 ha10
  refine st_y ha10 rfl (y_move ha10 rfl) ?_
  clear ha10 a10; intro a11 ha11
  refine st_y ha11 rfl (y_len ha11 rfl Try.underlying22) ?_
  clear ha11 a11; intro a12 ha12
  refine st_y ha12 rfl (y_lss ha12 rfl rfl) ?_
  clear ha12 a12; intro a13 ha13
  refine wpList_nil ?_
  refine hK6 _ _ ?_; clear hK6; try clear K6
  refine bool_cases ha13 (t := 14) rfl (fun hb14 ha14 => ?_) (fun hb14 ha14 => ?_)
  ·
   clear ha13
   try simp only [Q1x, Q2x, Q3x, Q4x, Q5x, Q6x, Q7x, Q8x, Q9x, Q0x, Qax, Qbx] at hb14
   have hk : k < xs.length := by omega
   refine wp_cond_true (ha14.ev (x := .tmp 14) rfl) ?_
   refine wp_skip ?_
   refine hK5 _ _ ?_; clear hK5; try clear K5
   refine wp_seq_k (fun K7 hK7 => ?_)
   refine wp_block ?_
   refine wp_seq_k (fun K8 hK8 => ?_)
   obtain ⟨gx16, ox16, hp16, hl16, hrg16⟩ := h1.extN (k) hk
   cases hp16; clear hl16
   obtain ⟨gx18, ox18, hp18, hl18, hrg18⟩ := h2.extN (k) hk
   cases hp18; clear hl18
   have m19 : MemOk _ _ [] _ := m9.only []; clear m9
   refine region_m 9 (B := []) (m19.to trivial) m19 (by kernel_rfl) (fun w20 mB20 m20 => ?_); clear m19 mB20
   refine dyn 0 ha14 rfl rfl (m20.to trivial) (fun W => y_move ha14 rfl) ?_
   clear ha14 a13; intro a21 ha21
   refine dyn 1 ha21 rfl rfl (m20.to trivial) (fun W => y_move ha21 rfl) ?_
   clear ha21 a21; intro a22 ha22
   refine dyn 2 ha22 rfl rfl (m20.to trivial) (fun W => y_idx ha22 rfl rfl Try.underlying22 sz3si (k) rfl hk) ?_
   clear ha22 a22; intro a23 ha23
   refine dh 3 ha23 rfl rfl (m20.to trivial) (fun W hW => y_loadAt1 ha23 (hrg16 hW rfl) (q := 0) rfl rfl rfl Try.underlying3 rfl) ?_
   clear ha23 a23; intro a24 ha24
   refine dyn 4 ha24 rfl rfl (m20.to trivial) (fun W => y_move ha24 rfl) ?_
   clear ha24 a24; intro a25 ha25
   refine dyn 5 ha25 rfl rfl (m20.to trivial) (fun W => y_move ha25 rfl) ?_
   clear ha25 a25; intro a26 ha26
   refine dyn 6 ha26 rfl rfl (m20.to trivial) (fun W => y_idx ha26 rfl rfl Try.underlying22 sz3si (k) rfl hk) ?_
   clear ha26 a26; intro a27 ha27
   refine dh 7 ha27 rfl rfl (m20.to trivial) (fun W hW => y_loadAt1 ha27 (hrg18 hW rfl) (q := 0) rfl rfl rfl Try.underlying3 rfl) ?_
   clear ha27 a27; intro a28 ha28
   refine dyn 8 ha28 rfl rfl (m20.to trivial) (fun W => y_neq ha28 rfl rfl) ?_
   clear ha28 a28; intro a29 ha29
   refine wpAnyE_done (by kernel_rfl) ?_ _
   refine hK8 _ _ ?_; clear hK8; try clear K8
   refine bool_cases ha29 (t := 25) rfl (fun hb30 ha30 => ?_) (fun hb30 ha30 => ?_)
   · exact absurd hb30 (by simp)
   clear ha29 hb30
   refine wp_cond_false (ha30.ev (x := .tmp 25) rfl) ?_
   refine wp_skip ?_
   refine hK7 _ _ ?_; clear hK7; try clear K7
   have ha31 : Has 26 [(0, _), (1, _), (5, _)] a29 := ha30.only [0, 1, 5]; clear ha30
   refine wp_region_lit ?_
   refine st_y ha31 rfl (y_move ha31 rfl) ?_
   clear ha31 a29; intro a32 ha32
   refine st_y ha32 rfl (y_add ha32 rfl rfl (r := ((k + 1 : Nat) : Int)) (by rw [IntWalk.i64_in _ (by omega)]; omega)) ?_
   clear ha32 a32; intro a33 ha33
   refine st_y ha33 rfl (y_assign ha33 rfl) ?_
   clear ha33 a33; intro a34 ha34
   refine wpList_nil ?_
   show ∃ n', n' < _ ∧ _
   exact ⟨xs.length - (k + 1), by omega, k + 1, by omega, rfl, ha34.only [0, 1, 5], m20.only []⟩
  ·
   clear ha13
   try simp only [Q1x, Q2x, Q3x, Q4x, Q5x, Q6x, Q7x, Q8x, Q9x, Q0x, Qax, Qbx] at hb14
   obtain rfl : k = xs.length := by omega
   refine wp_cond_false (ha14.ev (x := .tmp 14) rfl) ?_
   refine wp_exit ?_
   refine hK3 _ _ ?_; clear hK3; try clear K3
   refine wp_seq_k (fun K9 hK9 => ?_)
   refine wp_region_lit ?_
   refine st_y ha14 rfl (y_assign ha14 rfl) ?_
   clear ha14 a13; intro a35 ha35
   refine wpList_nil ?_
   refine hK9 _ _ ?_; clear hK9; try clear K9
   refine wp_ret ?_
   try dsimp only [Exit.then, Exit.inBlock]
   refine (ret1 (fn := Try.f54) ha35 rfl rfl ?_)
   exact ⟨by simp, m9.below⟩
theorem ssp_any (xs : List Int) (p1 p2 : Option Addr) (c1 c2 : Nat) (w0 : World) (hx : xs.length ≤ 1000000) (h1 : Rd (fun _ => True) w0 (.slice p1 xs.length c1) (.ns .i64 xs)) (h2 : Rd (fun _ => True) w0 (.slice p2 xs.length c2) (.ns .i64 xs)) :
   Calls Try.prog 40 #[.slice p1 xs.length c1, .slice p2 xs.length c2] w0 fun e w' => e = .returned (.bool true) ∧ Below w0.heap.size w0 w' := by
 refine enter (fn := Try.f40) Try.func40 rfl Try.ntmps40 rfl (fun a0 ha0 => ?_)
 simp only [List.zipIdx_cons, List.zipIdx_nil, List.map_cons, List.map_nil, Nat.reduceAdd, Nat.zero_add] at ha0
 have m0 := MemOk.start (fun _ => False) w0
 refine wp_seq_k (fun K0 hK0 => ?_)
 refine wp_region_lit ?_
 refine st_y ha0 rfl (y_assign ha0 rfl) ?_
 clear ha0 a0; intro a1 ha1
 refine wpList_nil ?_
 refine hK0 _ _ ?_; clear hK0; try clear K0
 refine wp_seq_k (fun K1 hK1 => ?_)
 refine wp_seq_k (fun K2 hK2 => ?_)
 refine wp_region_lit ?_
 refine st_y ha1 rfl (y_move ha1 rfl) ?_
 clear ha1 a1; intro a2 ha2
 refine st_y ha2 rfl (y_len ha2 rfl Try.underlying31) ?_
 clear ha2 a2; intro a3 ha3
 refine st_y ha3 rfl (y_move ha3 rfl) ?_
 clear ha3 a3; intro a4 ha4
 refine st_y ha4 rfl (y_len ha4 rfl Try.underlying31) ?_
 clear ha4 a4; intro a5 ha5
 refine st_y ha5 rfl (y_neq ha5 rfl rfl) ?_
 clear ha5 a5; intro a6 ha6
 refine wpList_nil ?_
 refine hK2 _ _ ?_; clear hK2; try clear K2
 refine bool_cases ha6 (t := 10) rfl (fun hb7 ha7 => ?_) (fun hb7 ha7 => ?_)
 · exact absurd hb7 (by simp)
 clear ha6 hb7
 refine wp_cond_false (ha7.ev (x := .tmp 10) rfl) ?_
 refine wp_skip ?_
 refine hK1 _ _ ?_; clear hK1; try clear K1
 refine wp_seq_k (fun K3 hK3 => ?_)
 refine wp_seq_k (fun K4 hK4 => ?_)
 refine wp_region_lit ?_
 refine st_y ha7 rfl (y_assign ha7 rfl) ?_
 clear ha7 a6; intro a8 ha8
 refine wpList_nil ?_
 refine hK4 _ _ ?_; clear hK4; try clear K4
 refine wp_block ?_
 refine wp_loop_ghost (fun g a w => ∃ k : Nat, k ≤ xs.length ∧ g = xs.length - k ∧ Has 26 [(0, .slice p1 xs.length c1), (1, .slice p2 xs.length c2), (5, .int .i64 k)] a ∧ MemOk (cn w0) w0 [] w) (xs.length) ?_ ?_
 · exact ⟨0, Nat.zero_le _, rfl, ha8.only [0, 1, 5], m0.only []⟩
 ·
  clear ha8 m0
  rintro g a9 w9 ⟨k, hkl, hg, ha9, m9⟩
  refine wp_seq_k (fun K5 hK5 => ?_)
  refine wp_seq_k (fun K6 hK6 => ?_)
  refine wp_region_lit ?_
  refine st_y ha9 rfl (y_move ha9 rfl) ?_
  clear ha9 a9; intro a10 ha10
  refine st_y ha10 rfl (y_move ha10 rfl) ?_
  clear ha10 a10; intro a11 ha11
  refine st_y ha11 rfl (y_len ha11 rfl Try.underlying31) ?_
  clear ha11 a11; intro a12 ha12
  refine st_y ha12 rfl (y_lss ha12 rfl rfl) ?_
  clear ha12 a12; intro a13 ha13
  refine wpList_nil ?_
  refine hK6 _ _ ?_; clear hK6; try clear K6
  refine bool_cases ha13 (t := 14) rfl (fun hb14 ha14 => ?_) (fun hb14 ha14 => ?_)
  ·
   clear ha13
   try simp only [Q1x, Q2x, Q3x, Q4x, Q5x, Q6x, Q7x, Q8x, Q9x, Q0x, Qax, Qbx] at hb14
   have hk : k < xs.length := by omega
   refine wp_cond_true (ha14.ev (x := .tmp 14) rfl) ?_
   refine wp_skip ?_
   refine hK5 _ _ ?_; clear hK5; try clear K5
   refine wp_seq_k (fun K7 hK7 => ?_)
   refine wp_block ?_
   refine wp_seq_k (fun K8 hK8 => ?_)
   obtain ⟨gx16, ox16, hp16, hl16, hrg16⟩ := h1.extN (k) hk
   cases hp16; clear hl16
   obtain ⟨gx18, ox18, hp18, hl18, hrg18⟩ := h2.extN (k) hk
   cases hp18; clear hl18
   have m19 : MemOk _ _ [] _ := m9.only []; clear m9
   refine region_m 9 (B := []) (m19.to trivial) m19 (by kernel_rfl) (fun w20 mB20 m20 => ?_); clear m19 mB20
   refine dyn 0 ha14 rfl rfl (m20.to trivial) (fun W => y_move ha14 rfl) ?_
   clear ha14 a13; intro a21 ha21
   refine dyn 1 ha21 rfl rfl (m20.to trivial) (fun W => y_move ha21 rfl) ?_
   clear ha21 a21; intro a22 ha22
   refine dyn 2 ha22 rfl rfl (m20.to trivial) (fun W => y_idx ha22 rfl rfl Try.underlying31 sz2sp (k) rfl hk) ?_
   clear ha22 a22; intro a23 ha23
   refine dh 3 ha23 rfl rfl (m20.to trivial) (fun W hW => y_loadAt1 ha23 (hrg16 hW rfl) (q := 0) rfl rfl rfl Try.underlying2 rfl) ?_
   clear ha23 a23; intro a24 ha24
   refine dyn 4 ha24 rfl rfl (m20.to trivial) (fun W => y_move ha24 rfl) ?_
   clear ha24 a24; intro a25 ha25
   refine dyn 5 ha25 rfl rfl (m20.to trivial) (fun W => y_move ha25 rfl) ?_
   clear ha25 a25; intro a26 ha26
   refine dyn 6 ha26 rfl rfl (m20.to trivial) (fun W => y_idx ha26 rfl rfl Try.underlying31 sz2sp (k) rfl hk) ?_
   clear ha26 a26; intro a27 ha27
   refine dh 7 ha27 rfl rfl (m20.to trivial) (fun W hW => y_loadAt1 ha27 (hrg18 hW rfl) (q := 0) rfl rfl rfl Try.underlying2 rfl) ?_
   clear ha27 a27; intro a28 ha28
   refine dyn 8 ha28 rfl rfl (m20.to trivial) (fun W => y_neq ha28 rfl rfl) ?_
   clear ha28 a28; intro a29 ha29
   refine wpAnyE_done (by kernel_rfl) ?_ _
   refine hK8 _ _ ?_; clear hK8; try clear K8
   refine bool_cases ha29 (t := 25) rfl (fun hb30 ha30 => ?_) (fun hb30 ha30 => ?_)
   · exact absurd hb30 (by simp)
   clear ha29 hb30
   refine wp_cond_false (ha30.ev (x := .tmp 25) rfl) ?_
   refine wp_skip ?_
   refine hK7 _ _ ?_; clear hK7; try clear K7
   have ha31 : Has 26 [(0, _), (1, _), (5, _)] a29 := ha30.only [0, 1, 5]; clear ha30
   refine wp_region_lit ?_
   refine st_y ha31 rfl (y_move ha31 rfl) ?_
   clear ha31 a29; intro a32 ha32
   refine st_y ha32 rfl (y_add ha32 rfl rfl (r := ((k + 1 : Nat) : Int)) (by rw [IntWalk.i64_in _ (by omega)]; omega)) ?_
   clear ha32 a32; intro a33 ha33
   refine st_y ha33 rfl (y_assign ha33 rfl) ?_
   clear ha33 a33; intro a34 ha34
   refine wpList_nil ?_
   show ∃ n', n' < _ ∧ _
   exact ⟨xs.length - (k + 1), by omega, k + 1, by omega, rfl, ha34.only [0, 1, 5], m20.only []⟩
  ·
   clear ha13
   try simp only [Q1x, Q2x, Q3x, Q4x, Q5x, Q6x, Q7x, Q8x, Q9x, Q0x, Qax, Qbx] at hb14
   obtain rfl : k = xs.length := by omega
   refine wp_cond_false (ha14.ev (x := .tmp 14) rfl) ?_
   refine wp_exit ?_
   refine hK3 _ _ ?_; clear hK3; try clear K3
   refine wp_seq_k (fun K9 hK9 => ?_)
   refine wp_region_lit ?_
   refine st_y ha14 rfl (y_assign ha14 rfl) ?_
   clear ha14 a13; intro a35 ha35
   refine wpList_nil ?_
   refine hK9 _ _ ?_; clear hK9; try clear K9
   refine wp_ret ?_
   try dsimp only [Exit.then, Exit.inBlock]
   refine (ret1 (fn := Try.f40) ha35 rfl rfl ?_)
   exact ⟨by simp, m9.below⟩
theorem sitems_any (es : List (Int × List Int)) (p1 p2 : Option Addr) (n1 n2 c1 c2 : Nat) (w0 : World) (h1 : Rd (fun _ => True) w0 (.slice p1 n1 c1) (.l 2 (es.map itD))) (h2 : Rd (fun _ => True) w0 (.slice p2 n2 c2) (.l 2 (es.map itD))) (hl : es.length ≤ 1000000) :
   Calls Try.prog 55 #[.slice p1 n1 c1, .slice p2 n2 c2] w0 fun e w' => e = .returned (.bool true) ∧ Below w0.heap.size w0 w' := by
 obtain rfl : n1 = es.length := by obtain ⟨pq, cq, hv, _⟩ := h1.l_shape; injection hv with _ e2 _; rw [List.length_map] at e2; exact e2
 obtain rfl : n2 = es.length := by obtain ⟨pq, cq, hv, _⟩ := h2.l_shape; injection hv with _ e2 _; rw [List.length_map] at e2; exact e2
 refine enter (fn := Try.f55) Try.func55 rfl Try.ntmps55 rfl (fun a0 ha0 => ?_)
 simp only [List.zipIdx_cons, List.zipIdx_nil, List.map_cons, List.map_nil, Nat.reduceAdd, Nat.zero_add] at ha0
 have m0 := MemOk.start (fun _ => False) w0
 refine wp_seq_k (fun K0 hK0 => ?_)
 refine wp_region_lit ?_
 refine st_y ha0 rfl (y_assign ha0 rfl) ?_
 clear ha0 a0; intro a1 ha1
 refine wpList_nil ?_
 refine hK0 _ _ ?_; clear hK0; try clear K0
 refine wp_seq_k (fun K1 hK1 => ?_)
 refine wp_seq_k (fun K2 hK2 => ?_)
 refine wp_region_lit ?_
 refine st_y ha1 rfl (y_move ha1 rfl) ?_
 clear ha1 a1; intro a2 ha2
 refine st_y ha2 rfl (y_len ha2 rfl Try.underlying23) ?_
 clear ha2 a2; intro a3 ha3
 refine st_y ha3 rfl (y_move ha3 rfl) ?_
 clear ha3 a3; intro a4 ha4
 refine st_y ha4 rfl (y_len ha4 rfl Try.underlying23) ?_
 clear ha4 a4; intro a5 ha5
 refine st_y ha5 rfl (y_neq ha5 rfl rfl) ?_
 clear ha5 a5; intro a6 ha6
 refine wpList_nil ?_
 refine hK2 _ _ ?_; clear hK2; try clear K2
 refine bool_cases ha6 (t := 10) rfl (fun hb7 ha7 => ?_) (fun hb7 ha7 => ?_)
 · exact absurd hb7 (by simp)
 clear ha6 hb7
 refine wp_cond_false (ha7.ev (x := .tmp 10) rfl) ?_
 refine wp_skip ?_
 refine hK1 _ _ ?_; clear hK1; try clear K1
 refine wp_seq_k (fun K3 hK3 => ?_)
 refine wp_seq_k (fun K4 hK4 => ?_)
 refine wp_region_lit ?_
 refine st_y ha7 rfl (y_assign ha7 rfl) ?_
 clear ha7 a6; intro a8 ha8
 refine wpList_nil ?_
 refine hK4 _ _ ?_; clear hK4; try clear K4
 refine wp_block ?_
 refine wp_loop_ghost (fun g a w => ∃ k : Nat, k ≤ es.length ∧ g = es.length - k ∧ Has 43 [(0, .slice p1 es.length c1), (1, .slice p2 es.length c2), (5, .int .i64 k)] a ∧ MemOk (cn w0) w0 [] w) (es.length) ?_ ?_
 · exact ⟨0, Nat.zero_le _, rfl, ha8.only [0, 1, 5], m0.only []⟩
 ·
  clear ha8 m0
  rintro g a9 w9 ⟨k, hkl, hg, ha9, m9⟩
  refine wp_seq_k (fun K5 hK5 => ?_)
  refine wp_seq_k (fun K6 hK6 => ?_)
  refine wp_region_lit ?_
  refine st_y ha9 rfl (y_move ha9 rfl) ?_
  clear ha9 a9; intro a10 ha10
  refine st_y ha10 rfl (y_move ha10 rfl) ?_
  clear ha10 a10; intro a11 ha11
  refine st_y ha11 rfl (y_len ha11 rfl Try.underlying23) ?_
  clear ha11 a11; intro a12 ha12
  refine st_y ha12 rfl (y_lss ha12 rfl rfl) ?_
  clear ha12 a12; intro a13 ha13
  refine wpList_nil ?_
  refine hK6 _ _ ?_; clear hK6; try clear K6
  refine bool_cases ha13 (t := 14) rfl (fun hb14 ha14 => ?_) (fun hb14 ha14 => ?_)
  ·
   clear ha13
   try simp only [Q1x, Q2x, Q3x, Q4x, Q5x, Q6x, Q7x, Q8x, Q9x, Q0x, Qax, Qbx] at hb14
   have hk : k < es.length := by omega
   obtain ⟨⟨xb, xd⟩, hes⟩ : ∃ e, es[k]? = some e := ⟨_, List.getElem?_eq_getElem hk⟩
   refine wp_cond_true (ha14.ev (x := .tmp 14) rfl) ?_
   refine wp_skip ?_
   refine hK5 _ _ ?_; clear hK5; try clear K5
   refine wp_seq_k (fun K7 hK7 => ?_)
   refine wp_block ?_
   refine wp_seq_k (fun K8 hK8 => ?_)
   obtain ⟨gx16, ox16, vx16, hp16, hl16, hR16, hrg16⟩ := h1.extA (k) (r := [.v (.int .i64 xb), .ns .u8 xd]) (itD_get hes)
   cases hp16; clear hl16
   rcases hR16 with _ | ⟨hd16_0, _ | ⟨hd16_1, _ | _⟩⟩
   obtain rfl := hd16_0.v_out
   clear hd16_0
   obtain ⟨p17, c17, hv17, hw17⟩ := hd16_1.ns_shape; subst hv17
   obtain ⟨gx19, ox19, vx19, hp19, hl19, hR19, hrg19⟩ := h2.extA (k) (r := [.v (.int .i64 xb), .ns .u8 xd]) (itD_get hes)
   cases hp19; clear hl19
   rcases hR19 with _ | ⟨hd19_0, _ | ⟨hd19_1, _ | _⟩⟩
   obtain rfl := hd19_0.v_out
   clear hd19_0
   obtain ⟨p20, c20, hv20, hw20⟩ := hd19_1.ns_shape; subst hv20
   obtain ⟨gx22, ox22, vx22, hp22, hl22, hR22, hrg22⟩ := h1.extA (k) (r := [.v (.int .i64 xb), .ns .u8 xd]) (itD_get hes)
   cases hp22; clear hl22
   rcases hR22 with _ | ⟨hd22_0, _ | ⟨hd22_1, _ | _⟩⟩
   obtain rfl := hd22_0.v_out
   clear hd22_0
   obtain ⟨p23, c23, hv23, hw23⟩ := hd22_1.ns_shape; subst hv23
   obtain ⟨gx25, ox25, vx25, hp25, hl25, hR25, hrg25⟩ := h2.extA (k) (r := [.v (.int .i64 xb), .ns .u8 xd]) (itD_get hes)
   cases hp25; clear hl25
   rcases hR25 with _ | ⟨hd25_0, _ | ⟨hd25_1, _ | _⟩⟩
   obtain rfl := hd25_0.v_out
   clear hd25_0
   obtain ⟨p26, c26, hv26, hw26⟩ := hd25_1.ns_shape; subst hv26
   have m27 : MemOk _ _ [] _ := m9.only []; clear m9
   refine region_m 26 (B := []) (m27.to trivial) m27 (by kernel_rfl) (fun w28 mB28 m28 => ?_); clear m27 mB28
   refine dyn 0 ha14 rfl rfl (m28.to trivial) (fun W => y_move ha14 rfl) ?_
   clear ha14 a13; intro a29 ha29
   refine dyn 1 ha29 rfl rfl (m28.to trivial) (fun W => y_move ha29 rfl) ?_
   clear ha29 a29; intro a30 ha30
   refine dyn 2 ha30 rfl rfl (m28.to trivial) (fun W => y_idx ha30 rfl rfl Try.underlying23 sz67it2 (k) rfl hk) ?_
   clear ha30 a30; intro a31 ha31
   refine dyn 3 ha31 rfl rfl (m28.to trivial) (fun W => y_fieldAddrQ ha31 0 rfl Try.underlying67 rfl (s := 0) (by kernel_rfl) rfl) ?_
   clear ha31 a31; intro a32 ha32
   refine dh 4 ha32 rfl rfl (m28.to trivial) (fun W hW => y_loadAt1 ha32 (hrg16 hW rfl) (q := 0) rfl rfl rfl Try.underlying3 rfl) ?_
   clear ha32 a32; intro a33 ha33
   refine dyn 5 ha33 rfl rfl (m28.to trivial) (fun W => y_move ha33 rfl) ?_
   clear ha33 a33; intro a34 ha34
   refine dyn 6 ha34 rfl rfl (m28.to trivial) (fun W => y_move ha34 rfl) ?_
   clear ha34 a34; intro a35 ha35
   refine dyn 7 ha35 rfl rfl (m28.to trivial) (fun W => y_idx ha35 rfl rfl Try.underlying23 sz67it2 (k) rfl hk) ?_
   clear ha35 a35; intro a36 ha36
   refine dyn 8 ha36 rfl rfl (m28.to trivial) (fun W => y_fieldAddrQ ha36 0 rfl Try.underlying67 rfl (s := 0) (by kernel_rfl) rfl) ?_
   clear ha36 a36; intro a37 ha37
   refine dh 9 ha37 rfl rfl (m28.to trivial) (fun W hW => y_loadAt1 ha37 (hrg19 hW rfl) (q := 0) rfl rfl rfl Try.underlying3 rfl) ?_
   clear ha37 a37; intro a38 ha38
   refine dyn 10 ha38 rfl rfl (m28.to trivial) (fun W => y_neq ha38 rfl rfl) ?_
   clear ha38 a38; intro a39 ha39
   refine dyn 11 ha39 rfl rfl (m28.to trivial) (fun W => y_move ha39 rfl) ?_
   clear ha39 a39; intro a40 ha40
   refine bool_cases ha40 (t := 28) rfl (fun hb41 ha41 => ?_) (fun hb41 ha41 => ?_)
   · exact absurd hb41 (by simp)
   clear ha40 hb41
   refine dygn 12 ha41 rfl rfl rfl rfl rfl (m28.to trivial) (fun W => y_move ha41 rfl) ?_
   clear ha41 a40; intro a42 ha42
   refine dygn 13 ha42 rfl rfl rfl rfl rfl (m28.to trivial) (fun W => y_move ha42 rfl) ?_
   clear ha42 a42; intro a43 ha43
   refine dygn 14 ha43 rfl rfl rfl rfl rfl (m28.to trivial) (fun W => y_idx ha43 rfl rfl Try.underlying23 sz67it2 (k) rfl hk) ?_
   clear ha43 a43; intro a44 ha44
   refine dygn 15 ha44 rfl rfl rfl rfl rfl (m28.to trivial) (fun W => y_fieldAddrQ ha44 1 rfl Try.underlying67 rfl (s := 0) (by kernel_rfl) rfl) ?_
   clear ha44 a44; intro a45 ha45
   refine dhg 16 ha45 rfl rfl rfl rfl rfl (m28.to trivial) (fun W hW => y_loadAt1 ha45 (hrg22 hW rfl) (q := 1) rfl rfl rfl Try.underlying43 rfl) ?_
   clear ha45 a45; intro a46 ha46
   refine dhg 17 ha46 rfl rfl rfl rfl rfl (m28.to trivial) (fun W hW => y_str ha46 rfl (hd22_1.now' hW rfl).ns_out.nums Try.underlying43 Try.underlying5 Try.underlying9) ?_
   clear ha46 a46; intro a47 ha47
   refine dygn 18 ha47 rfl rfl rfl rfl rfl (m28.to trivial) (fun W => y_move ha47 rfl) ?_
   clear ha47 a47; intro a48 ha48
   refine dygn 19 ha48 rfl rfl rfl rfl rfl (m28.to trivial) (fun W => y_move ha48 rfl) ?_
   clear ha48 a48; intro a49 ha49
   refine dygn 20 ha49 rfl rfl rfl rfl rfl (m28.to trivial) (fun W => y_idx ha49 rfl rfl Try.underlying23 sz67it2 (k) rfl hk) ?_
   clear ha49 a49; intro a50 ha50
   refine dygn 21 ha50 rfl rfl rfl rfl rfl (m28.to trivial) (fun W => y_fieldAddrQ ha50 1 rfl Try.underlying67 rfl (s := 0) (by kernel_rfl) rfl) ?_
   clear ha50 a50; intro a51 ha51
   refine dhg 22 ha51 rfl rfl rfl rfl rfl (m28.to trivial) (fun W hW => y_loadAt1 ha51 (hrg25 hW rfl) (q := 1) rfl rfl rfl Try.underlying43 rfl) ?_
   clear ha51 a51; intro a52 ha52
   refine dhg 23 ha52 rfl rfl rfl rfl rfl (m28.to trivial) (fun W hW => y_str ha52 rfl (hd25_1.now' hW rfl).ns_out.nums Try.underlying43 Try.underlying5 Try.underlying9) ?_
   clear ha52 a52; intro a53 ha53
   refine dygn 24 ha53 rfl rfl rfl rfl rfl (m28.to trivial) (fun W => y_neqS ha53 rfl rfl) ?_
   clear ha53 a53; intro a54 ha54
   refine dyn 25 ha54 rfl rfl (m28.to trivial) (fun W => y_pickF ha54 rfl rfl) ?_
   clear ha54 a54; intro a55 ha55
   refine wpAnyE_done (by kernel_rfl) ?_ _
   refine hK8 _ _ ?_; clear hK8; try clear K8
   refine bool_cases ha55 (t := 42) rfl (fun hb56 ha56 => ?_) (fun hb56 ha56 => ?_)
   · exact absurd hb56 (by simp)
   clear ha55 hb56
   refine wp_cond_false (ha56.ev (x := .tmp 42) rfl) ?_
   refine wp_skip ?_
   refine hK7 _ _ ?_; clear hK7; try clear K7
   have ha57 : Has 43 [(0, _), (1, _), (5, _)] a55 := ha56.only [0, 1, 5]; clear ha56
   refine wp_region_lit ?_
   refine st_y ha57 rfl (y_move ha57 rfl) ?_
   clear ha57 a55; intro a58 ha58
   refine st_y ha58 rfl (y_add ha58 rfl rfl (r := ((k + 1 : Nat) : Int)) (by rw [IntWalk.i64_in _ (by omega)]; omega)) ?_
   clear ha58 a58; intro a59 ha59
   refine st_y ha59 rfl (y_assign ha59 rfl) ?_
   clear ha59 a59; intro a60 ha60
   refine wpList_nil ?_
   show ∃ n', n' < _ ∧ _
   exact ⟨es.length - (k + 1), by omega, k + 1, by omega, rfl, ha60.only [0, 1, 5], m28.only []⟩
  ·
   clear ha13
   try simp only [Q1x, Q2x, Q3x, Q4x, Q5x, Q6x, Q7x, Q8x, Q9x, Q0x, Qax, Qbx] at hb14
   obtain rfl : k = es.length := by omega
   refine wp_cond_false (ha14.ev (x := .tmp 14) rfl) ?_
   refine wp_exit ?_
   refine hK3 _ _ ?_; clear hK3; try clear K3
   refine wp_seq_k (fun K9 hK9 => ?_)
   refine wp_region_lit ?_
   refine st_y ha14 rfl (y_assign ha14 rfl) ?_
   clear ha14 a13; intro a61 ha61
   refine wpList_nil ?_
   refine hK9 _ _ ?_; clear hK9; try clear K9
   refine wp_ret ?_
   try dsimp only [Exit.then, Exit.inBlock]
   refine (ret1 (fn := Try.f55) ha61 rfl rfl ?_)
   exact ⟨by simp, m9.below⟩
theorem swrites_any (es : List (Int × List (Int × List Int))) (p1 p2 : Option Addr) (n1 n2 c1 c2 : Nat) (w0 : World) (h1 : Rd (fun _ => True) w0 (.slice p1 n1 c1) (.l 2 (es.map wrD))) (h2 : Rd (fun _ => True) w0 (.slice p2 n2 c2) (.l 2 (es.map wrD))) (hl : es.length ≤ 1000000) (hl2 : ∀ e ∈ es, e.2.length ≤ 1000000) :
   Calls Try.prog 41 #[.slice p1 n1 c1, .slice p2 n2 c2] w0 fun e w' => e = .returned (.bool true) ∧ Below w0.heap.size w0 w' := by
 obtain rfl : n1 = es.length := by obtain ⟨pq, cq, hv, _⟩ := h1.l_shape; injection hv with _ e2 _; rw [List.length_map] at e2; exact e2
 obtain rfl : n2 = es.length := by obtain ⟨pq, cq, hv, _⟩ := h2.l_shape; injection hv with _ e2 _; rw [List.length_map] at e2; exact e2
 refine enter (fn := Try.f41) Try.func41 rfl Try.ntmps41 rfl (fun a0 ha0 => ?_)
 simp only [List.zipIdx_cons, List.zipIdx_nil, List.map_cons, List.map_nil, Nat.reduceAdd, Nat.zero_add] at ha0
 have m0 := MemOk.start (fun _ => False) w0
 refine wp_seq_k (fun K0 hK0 => ?_)
 refine wp_region_lit ?_
 refine st_y ha0 rfl (y_assign ha0 rfl) ?_
 clear ha0 a0; intro a1 ha1
 refine wpList_nil ?_
 refine hK0 _ _ ?_; clear hK0; try clear K0
 refine wp_seq_k (fun K1 hK1 => ?_)
 refine wp_seq_k (fun K2 hK2 => ?_)
 refine wp_region_lit ?_
 refine st_y ha1 rfl (y_move ha1 rfl) ?_
 clear ha1 a1; intro a2 ha2
 refine st_y ha2 rfl (y_len ha2 rfl Try.underlying32) ?_
 clear ha2 a2; intro a3 ha3
 refine st_y ha3 rfl (y_move ha3 rfl) ?_
 clear ha3 a3; intro a4 ha4
 refine st_y ha4 rfl (y_len ha4 rfl Try.underlying32) ?_
 clear ha4 a4; intro a5 ha5
 refine st_y ha5 rfl (y_neq ha5 rfl rfl) ?_
 clear ha5 a5; intro a6 ha6
 refine wpList_nil ?_
 refine hK2 _ _ ?_; clear hK2; try clear K2
 refine bool_cases ha6 (t := 10) rfl (fun hb7 ha7 => ?_) (fun hb7 ha7 => ?_)
 · exact absurd hb7 (by simp)
 clear ha6 hb7
 refine wp_cond_false (ha7.ev (x := .tmp 10) rfl) ?_
 refine wp_skip ?_
 refine hK1 _ _ ?_; clear hK1; try clear K1
 refine wp_seq_k (fun K3 hK3 => ?_)
 refine wp_seq_k (fun K4 hK4 => ?_)
 refine wp_region_lit ?_
 refine st_y ha7 rfl (y_assign ha7 rfl) ?_
 clear ha7 a6; intro a8 ha8
 refine wpList_nil ?_
 refine hK4 _ _ ?_; clear hK4; try clear K4
 refine wp_block ?_
 refine wp_loop_ghost (fun g a w => ∃ k : Nat, k ≤ es.length ∧ g = es.length - k ∧ Has 42 [(0, .slice p1 es.length c1), (1, .slice p2 es.length c2), (5, .int .i64 k)] a ∧ MemOk (cn w0) w0 [] w) (es.length) ?_ ?_
 · exact ⟨0, Nat.zero_le _, rfl, ha8.only [0, 1, 5], m0.only []⟩
 ·
  clear ha8 m0
  rintro g a9 w9 ⟨k, hkl, hg, ha9, m9⟩
  refine wp_seq_k (fun K5 hK5 => ?_)
  refine wp_seq_k (fun K6 hK6 => ?_)
  refine wp_region_lit ?_
  refine st_y ha9 rfl (y_move ha9 rfl) ?_
  clear ha9 a9; intro a10 ha10
  refine st_y ha10 rfl (y_move ha10 rfl) ?_
  clear ha10 a10; intro a11 ha11
  refine st_y ha11 rfl (y_len ha11 rfl Try.underlying32) ?_
  clear ha11 a11; intro a12 ha12
  refine st_y ha12 rfl (y_lss ha12 rfl rfl) ?_
  clear ha12 a12; intro a13 ha13
  refine wpList_nil ?_
  refine hK6 _ _ ?_; clear hK6; try clear K6
  refine bool_cases ha13 (t := 14) rfl (fun hb14 ha14 => ?_) (fun hb14 ha14 => ?_)
  ·
   clear ha13
   try simp only [Q1x, Q2x, Q3x, Q4x, Q5x, Q6x, Q7x, Q8x, Q9x, Q0x, Qax, Qbx] at hb14
   have hk : k < es.length := by omega
   obtain ⟨⟨xs, xl⟩, hes⟩ : ∃ e, es[k]? = some e := ⟨_, List.getElem?_eq_getElem hk⟩
   refine wp_cond_true (ha14.ev (x := .tmp 14) rfl) ?_
   refine wp_skip ?_
   refine hK5 _ _ ?_; clear hK5; try clear K5
   refine wp_seq_k (fun K7 hK7 => ?_)
   refine wp_block ?_
   refine wp_seq_k (fun K8 hK8 => ?_)
   obtain ⟨gx16, ox16, vx16, hp16, hl16, hR16, hrg16⟩ := h1.extA (k) (r := [.v (.int .i64 xs), .l 2 (xl.map itD)]) (wrD_get hes)
   cases hp16; clear hl16
   rcases hR16 with _ | ⟨hd16_0, _ | ⟨hd16_1, _ | _⟩⟩
   obtain rfl := hd16_0.v_out
   clear hd16_0
   obtain ⟨p17, c17, hv17, hw17⟩ := hd16_1.l_shape; subst hv17
   obtain ⟨gx19, ox19, vx19, hp19, hl19, hR19, hrg19⟩ := h2.extA (k) (r := [.v (.int .i64 xs), .l 2 (xl.map itD)]) (wrD_get hes)
   cases hp19; clear hl19
   rcases hR19 with _ | ⟨hd19_0, _ | ⟨hd19_1, _ | _⟩⟩
   obtain rfl := hd19_0.v_out
   clear hd19_0
   obtain ⟨p20, c20, hv20, hw20⟩ := hd19_1.l_shape; subst hv20
   obtain ⟨gx22, ox22, vx22, hp22, hl22, hR22, hrg22⟩ := h1.extA (k) (r := [.v (.int .i64 xs), .l 2 (xl.map itD)]) (wrD_get hes)
   cases hp22; clear hl22
   rcases hR22 with _ | ⟨hd22_0, _ | ⟨hd22_1, _ | _⟩⟩
   obtain rfl := hd22_0.v_out
   clear hd22_0
   obtain ⟨p23, c23, hv23, hw23⟩ := hd22_1.l_shape; subst hv23
   obtain ⟨gx25, ox25, vx25, hp25, hl25, hR25, hrg25⟩ := h2.extA (k) (r := [.v (.int .i64 xs), .l 2 (xl.map itD)]) (wrD_get hes)
   cases hp25; clear hl25
   rcases hR25 with _ | ⟨hd25_0, _ | ⟨hd25_1, _ | _⟩⟩
   obtain rfl := hd25_0.v_out
   clear hd25_0
   obtain ⟨p26, c26, hv26, hw26⟩ := hd25_1.l_shape; subst hv26
   have m27 : MemOk _ _ [] _ := m9.only []; clear m9
   refine region_m 25 (B := []) (m27.to trivial) m27 (by kernel_rfl) (fun w28 mB28 m28 => ?_); clear m27 mB28
   refine dyn 0 ha14 rfl rfl (m28.to trivial) (fun W => y_move ha14 rfl) ?_
   clear ha14 a13; intro a29 ha29
   refine dyn 1 ha29 rfl rfl (m28.to trivial) (fun W => y_move ha29 rfl) ?_
   clear ha29 a29; intro a30 ha30
   refine dyn 2 ha30 rfl rfl (m28.to trivial) (fun W => y_idx ha30 rfl rfl Try.underlying32 sz55wr2 (k) rfl hk) ?_
   clear ha30 a30; intro a31 ha31
   refine dyn 3 ha31 rfl rfl (m28.to trivial) (fun W => y_fieldAddrQ ha31 0 rfl Try.underlying55 rfl (s := 0) (by kernel_rfl) rfl) ?_
   clear ha31 a31; intro a32 ha32
   refine dh 4 ha32 rfl rfl (m28.to trivial) (fun W hW => y_loadAt1 ha32 (hrg16 hW rfl) (q := 0) rfl rfl rfl Try.underlying2 rfl) ?_
   clear ha32 a32; intro a33 ha33
   refine dyn 5 ha33 rfl rfl (m28.to trivial) (fun W => y_move ha33 rfl) ?_
   clear ha33 a33; intro a34 ha34
   refine dyn 6 ha34 rfl rfl (m28.to trivial) (fun W => y_move ha34 rfl) ?_
   clear ha34 a34; intro a35 ha35
   refine dyn 7 ha35 rfl rfl (m28.to trivial) (fun W => y_idx ha35 rfl rfl Try.underlying32 sz55wr2 (k) rfl hk) ?_
   clear ha35 a35; intro a36 ha36
   refine dyn 8 ha36 rfl rfl (m28.to trivial) (fun W => y_fieldAddrQ ha36 0 rfl Try.underlying55 rfl (s := 0) (by kernel_rfl) rfl) ?_
   clear ha36 a36; intro a37 ha37
   refine dh 9 ha37 rfl rfl (m28.to trivial) (fun W hW => y_loadAt1 ha37 (hrg19 hW rfl) (q := 0) rfl rfl rfl Try.underlying2 rfl) ?_
   clear ha37 a37; intro a38 ha38
   refine dyn 10 ha38 rfl rfl (m28.to trivial) (fun W => y_neq ha38 rfl rfl) ?_
   clear ha38 a38; intro a39 ha39
   refine dyn 11 ha39 rfl rfl (m28.to trivial) (fun W => y_move ha39 rfl) ?_
   clear ha39 a39; intro a40 ha40
   refine bool_cases ha40 (t := 28) rfl (fun hb41 ha41 => ?_) (fun hb41 ha41 => ?_)
   · exact absurd hb41 (by simp)
   clear ha40 hb41
   refine dygn 12 ha41 rfl rfl rfl rfl rfl (m28.to trivial) (fun W => y_move ha41 rfl) ?_
   clear ha41 a40; intro a42 ha42
   refine dygn 13 ha42 rfl rfl rfl rfl rfl (m28.to trivial) (fun W => y_move ha42 rfl) ?_
   clear ha42 a42; intro a43 ha43
   refine dygn 14 ha43 rfl rfl rfl rfl rfl (m28.to trivial) (fun W => y_idx ha43 rfl rfl Try.underlying32 sz55wr2 (k) rfl hk) ?_
   clear ha43 a43; intro a44 ha44
   refine dygn 15 ha44 rfl rfl rfl rfl rfl (m28.to trivial) (fun W => y_fieldAddrQ ha44 1 rfl Try.underlying55 rfl (s := 0) (by kernel_rfl) rfl) ?_
   clear ha44 a44; intro a45 ha45
   refine dhg 16 ha45 rfl rfl rfl rfl rfl (m28.to trivial) (fun W hW => y_loadAt1 ha45 (hrg22 hW rfl) (q := 1) rfl rfl rfl Try.underlying23 rfl) ?_
   clear ha45 a45; intro a46 ha46
   refine dygn 17 ha46 rfl rfl rfl rfl rfl (m28.to trivial) (fun W => y_move ha46 rfl) ?_
   clear ha46 a46; intro a47 ha47
   refine dygn 18 ha47 rfl rfl rfl rfl rfl (m28.to trivial) (fun W => y_move ha47 rfl) ?_
   clear ha47 a47; intro a48 ha48
   refine dygn 19 ha48 rfl rfl rfl rfl rfl (m28.to trivial) (fun W => y_idx ha48 rfl rfl Try.underlying32 sz55wr2 (k) rfl hk) ?_
   clear ha48 a48; intro a49 ha49
   refine dygn 20 ha49 rfl rfl rfl rfl rfl (m28.to trivial) (fun W => y_fieldAddrQ ha49 1 rfl Try.underlying55 rfl (s := 0) (by kernel_rfl) rfl) ?_
   clear ha49 a49; intro a50 ha50
   refine dhg 21 ha50 rfl rfl rfl rfl rfl (m28.to trivial) (fun W hW => y_loadAt1 ha50 (hrg25 hW rfl) (q := 1) rfl rfl rfl Try.underlying23 rfl) ?_
   clear ha50 a50; intro a51 ha51
   refine stepE_only 22 rfl (by kernel_rfl) (wantedG ha51 rfl rfl rfl rfl) (fun K hK => ?_)
   refine e_call ha51 Try.func55 rfl rfl rfl rfl (sitems_any xl _ _ _ _ _ _ _ ((hd22_1.now' m28 rfl).any) ((hd25_1.now' m28 rfl).any) (hl2 _ (List.mem_of_getElem? hes))) ?_
   rintro e w52 ⟨rfl, hb52⟩
   have m53 := m28.later hb52
   clear m28
   clear hb52
   refine ⟨_, rfl, fun a54 ha54 => ?_⟩; clear ha51 a51
   refine hK _ _ (m53.to trivial) ?_; clear hK K
   refine dygn 23 ha54 rfl rfl rfl rfl rfl (m53.to trivial) (fun W => y_not ha54 rfl) ?_
   clear ha54 a54; intro a55 ha55
   refine dyn 24 ha55 rfl rfl (m53.to trivial) (fun W => y_pickF ha55 rfl rfl) ?_
   clear ha55 a55; intro a56 ha56
   refine wpAnyE_done (by kernel_rfl) ?_ _
   refine hK8 _ _ ?_; clear hK8; try clear K8
   refine wp_cond_false (ha56.ev (x := .tmp 41) rfl) ?_
   refine wp_skip ?_
   refine hK7 _ _ ?_; clear hK7; try clear K7
   have ha57 : Has 42 [(0, _), (1, _), (5, _)] a56 := ha56.only [0, 1, 5]; clear ha56
   refine wp_region_lit ?_
   refine st_y ha57 rfl (y_move ha57 rfl) ?_
   clear ha57 a56; intro a58 ha58
   refine st_y ha58 rfl (y_add ha58 rfl rfl (r := ((k + 1 : Nat) : Int)) (by rw [IntWalk.i64_in _ (by omega)]; omega)) ?_
   clear ha58 a58; intro a59 ha59
   refine st_y ha59 rfl (y_assign ha59 rfl) ?_
   clear ha59 a59; intro a60 ha60
   refine wpList_nil ?_
   show ∃ n', n' < _ ∧ _
   exact ⟨es.length - (k + 1), by omega, k + 1, by omega, rfl, ha60.only [0, 1, 5], m53.only []⟩
  ·
   clear ha13
   try simp only [Q1x, Q2x, Q3x, Q4x, Q5x, Q6x, Q7x, Q8x, Q9x, Q0x, Qax, Qbx] at hb14
   obtain rfl : k = es.length := by omega
   refine wp_cond_false (ha14.ev (x := .tmp 14) rfl) ?_
   refine wp_exit ?_
   refine hK3 _ _ ?_; clear hK3; try clear K3
   refine wp_seq_k (fun K9 hK9 => ?_)
   refine wp_region_lit ?_
   refine st_y ha14 rfl (y_assign ha14 rfl) ?_
   clear ha14 a13; intro a61 ha61
   refine wpList_nil ?_
   refine hK9 _ _ ?_; clear hK9; try clear K9
   refine wp_ret ?_
   try dsimp only [Exit.then, Exit.inBlock]
   refine (ret1 (fn := Try.f41) ha61 rfl rfl ?_)
   exact ⟨by simp, m9.below⟩
theorem rshape2_any (vo bl sz pe to ne fl ne2 fl2 : Int) (hi : Bool) (place : List Int) (hi2 : Bool) (pp pn pw qp qn qw : Option Addr) (cp cq nn cn nw cw mn dn mw dw : Nat) (w0 : World) (hn : place.length ≤ 1000000) (h1 : Rd (fun _ => True) w0 (.slice pp place.length cp) (.ns .i64 place)) (h4 : Rd (fun _ => True) w0 (.slice qp place.length cq) (.ns .i64 place)) :
   Calls Try.prog 39 #[.agg #[.int .i64 vo, .int .i64 bl, .int .i64 sz, .int .i64 pe, .slice pp place.length cp, .int .i64 to, .int .i64 ne, .bool hi, .int .i64 fl, .slice pn nn cn, .slice pw nw cw], .agg #[.int .i64 vo, .int .i64 bl, .int .i64 sz, .int .i64 pe, .slice qp place.length cq, .int .i64 to, .int .i64 ne2, .bool hi2, .int .i64 fl2, .slice qn mn dn, .slice qw mw dw]] w0 fun e w' => e = .returned (.bool true) ∧ Below w0.heap.size w0 w' := by
 refine enter (fn := Try.f39) Try.func39 rfl Try.ntmps39 rfl (fun a0 ha0 => ?_)
 simp only [List.zipIdx_cons, List.zipIdx_nil, List.map_cons, List.map_nil, Nat.reduceAdd, Nat.zero_add] at ha0
 have m0 := MemOk.start (fun _ => False) w0
 refine wp_seq_k (fun K0 hK0 => ?_)
 refine wp_region_lit ?_
 refine wpList_plain rfl (fun K hK => ?_)
 refine e_box ha0 m0 20 (cs := [_, _, _, _, _, _, _, _, _, _, _]) rfl rfl rfl ?_
 clear ha0 a0 m0; intro g1 a2 w2 ha2 m2 hB2 hg2
 clear hB2 hg2
 refine hK _ _ ?_; clear hK K
 refine wpList_plain rfl (fun K hK => ?_)
 refine e_box ha2 m2 21 (cs := [_, _, _, _, _, _, _, _, _, _, _]) rfl rfl rfl ?_
 clear ha2 a2 m2; intro g3 a4 w4 ha4 m4 hB4 hg4
 clear hB4 hg4
 refine hK _ _ ?_; clear hK K
 refine st_y ha4 rfl (y_assign ha4 rfl) ?_
 clear ha4 a4; intro a5 ha5
 refine wpList_nil ?_
 refine hK0 _ _ ?_; clear hK0; try clear K0
 refine wp_seq_k (fun K1 hK1 => ?_)
 refine wp_region_lit ?_
 refine st_y ha5 rfl (y_fieldAddr ha5 (off := 0) rfl Try.underlying34 rfl (s := 0) (by kernel_rfl) rfl) ?_
 clear ha5 a5; intro a6 ha6
 refine st_y ha6 rfl (y_loadB1 ha6 m4 (i := 20) rfl rfl rfl Try.underlying3 rfl) ?_
 clear ha6 a6; intro a7 ha7
 refine st_y ha7 rfl (y_fieldAddr ha7 (off := 0) rfl Try.underlying34 rfl (s := 0) (by kernel_rfl) rfl) ?_
 clear ha7 a7; intro a8 ha8
 refine st_y ha8 rfl (y_loadB1 ha8 m4 (i := 21) rfl rfl rfl Try.underlying3 rfl) ?_
 clear ha8 a8; intro a9 ha9
 refine st_y ha9 rfl (y_eql ha9 rfl rfl) ?_
 clear ha9 a9; intro a10 ha10
 refine st_y ha10 rfl (y_move ha10 rfl) ?_
 clear ha10 a10; intro a11 ha11
 refine bool_cases ha11 (t := 10) rfl (fun hb12 ha12 => ?_) (fun hb12 ha12 => ?_)
 rotate_left
 · exact absurd hb12 (by simp)
 clear ha11 hb12
 refine st_g ha12 rfl rfl rfl rfl (y_fieldAddr ha12 (off := 1) rfl Try.underlying34 rfl (s := 0) (by kernel_rfl) rfl) ?_
 clear ha12 a11; intro a13 ha13
 refine st_g ha13 rfl rfl rfl rfl (y_loadB1 ha13 m4 (i := 20) rfl rfl rfl Try.underlying3 rfl) ?_
 clear ha13 a13; intro a14 ha14
 refine st_g ha14 rfl rfl rfl rfl (y_fieldAddr ha14 (off := 1) rfl Try.underlying34 rfl (s := 0) (by kernel_rfl) rfl) ?_
 clear ha14 a14; intro a15 ha15
 refine st_g ha15 rfl rfl rfl rfl (y_loadB1 ha15 m4 (i := 21) rfl rfl rfl Try.underlying3 rfl) ?_
 clear ha15 a15; intro a16 ha16
 refine st_g ha16 rfl rfl rfl rfl (y_eql ha16 rfl rfl) ?_
 clear ha16 a16; intro a17 ha17
 refine st_y ha17 rfl (y_pickT ha17 rfl rfl) ?_
 clear ha17 a17; intro a18 ha18
 refine st_y ha18 rfl (y_move ha18 rfl) ?_
 clear ha18 a18; intro a19 ha19
 refine bool_cases ha19 (t := 17) rfl (fun hb20 ha20 => ?_) (fun hb20 ha20 => ?_)
 rotate_left
 · exact absurd hb20 (by simp)
 clear ha19 hb20
 refine st_g ha20 rfl rfl rfl rfl (y_fieldAddr ha20 (off := 2) rfl Try.underlying34 rfl (s := 0) (by kernel_rfl) rfl) ?_
 clear ha20 a19; intro a21 ha21
 refine st_g ha21 rfl rfl rfl rfl (y_loadB1 ha21 m4 (i := 20) rfl rfl rfl Try.underlying3 rfl) ?_
 clear ha21 a21; intro a22 ha22
 refine st_g ha22 rfl rfl rfl rfl (y_fieldAddr ha22 (off := 2) rfl Try.underlying34 rfl (s := 0) (by kernel_rfl) rfl) ?_
 clear ha22 a22; intro a23 ha23
 refine st_g ha23 rfl rfl rfl rfl (y_loadB1 ha23 m4 (i := 21) rfl rfl rfl Try.underlying3 rfl) ?_
 clear ha23 a23; intro a24 ha24
 refine st_g ha24 rfl rfl rfl rfl (y_eql ha24 rfl rfl) ?_
 clear ha24 a24; intro a25 ha25
 refine st_y ha25 rfl (y_pickT ha25 rfl rfl) ?_
 clear ha25 a25; intro a26 ha26
 refine st_y ha26 rfl (y_move ha26 rfl) ?_
 clear ha26 a26; intro a27 ha27
 refine bool_cases ha27 (t := 24) rfl (fun hb28 ha28 => ?_) (fun hb28 ha28 => ?_)
 rotate_left
 · exact absurd hb28 (by simp)
 clear ha27 hb28
 refine st_g ha28 rfl rfl rfl rfl (y_fieldAddr ha28 (off := 3) rfl Try.underlying34 rfl (s := 0) (by kernel_rfl) rfl) ?_
 clear ha28 a27; intro a29 ha29
 refine st_g ha29 rfl rfl rfl rfl (y_loadB1 ha29 m4 (i := 20) rfl rfl rfl Try.underlying3 rfl) ?_
 clear ha29 a29; intro a30 ha30
 refine st_g ha30 rfl rfl rfl rfl (y_fieldAddr ha30 (off := 3) rfl Try.underlying34 rfl (s := 0) (by kernel_rfl) rfl) ?_
 clear ha30 a30; intro a31 ha31
 refine st_g ha31 rfl rfl rfl rfl (y_loadB1 ha31 m4 (i := 21) rfl rfl rfl Try.underlying3 rfl) ?_
 clear ha31 a31; intro a32 ha32
 refine st_g ha32 rfl rfl rfl rfl (y_eql ha32 rfl rfl) ?_
 clear ha32 a32; intro a33 ha33
 refine st_y ha33 rfl (y_pickT ha33 rfl rfl) ?_
 clear ha33 a33; intro a34 ha34
 refine st_y ha34 rfl (y_move ha34 rfl) ?_
 clear ha34 a34; intro a35 ha35
 refine bool_cases ha35 (t := 31) rfl (fun hb36 ha36 => ?_) (fun hb36 ha36 => ?_)
 rotate_left
 · exact absurd hb36 (by simp)
 clear ha35 hb36
 refine st_g ha36 rfl rfl rfl rfl (y_fieldAddr ha36 (off := 4) rfl Try.underlying34 rfl (s := 0) (by kernel_rfl) rfl) ?_
 clear ha36 a35; intro a37 ha37
 refine st_g ha37 rfl rfl rfl rfl (y_loadB1 ha37 m4 (i := 20) rfl rfl rfl Try.underlying22 rfl) ?_
 clear ha37 a37; intro a38 ha38
 refine st_g ha38 rfl rfl rfl rfl (y_fieldAddr ha38 (off := 4) rfl Try.underlying34 rfl (s := 0) (by kernel_rfl) rfl) ?_
 clear ha38 a38; intro a39 ha39
 refine st_g ha39 rfl rfl rfl rfl (y_loadB1 ha39 m4 (i := 21) rfl rfl rfl Try.underlying22 rfl) ?_
 clear ha39 a39; intro a40 ha40
 refine st_ge ha40 rfl rfl rfl rfl (fun K hK => ?_)
 refine e_call ha40 Try.func54 rfl rfl rfl rfl (ssi_any place _ _ _ _ _ hn ((h1.now' m4 rfl).any) ((h4.now' m4 rfl).any)) ?_
 rintro e w41 ⟨rfl, hb41⟩
 have m42 := m4.later hb41
 clear m4
 clear hb41
 refine ⟨_, rfl, fun a43 ha43 => ?_⟩; clear ha40 a40
 refine hK _ _ ?_; clear hK K
 refine st_y ha43 rfl (y_pickT ha43 rfl rfl) ?_
 clear ha43 a43; intro a44 ha44
 refine st_y ha44 rfl (y_move ha44 rfl) ?_
 clear ha44 a44; intro a45 ha45
 refine st_g ha45 rfl rfl rfl rfl (y_fieldAddr ha45 (off := 5) rfl Try.underlying34 rfl (s := 0) (by kernel_rfl) rfl) ?_
 clear ha45 a45; intro a46 ha46
 refine st_g ha46 rfl rfl rfl rfl (y_loadB1 ha46 m42 (i := 20) rfl rfl rfl Try.underlying3 rfl) ?_
 clear ha46 a46; intro a47 ha47
 refine st_g ha47 rfl rfl rfl rfl (y_fieldAddr ha47 (off := 5) rfl Try.underlying34 rfl (s := 0) (by kernel_rfl) rfl) ?_
 clear ha47 a47; intro a48 ha48
 refine st_g ha48 rfl rfl rfl rfl (y_loadB1 ha48 m42 (i := 21) rfl rfl rfl Try.underlying3 rfl) ?_
 clear ha48 a48; intro a49 ha49
 refine st_g ha49 rfl rfl rfl rfl (y_eql ha49 rfl rfl) ?_
 clear ha49 a49; intro a50 ha50
 refine st_y ha50 rfl (y_pickT ha50 rfl rfl) ?_
 clear ha50 a50; intro a51 ha51
 refine st_y ha51 rfl (y_assign ha51 rfl) ?_
 clear ha51 a51; intro a52 ha52
 refine wpList_nil ?_
 refine hK1 _ _ ?_; clear hK1; try clear K1
 refine wp_ret ?_
 try dsimp only [Exit.then, Exit.inBlock]
 refine (ret1 (fn := Try.f39) ha52 rfl rfl ?_)
 exact ⟨by simp, m42.below⟩
theorem rsame_any (vo bl sz pe to ne fl : Int) (hi : Bool) (place pins : List Int) (ws : List (Int × List (Int × List Int))) (pp pn pw qp qn qw : Option Addr) (cp cn9 nw cw cq dn mw dw : Nat) (w0 : World) (hn : place.length ≤ 1000000) (hp : pins.length ≤ 1000000) (hl : ws.length ≤ 1000000) (hl2 : ∀ e ∈ ws, e.2.length ≤ 1000000) (h1 : Rd (fun _ => True) w0 (.slice pp place.length cp) (.ns .i64 place)) (h2 : Rd (fun _ => True) w0 (.slice pn pins.length cn9) (.ns .i64 pins)) (h3 : Rd (fun _ => True) w0 (.slice pw nw cw) (.l 2 (ws.map wrD))) (h4 : Rd (fun _ => True) w0 (.slice qp place.length cq) (.ns .i64 place)) (h5 : Rd (fun _ => True) w0 (.slice qn pins.length dn) (.ns .i64 pins)) (h6 : Rd (fun _ => True) w0 (.slice qw mw dw) (.l 2 (ws.map wrD))) :
   Calls Try.prog 13 #[.agg #[.int .i64 vo, .int .i64 bl, .int .i64 sz, .int .i64 pe, .slice pp place.length cp, .int .i64 to, .int .i64 ne, .bool hi, .int .i64 fl, .slice pn pins.length cn9, .slice pw nw cw], .agg #[.int .i64 vo, .int .i64 bl, .int .i64 sz, .int .i64 pe, .slice qp place.length cq, .int .i64 to, .int .i64 ne, .bool hi, .int .i64 fl, .slice qn pins.length dn, .slice qw mw dw]] w0 fun e w' => e = .returned (.bool true) ∧ Below w0.heap.size w0 w' := by
 refine enter (fn := Try.f13) Try.func13 rfl Try.ntmps13 rfl (fun a0 ha0 => ?_)
 simp only [List.zipIdx_cons, List.zipIdx_nil, List.map_cons, List.map_nil, Nat.reduceAdd, Nat.zero_add] at ha0
 have m0 := MemOk.start (fun _ => False) w0
 refine wp_seq_k (fun K0 hK0 => ?_)
 refine wp_region_lit ?_
 refine wpList_plain rfl (fun K hK => ?_)
 refine e_box ha0 m0 20 (cs := [_, _, _, _, _, _, _, _, _, _, _]) rfl rfl rfl ?_
 clear ha0 a0 m0; intro g1 a2 w2 ha2 m2 hB2 hg2
 clear hB2 hg2
 refine hK _ _ ?_; clear hK K
 refine wpList_plain rfl (fun K hK => ?_)
 refine e_box ha2 m2 21 (cs := [_, _, _, _, _, _, _, _, _, _, _]) rfl rfl rfl ?_
 clear ha2 a2 m2; intro g3 a4 w4 ha4 m4 hB4 hg4
 clear hB4 hg4
 refine hK _ _ ?_; clear hK K
 refine st_y ha4 rfl (y_assign ha4 rfl) ?_
 clear ha4 a4; intro a5 ha5
 refine wpList_nil ?_
 refine hK0 _ _ ?_; clear hK0; try clear K0
 refine wp_seq_k (fun K1 hK1 => ?_)
 refine wp_region_lit ?_
 refine st_y ha5 rfl (y_loadBR ha5 m4 (i := 20) rfl rfl Try.underlying34 rfl sz34sm2 (by simp) (by dsimp only [List.drop, List.take] <;> rfl)) ?_
 clear ha5 a5; intro a6 ha6
 refine st_y ha6 rfl (y_loadBR ha6 m4 (i := 21) rfl rfl Try.underlying34 rfl sz34sm2 (by simp) (by dsimp only [List.drop, List.take] <;> rfl)) ?_
 clear ha6 a6; intro a7 ha7
 refine wpList_plain rfl (fun K hK => ?_)
 refine e_call ha7 Try.func39 rfl rfl rfl rfl (rshape2_any _ _ _ _ _ _ _ _ _ _ place _ _ _ _ _ _ _ _ _ _ _ _ _ _ _ _ _ _ hn ((h1.now' m4 rfl).any) ((h4.now' m4 rfl).any)) ?_
 rintro e w8 ⟨rfl, hb8⟩
 have m9 := m4.later hb8
 clear m4
 clear hb8
 refine ⟨_, rfl, fun a10 ha10 => ?_⟩; clear ha7 a7
 refine hK _ _ ?_; clear hK K
 refine st_y ha10 rfl (y_move ha10 rfl) ?_
 clear ha10 a10; intro a11 ha11
 refine st_g ha11 rfl rfl rfl rfl (y_fieldAddr ha11 (off := 6) rfl Try.underlying34 rfl (s := 0) (by kernel_rfl) rfl) ?_
 clear ha11 a11; intro a12 ha12
 refine st_g ha12 rfl rfl rfl rfl (y_loadB1 ha12 m9 (i := 20) rfl rfl rfl Try.underlying3 rfl) ?_
 clear ha12 a12; intro a13 ha13
 refine st_g ha13 rfl rfl rfl rfl (y_fieldAddr ha13 (off := 6) rfl Try.underlying34 rfl (s := 0) (by kernel_rfl) rfl) ?_
 clear ha13 a13; intro a14 ha14
 refine st_g ha14 rfl rfl rfl rfl (y_loadB1 ha14 m9 (i := 21) rfl rfl rfl Try.underlying3 rfl) ?_
 clear ha14 a14; intro a15 ha15
 refine st_g ha15 rfl rfl rfl rfl (y_eql ha15 rfl rfl) ?_
 clear ha15 a15; intro a16 ha16
 refine st_y ha16 rfl (y_pickT ha16 rfl rfl) ?_
 clear ha16 a16; intro a17 ha17
 refine st_y ha17 rfl (y_move ha17 rfl) ?_
 clear ha17 a17; intro a18 ha18
 refine bool_cases ha18 (t := 15) rfl (fun hb19 ha19 => ?_) (fun hb19 ha19 => ?_)
 rotate_left
 · exact absurd hb19 (by simp)
 clear ha18 hb19
 refine st_g ha19 rfl rfl rfl rfl (y_fieldAddr ha19 (off := 7) rfl Try.underlying34 rfl (s := 0) (by kernel_rfl) rfl) ?_
 clear ha19 a18; intro a20 ha20
 refine st_g ha20 rfl rfl rfl rfl (y_loadB1 ha20 m9 (i := 20) rfl rfl rfl Try.underlying4 rfl) ?_
 clear ha20 a20; intro a21 ha21
 refine st_g ha21 rfl rfl rfl rfl (y_fieldAddr ha21 (off := 7) rfl Try.underlying34 rfl (s := 0) (by kernel_rfl) rfl) ?_
 clear ha21 a21; intro a22 ha22
 refine st_g ha22 rfl rfl rfl rfl (y_loadB1 ha22 m9 (i := 21) rfl rfl rfl Try.underlying4 rfl) ?_
 clear ha22 a22; intro a23 ha23
 refine st_g ha23 rfl rfl rfl rfl (y_eqlB ha23 rfl rfl Try.underlying4) ?_
 clear ha23 a23; intro a24 ha24
 refine st_y ha24 rfl (y_pickT ha24 rfl rfl) ?_
 clear ha24 a24; intro a25 ha25
 refine st_y ha25 rfl (y_move ha25 rfl) ?_
 clear ha25 a25; intro a26 ha26
 refine bool_cases ha26 (t := 22) rfl (fun hb27 ha27 => ?_) (fun hb27 ha27 => ?_)
 rotate_left
 · exact absurd hb27 (by simp)
 clear ha26 hb27
 refine st_g ha27 rfl rfl rfl rfl (y_fieldAddr ha27 (off := 8) rfl Try.underlying34 rfl (s := 0) (by kernel_rfl) rfl) ?_
 clear ha27 a26; intro a28 ha28
 refine st_g ha28 rfl rfl rfl rfl (y_loadB1 ha28 m9 (i := 20) rfl rfl rfl Try.underlying2 rfl) ?_
 clear ha28 a28; intro a29 ha29
 refine st_g ha29 rfl rfl rfl rfl (y_fieldAddr ha29 (off := 8) rfl Try.underlying34 rfl (s := 0) (by kernel_rfl) rfl) ?_
 clear ha29 a29; intro a30 ha30
 refine st_g ha30 rfl rfl rfl rfl (y_loadB1 ha30 m9 (i := 21) rfl rfl rfl Try.underlying2 rfl) ?_
 clear ha30 a30; intro a31 ha31
 refine st_g ha31 rfl rfl rfl rfl (y_eql ha31 rfl rfl) ?_
 clear ha31 a31; intro a32 ha32
 refine st_y ha32 rfl (y_pickT ha32 rfl rfl) ?_
 clear ha32 a32; intro a33 ha33
 refine st_y ha33 rfl (y_move ha33 rfl) ?_
 clear ha33 a33; intro a34 ha34
 refine bool_cases ha34 (t := 29) rfl (fun hb35 ha35 => ?_) (fun hb35 ha35 => ?_)
 rotate_left
 · exact absurd hb35 (by simp)
 clear ha34 hb35
 refine st_g ha35 rfl rfl rfl rfl (y_fieldAddr ha35 (off := 9) rfl Try.underlying34 rfl (s := 0) (by kernel_rfl) rfl) ?_
 clear ha35 a34; intro a36 ha36
 refine st_g ha36 rfl rfl rfl rfl (y_loadB1 ha36 m9 (i := 20) rfl rfl rfl Try.underlying31 rfl) ?_
 clear ha36 a36; intro a37 ha37
 refine st_g ha37 rfl rfl rfl rfl (y_fieldAddr ha37 (off := 9) rfl Try.underlying34 rfl (s := 0) (by kernel_rfl) rfl) ?_
 clear ha37 a37; intro a38 ha38
 refine st_g ha38 rfl rfl rfl rfl (y_loadB1 ha38 m9 (i := 21) rfl rfl rfl Try.underlying31 rfl) ?_
 clear ha38 a38; intro a39 ha39
 refine st_ge ha39 rfl rfl rfl rfl (fun K hK => ?_)
 refine e_call ha39 Try.func40 rfl rfl rfl rfl (ssp_any pins _ _ _ _ _ hp ((h2.now' m9 rfl).any) ((h5.now' m9 rfl).any)) ?_
 rintro e w40 ⟨rfl, hb40⟩
 have m41 := m9.later hb40
 clear m9
 clear hb40
 refine ⟨_, rfl, fun a42 ha42 => ?_⟩; clear ha39 a39
 refine hK _ _ ?_; clear hK K
 refine st_y ha42 rfl (y_pickT ha42 rfl rfl) ?_
 clear ha42 a42; intro a43 ha43
 refine st_y ha43 rfl (y_move ha43 rfl) ?_
 clear ha43 a43; intro a44 ha44
 refine st_g ha44 rfl rfl rfl rfl (y_fieldAddr ha44 (off := 10) rfl Try.underlying34 rfl (s := 0) (by kernel_rfl) rfl) ?_
 clear ha44 a44; intro a45 ha45
 refine st_g ha45 rfl rfl rfl rfl (y_loadB1 ha45 m41 (i := 20) rfl rfl rfl Try.underlying32 rfl) ?_
 clear ha45 a45; intro a46 ha46
 refine st_g ha46 rfl rfl rfl rfl (y_fieldAddr ha46 (off := 10) rfl Try.underlying34 rfl (s := 0) (by kernel_rfl) rfl) ?_
 clear ha46 a46; intro a47 ha47
 refine st_g ha47 rfl rfl rfl rfl (y_loadB1 ha47 m41 (i := 21) rfl rfl rfl Try.underlying32 rfl) ?_
 clear ha47 a47; intro a48 ha48
 refine st_ge ha48 rfl rfl rfl rfl (fun K hK => ?_)
 refine e_call ha48 Try.func41 rfl rfl rfl rfl (swrites_any ws _ _ _ _ _ _ _ ((h3.now' m41 rfl).any) ((h6.now' m41 rfl).any) hl hl2) ?_
 rintro e w49 ⟨rfl, hb49⟩
 have m50 := m41.later hb49
 clear m41
 clear hb49
 refine ⟨_, rfl, fun a51 ha51 => ?_⟩; clear ha48 a48
 refine hK _ _ ?_; clear hK K
 refine st_y ha51 rfl (y_pickT ha51 rfl rfl) ?_
 clear ha51 a51; intro a52 ha52
 refine st_y ha52 rfl (y_assign ha52 rfl) ?_
 clear ha52 a52; intro a53 ha53
 refine wpList_nil ?_
 refine hK1 _ _ ?_; clear hK1; try clear K1
 refine wp_ret ?_
 try dsimp only [Exit.then, Exit.inBlock]
 refine (ret1 (fn := Try.f13) ha53 rfl rfl ?_)
 exact ⟨by simp, m50.below⟩
theorem rshape_any (kd vo bl sz pe to at0 ix : Int) (place : List Int) (pp pi : Option Addr) (cp ni ci : Nat) (w0 : World) (h0 : Rd (fun _ => True) w0 (.slice pp place.length cp) (.ns .i64 place)) (hn : place.length ≤ 1000000) :
   Calls Try.prog 38 #[.agg #[.int .i64 kd, .int .i64 vo, .int .i64 bl, .int .i64 sz, .int .i64 pe, .slice pp place.length cp, .int .i64 to, .int .i64 at0, .int .i64 ix, .slice pi ni ci]] w0 fun e w' => ∃ b : Bool, e = .returned (.bool b) ∧ (b = true ↔ NewOk vo bl sz pe to place) ∧ Below w0.heap.size w0 w' := by
 refine enter (fn := Try.f38) Try.func38 rfl Try.ntmps38 rfl (fun a0 ha0 => ?_)
 simp only [List.zipIdx_cons, List.zipIdx_nil, List.map_cons, List.map_nil, Nat.reduceAdd, Nat.zero_add] at ha0
 have m0 := MemOk.start (fun _ => False) w0
 refine wp_seq_k (fun K0 hK0 => ?_)
 refine wp_region_lit ?_
 refine wpList_plain rfl (fun K hK => ?_)
 refine e_box ha0 m0 20 (cs := [_, _, _, _, _, _, _, _, _, _]) rfl rfl rfl ?_
 clear ha0 a0 m0; intro g1 a2 w2 ha2 m2 hB2 hg2
 clear hB2 hg2
 refine hK _ _ ?_; clear hK K
 refine st_y ha2 rfl (y_assign ha2 rfl) ?_
 clear ha2 a2; intro a3 ha3
 refine wpList_nil ?_
 refine hK0 _ _ ?_; clear hK0; try clear K0
 refine wp_seq_k (fun K1 hK1 => ?_)
 refine wp_seq_k (fun K2 hK2 => ?_)
 have m4 : MemOk _ _ [(20, _)] _ := m2.only [20]; clear m2
 refine region_m 61 (B := [(20, _)]) (m4.to ⟨il, trivial⟩) m4 (by kernel_rfl) (fun w5 mB5 m5 => ?_); clear m4 mB5
 refine dyn 0 ha3 rfl rfl (m5.to ⟨il, trivial⟩) (fun W => y_fieldAddr ha3 (off := 1) rfl Try.underlying25 rfl (s := 0) (by kernel_rfl) rfl) ?_
 clear ha3 a3; intro a6 ha6
 refine dh 1 ha6 rfl rfl (m5.to ⟨il, trivial⟩) (fun W hW => y_loadB1 ha6 hW (i := 20) rfl rfl rfl Try.underlying3 rfl) ?_
 clear ha6 a6; intro a7 ha7
 refine dyn 2 ha7 rfl rfl (m5.to ⟨il, trivial⟩) (fun W => y_lss ha7 rfl rfl) ?_
 clear ha7 a7; intro a8 ha8
 refine dyn 3 ha8 rfl rfl (m5.to ⟨il, trivial⟩) (fun W => y_move ha8 rfl) ?_
 clear ha8 a8; intro a9 ha9
 refine bool_cases ha9 (t := 7) rfl (fun hb10 ha10 => ?_) (fun hb10 ha10 => ?_)
 ·
  clear ha9
  try simp only [Q1x, Q2x, Q3x, Q4x, Q5x, Q6x, Q7x, Q8x, Q9x, Q0x, Qax, Qbx] at hb10
  refine dskipn 4 ha10 rfl rfl rfl rfl rfl (m5.to ⟨il, trivial⟩) ?_
  clear ha10 a9; intro a11 ha11
  refine dskipn 5 ha11 rfl rfl rfl rfl rfl (m5.to ⟨il, trivial⟩) ?_
  clear ha11 a11; intro a12 ha12
  refine dskipn 6 ha12 rfl rfl rfl rfl rfl (m5.to ⟨il, trivial⟩) ?_
  clear ha12 a12; intro a13 ha13
  refine dyn 7 ha13 rfl rfl (m5.to ⟨il, trivial⟩) (fun W => y_pickT ha13 rfl rfl) ?_
  clear ha13 a13; intro a14 ha14
  refine dyn 8 ha14 rfl rfl (m5.to ⟨il, trivial⟩) (fun W => y_move ha14 rfl) ?_
  clear ha14 a14; intro a15 ha15
  refine dskipn 9 ha15 rfl rfl rfl rfl rfl (m5.to ⟨il, trivial⟩) ?_
  clear ha15 a15; intro a16 ha16
  refine dskipn 10 ha16 rfl rfl rfl rfl rfl (m5.to ⟨il, trivial⟩) ?_
  clear ha16 a16; intro a17 ha17
  refine dskipn 11 ha17 rfl rfl rfl rfl rfl (m5.to ⟨il, trivial⟩) ?_
  clear ha17 a17; intro a18 ha18
  refine dyn 12 ha18 rfl rfl (m5.to ⟨il, trivial⟩) (fun W => y_pickT ha18 rfl rfl) ?_
  clear ha18 a18; intro a19 ha19
  refine dyn 13 ha19 rfl rfl (m5.to ⟨il, trivial⟩) (fun W => y_move ha19 rfl) ?_
  clear ha19 a19; intro a20 ha20
  refine dskipn 14 ha20 rfl rfl rfl rfl rfl (m5.to ⟨il, trivial⟩) ?_
  clear ha20 a20; intro a21 ha21
  refine dskipn 15 ha21 rfl rfl rfl rfl rfl (m5.to ⟨il, trivial⟩) ?_
  clear ha21 a21; intro a22 ha22
  refine dskipn 16 ha22 rfl rfl rfl rfl rfl (m5.to ⟨il, trivial⟩) ?_
  clear ha22 a22; intro a23 ha23
  refine dyn 17 ha23 rfl rfl (m5.to ⟨il, trivial⟩) (fun W => y_pickT ha23 rfl rfl) ?_
  clear ha23 a23; intro a24 ha24
  refine dyn 18 ha24 rfl rfl (m5.to ⟨il, trivial⟩) (fun W => y_move ha24 rfl) ?_
  clear ha24 a24; intro a25 ha25
  refine dskipn 19 ha25 rfl rfl rfl rfl rfl (m5.to ⟨il, trivial⟩) ?_
  clear ha25 a25; intro a26 ha26
  refine dskipn 20 ha26 rfl rfl rfl rfl rfl (m5.to ⟨il, trivial⟩) ?_
  clear ha26 a26; intro a27 ha27
  refine dskipn 21 ha27 rfl rfl rfl rfl rfl (m5.to ⟨il, trivial⟩) ?_
  clear ha27 a27; intro a28 ha28
  refine dyn 22 ha28 rfl rfl (m5.to ⟨il, trivial⟩) (fun W => y_pickT ha28 rfl rfl) ?_
  clear ha28 a28; intro a29 ha29
  refine dyn 23 ha29 rfl rfl (m5.to ⟨il, trivial⟩) (fun W => y_move ha29 rfl) ?_
  clear ha29 a29; intro a30 ha30
  refine dskipn 24 ha30 rfl rfl rfl rfl rfl (m5.to ⟨il, trivial⟩) ?_
  clear ha30 a30; intro a31 ha31
  refine dskipn 25 ha31 rfl rfl rfl rfl rfl (m5.to ⟨il, trivial⟩) ?_
  clear ha31 a31; intro a32 ha32
  refine dskipn 26 ha32 rfl rfl rfl rfl rfl (m5.to ⟨il, trivial⟩) ?_
  clear ha32 a32; intro a33 ha33
  refine dyn 27 ha33 rfl rfl (m5.to ⟨il, trivial⟩) (fun W => y_pickT ha33 rfl rfl) ?_
  clear ha33 a33; intro a34 ha34
  refine dyn 28 ha34 rfl rfl (m5.to ⟨il, trivial⟩) (fun W => y_move ha34 rfl) ?_
  clear ha34 a34; intro a35 ha35
  refine dskipn 29 ha35 rfl rfl rfl rfl rfl (m5.to ⟨il, trivial⟩) ?_
  clear ha35 a35; intro a36 ha36
  refine dskipn 30 ha36 rfl rfl rfl rfl rfl (m5.to ⟨il, trivial⟩) ?_
  clear ha36 a36; intro a37 ha37
  refine dskipn 31 ha37 rfl rfl rfl rfl rfl (m5.to ⟨il, trivial⟩) ?_
  clear ha37 a37; intro a38 ha38
  refine dyn 32 ha38 rfl rfl (m5.to ⟨il, trivial⟩) (fun W => y_pickT ha38 rfl rfl) ?_
  clear ha38 a38; intro a39 ha39
  refine dyn 33 ha39 rfl rfl (m5.to ⟨il, trivial⟩) (fun W => y_move ha39 rfl) ?_
  clear ha39 a39; intro a40 ha40
  refine dskipn 34 ha40 rfl rfl rfl rfl rfl (m5.to ⟨il, trivial⟩) ?_
  clear ha40 a40; intro a41 ha41
  refine dskipn 35 ha41 rfl rfl rfl rfl rfl (m5.to ⟨il, trivial⟩) ?_
  clear ha41 a41; intro a42 ha42
  refine dskipn 36 ha42 rfl rfl rfl rfl rfl (m5.to ⟨il, trivial⟩) ?_
  clear ha42 a42; intro a43 ha43
  refine dskipn 37 ha43 rfl rfl rfl rfl rfl (m5.to ⟨il, trivial⟩) ?_
  clear ha43 a43; intro a44 ha44
  refine dskipn 38 ha44 rfl rfl rfl rfl rfl (m5.to ⟨il, trivial⟩) ?_
  clear ha44 a44; intro a45 ha45
  refine dyn 39 ha45 rfl rfl (m5.to ⟨il, trivial⟩) (fun W => y_pickT ha45 rfl rfl) ?_
  clear ha45 a45; intro a46 ha46
  refine dyn 40 ha46 rfl rfl (m5.to ⟨il, trivial⟩) (fun W => y_move ha46 rfl) ?_
  clear ha46 a46; intro a47 ha47
  refine dskipn 41 ha47 rfl rfl rfl rfl rfl (m5.to ⟨il, trivial⟩) ?_
  clear ha47 a47; intro a48 ha48
  refine dskipn 42 ha48 rfl rfl rfl rfl rfl (m5.to ⟨il, trivial⟩) ?_
  clear ha48 a48; intro a49 ha49
  refine dskipn 43 ha49 rfl rfl rfl rfl rfl (m5.to ⟨il, trivial⟩) ?_
  clear ha49 a49; intro a50 ha50
  refine dskipn 44 ha50 rfl rfl rfl rfl rfl (m5.to ⟨il, trivial⟩) ?_
  clear ha50 a50; intro a51 ha51
  refine dskipn 45 ha51 rfl rfl rfl rfl rfl (m5.to ⟨il, trivial⟩) ?_
  clear ha51 a51; intro a52 ha52
  refine dskipn 46 ha52 rfl rfl rfl rfl rfl (m5.to ⟨il, trivial⟩) ?_
  clear ha52 a52; intro a53 ha53
  refine dskipn 47 ha53 rfl rfl rfl rfl rfl (m5.to ⟨il, trivial⟩) ?_
  clear ha53 a53; intro a54 ha54
  refine dskipn 48 ha54 rfl rfl rfl rfl rfl (m5.to ⟨il, trivial⟩) ?_
  clear ha54 a54; intro a55 ha55
  refine dskipn 49 ha55 rfl rfl rfl rfl rfl (m5.to ⟨il, trivial⟩) ?_
  clear ha55 a55; intro a56 ha56
  refine dyn 50 ha56 rfl rfl (m5.to ⟨il, trivial⟩) (fun W => y_pickT ha56 rfl rfl) ?_
  clear ha56 a56; intro a57 ha57
  refine dyn 51 ha57 rfl rfl (m5.to ⟨il, trivial⟩) (fun W => y_move ha57 rfl) ?_
  clear ha57 a57; intro a58 ha58
  refine dskipn 52 ha58 rfl rfl rfl rfl rfl (m5.to ⟨il, trivial⟩) ?_
  clear ha58 a58; intro a59 ha59
  refine dskipn 53 ha59 rfl rfl rfl rfl rfl (m5.to ⟨il, trivial⟩) ?_
  clear ha59 a59; intro a60 ha60
  refine dskipn 54 ha60 rfl rfl rfl rfl rfl (m5.to ⟨il, trivial⟩) ?_
  clear ha60 a60; intro a61 ha61
  refine dyn 55 ha61 rfl rfl (m5.to ⟨il, trivial⟩) (fun W => y_pickT ha61 rfl rfl) ?_
  clear ha61 a61; intro a62 ha62
  refine dyn 56 ha62 rfl rfl (m5.to ⟨il, trivial⟩) (fun W => y_move ha62 rfl) ?_
  clear ha62 a62; intro a63 ha63
  refine dskipn 57 ha63 rfl rfl rfl rfl rfl (m5.to ⟨il, trivial⟩) ?_
  clear ha63 a63; intro a64 ha64
  refine dskipn 58 ha64 rfl rfl rfl rfl rfl (m5.to ⟨il, trivial⟩) ?_
  clear ha64 a64; intro a65 ha65
  refine dskipn 59 ha65 rfl rfl rfl rfl rfl (m5.to ⟨il, trivial⟩) ?_
  clear ha65 a65; intro a66 ha66
  refine dyn 60 ha66 rfl rfl (m5.to ⟨il, trivial⟩) (fun W => y_pickT ha66 rfl rfl) ?_
  clear ha66 a66; intro a67 ha67
  refine wpAnyE_done (by kernel_rfl) ?_ _
  refine hK2 _ _ ?_; clear hK2; try clear K2
  refine wp_cond_true (ha67.ev (x := .tmp 64) rfl) ?_
  refine wp_seq_k (fun K3 hK3 => ?_)
  have ha68 : Has 86 [(1, _), (2, _)] a67 := ha67.only [1, 2]; clear ha67
  refine wp_region_lit ?_
  refine st_y ha68 rfl (y_assign ha68 rfl) ?_
  clear ha68 a67; intro a69 ha69
  refine wpList_nil ?_
  refine hK3 _ _ ?_; clear hK3; try clear K3
  refine wp_ret ?_
  try dsimp only [Exit.then, Exit.inBlock]
  refine (ret1 (fn := Try.f38) ha69 rfl rfl ?_)
  exact ⟨false, rfl, iff_of_false (by simp) (fun h => by obtain ⟨h1, h2, h3, h4, h5, h6, h7, h8, ⟨h9, h10⟩, h11, h12⟩ := h; first | omega | (have h13 := h9 _ (getD_mem hk); omega)), m5.below⟩
 ·
  clear ha9
  try simp only [Q1x, Q2x, Q3x, Q4x, Q5x, Q6x, Q7x, Q8x, Q9x, Q0x, Qax, Qbx] at hb10
  refine dygn 4 ha10 rfl rfl rfl rfl rfl (m5.to ⟨il, trivial⟩) (fun W => y_fieldAddr ha10 (off := 1) rfl Try.underlying25 rfl (s := 0) (by kernel_rfl) rfl) ?_
  clear ha10 a9; intro a70 ha70
  refine dhg 5 ha70 rfl rfl rfl rfl rfl (m5.to ⟨il, trivial⟩) (fun W hW => y_loadB1 ha70 hW (i := 20) rfl rfl rfl Try.underlying3 rfl) ?_
  clear ha70 a70; intro a71 ha71
  refine dygn 6 ha71 rfl rfl rfl rfl rfl (m5.to ⟨il, trivial⟩) (fun W => y_geq ha71 rfl rfl) ?_
  clear ha71 a71; intro a72 ha72
  refine dyn 7 ha72 rfl rfl (m5.to ⟨il, trivial⟩) (fun W => y_pickF ha72 rfl rfl) ?_
  clear ha72 a72; intro a73 ha73
  refine dyn 8 ha73 rfl rfl (m5.to ⟨il, trivial⟩) (fun W => y_move ha73 rfl) ?_
  clear ha73 a73; intro a74 ha74
  refine bool_cases ha74 (t := 12) rfl (fun hb75 ha75 => ?_) (fun hb75 ha75 => ?_)
  ·
   clear ha74
   try simp only [Q1x, Q2x, Q3x, Q4x, Q5x, Q6x, Q7x, Q8x, Q9x, Q0x, Qax, Qbx] at hb75
   refine dskipn 9 ha75 rfl rfl rfl rfl rfl (m5.to ⟨il, trivial⟩) ?_
   clear ha75 a74; intro a76 ha76
   refine dskipn 10 ha76 rfl rfl rfl rfl rfl (m5.to ⟨il, trivial⟩) ?_
   clear ha76 a76; intro a77 ha77
   refine dskipn 11 ha77 rfl rfl rfl rfl rfl (m5.to ⟨il, trivial⟩) ?_
   clear ha77 a77; intro a78 ha78
   refine dyn 12 ha78 rfl rfl (m5.to ⟨il, trivial⟩) (fun W => y_pickT ha78 rfl rfl) ?_
   clear ha78 a78; intro a79 ha79
   refine dyn 13 ha79 rfl rfl (m5.to ⟨il, trivial⟩) (fun W => y_move ha79 rfl) ?_
   clear ha79 a79; intro a80 ha80
   refine dskipn 14 ha80 rfl rfl rfl rfl rfl (m5.to ⟨il, trivial⟩) ?_
   clear ha80 a80; intro a81 ha81
   refine dskipn 15 ha81 rfl rfl rfl rfl rfl (m5.to ⟨il, trivial⟩) ?_
   clear ha81 a81; intro a82 ha82
   refine dskipn 16 ha82 rfl rfl rfl rfl rfl (m5.to ⟨il, trivial⟩) ?_
   clear ha82 a82; intro a83 ha83
   refine dyn 17 ha83 rfl rfl (m5.to ⟨il, trivial⟩) (fun W => y_pickT ha83 rfl rfl) ?_
   clear ha83 a83; intro a84 ha84
   refine dyn 18 ha84 rfl rfl (m5.to ⟨il, trivial⟩) (fun W => y_move ha84 rfl) ?_
   clear ha84 a84; intro a85 ha85
   refine dskipn 19 ha85 rfl rfl rfl rfl rfl (m5.to ⟨il, trivial⟩) ?_
   clear ha85 a85; intro a86 ha86
   refine dskipn 20 ha86 rfl rfl rfl rfl rfl (m5.to ⟨il, trivial⟩) ?_
   clear ha86 a86; intro a87 ha87
   refine dskipn 21 ha87 rfl rfl rfl rfl rfl (m5.to ⟨il, trivial⟩) ?_
   clear ha87 a87; intro a88 ha88
   refine dyn 22 ha88 rfl rfl (m5.to ⟨il, trivial⟩) (fun W => y_pickT ha88 rfl rfl) ?_
   clear ha88 a88; intro a89 ha89
   refine dyn 23 ha89 rfl rfl (m5.to ⟨il, trivial⟩) (fun W => y_move ha89 rfl) ?_
   clear ha89 a89; intro a90 ha90
   refine dskipn 24 ha90 rfl rfl rfl rfl rfl (m5.to ⟨il, trivial⟩) ?_
   clear ha90 a90; intro a91 ha91
   refine dskipn 25 ha91 rfl rfl rfl rfl rfl (m5.to ⟨il, trivial⟩) ?_
   clear ha91 a91; intro a92 ha92
   refine dskipn 26 ha92 rfl rfl rfl rfl rfl (m5.to ⟨il, trivial⟩) ?_
   clear ha92 a92; intro a93 ha93
   refine dyn 27 ha93 rfl rfl (m5.to ⟨il, trivial⟩) (fun W => y_pickT ha93 rfl rfl) ?_
   clear ha93 a93; intro a94 ha94
   refine dyn 28 ha94 rfl rfl (m5.to ⟨il, trivial⟩) (fun W => y_move ha94 rfl) ?_
   clear ha94 a94; intro a95 ha95
   refine dskipn 29 ha95 rfl rfl rfl rfl rfl (m5.to ⟨il, trivial⟩) ?_
   clear ha95 a95; intro a96 ha96
   refine dskipn 30 ha96 rfl rfl rfl rfl rfl (m5.to ⟨il, trivial⟩) ?_
   clear ha96 a96; intro a97 ha97
   refine dskipn 31 ha97 rfl rfl rfl rfl rfl (m5.to ⟨il, trivial⟩) ?_
   clear ha97 a97; intro a98 ha98
   refine dyn 32 ha98 rfl rfl (m5.to ⟨il, trivial⟩) (fun W => y_pickT ha98 rfl rfl) ?_
   clear ha98 a98; intro a99 ha99
   refine dyn 33 ha99 rfl rfl (m5.to ⟨il, trivial⟩) (fun W => y_move ha99 rfl) ?_
   clear ha99 a99; intro a100 ha100
   refine dskipn 34 ha100 rfl rfl rfl rfl rfl (m5.to ⟨il, trivial⟩) ?_
   clear ha100 a100; intro a101 ha101
   refine dskipn 35 ha101 rfl rfl rfl rfl rfl (m5.to ⟨il, trivial⟩) ?_
   clear ha101 a101; intro a102 ha102
   refine dskipn 36 ha102 rfl rfl rfl rfl rfl (m5.to ⟨il, trivial⟩) ?_
   clear ha102 a102; intro a103 ha103
   refine dskipn 37 ha103 rfl rfl rfl rfl rfl (m5.to ⟨il, trivial⟩) ?_
   clear ha103 a103; intro a104 ha104
   refine dskipn 38 ha104 rfl rfl rfl rfl rfl (m5.to ⟨il, trivial⟩) ?_
   clear ha104 a104; intro a105 ha105
   refine dyn 39 ha105 rfl rfl (m5.to ⟨il, trivial⟩) (fun W => y_pickT ha105 rfl rfl) ?_
   clear ha105 a105; intro a106 ha106
   refine dyn 40 ha106 rfl rfl (m5.to ⟨il, trivial⟩) (fun W => y_move ha106 rfl) ?_
   clear ha106 a106; intro a107 ha107
   refine dskipn 41 ha107 rfl rfl rfl rfl rfl (m5.to ⟨il, trivial⟩) ?_
   clear ha107 a107; intro a108 ha108
   refine dskipn 42 ha108 rfl rfl rfl rfl rfl (m5.to ⟨il, trivial⟩) ?_
   clear ha108 a108; intro a109 ha109
   refine dskipn 43 ha109 rfl rfl rfl rfl rfl (m5.to ⟨il, trivial⟩) ?_
   clear ha109 a109; intro a110 ha110
   refine dskipn 44 ha110 rfl rfl rfl rfl rfl (m5.to ⟨il, trivial⟩) ?_
   clear ha110 a110; intro a111 ha111
   refine dskipn 45 ha111 rfl rfl rfl rfl rfl (m5.to ⟨il, trivial⟩) ?_
   clear ha111 a111; intro a112 ha112
   refine dskipn 46 ha112 rfl rfl rfl rfl rfl (m5.to ⟨il, trivial⟩) ?_
   clear ha112 a112; intro a113 ha113
   refine dskipn 47 ha113 rfl rfl rfl rfl rfl (m5.to ⟨il, trivial⟩) ?_
   clear ha113 a113; intro a114 ha114
   refine dskipn 48 ha114 rfl rfl rfl rfl rfl (m5.to ⟨il, trivial⟩) ?_
   clear ha114 a114; intro a115 ha115
   refine dskipn 49 ha115 rfl rfl rfl rfl rfl (m5.to ⟨il, trivial⟩) ?_
   clear ha115 a115; intro a116 ha116
   refine dyn 50 ha116 rfl rfl (m5.to ⟨il, trivial⟩) (fun W => y_pickT ha116 rfl rfl) ?_
   clear ha116 a116; intro a117 ha117
   refine dyn 51 ha117 rfl rfl (m5.to ⟨il, trivial⟩) (fun W => y_move ha117 rfl) ?_
   clear ha117 a117; intro a118 ha118
   refine dskipn 52 ha118 rfl rfl rfl rfl rfl (m5.to ⟨il, trivial⟩) ?_
   clear ha118 a118; intro a119 ha119
   refine dskipn 53 ha119 rfl rfl rfl rfl rfl (m5.to ⟨il, trivial⟩) ?_
   clear ha119 a119; intro a120 ha120
   refine dskipn 54 ha120 rfl rfl rfl rfl rfl (m5.to ⟨il, trivial⟩) ?_
   clear ha120 a120; intro a121 ha121
   refine dyn 55 ha121 rfl rfl (m5.to ⟨il, trivial⟩) (fun W => y_pickT ha121 rfl rfl) ?_
   clear ha121 a121; intro a122 ha122
   refine dyn 56 ha122 rfl rfl (m5.to ⟨il, trivial⟩) (fun W => y_move ha122 rfl) ?_
   clear ha122 a122; intro a123 ha123
   refine dskipn 57 ha123 rfl rfl rfl rfl rfl (m5.to ⟨il, trivial⟩) ?_
   clear ha123 a123; intro a124 ha124
   refine dskipn 58 ha124 rfl rfl rfl rfl rfl (m5.to ⟨il, trivial⟩) ?_
   clear ha124 a124; intro a125 ha125
   refine dskipn 59 ha125 rfl rfl rfl rfl rfl (m5.to ⟨il, trivial⟩) ?_
   clear ha125 a125; intro a126 ha126
   refine dyn 60 ha126 rfl rfl (m5.to ⟨il, trivial⟩) (fun W => y_pickT ha126 rfl rfl) ?_
   clear ha126 a126; intro a127 ha127
   refine wpAnyE_done (by kernel_rfl) ?_ _
   refine hK2 _ _ ?_; clear hK2; try clear K2
   refine wp_cond_true (ha127.ev (x := .tmp 64) rfl) ?_
   refine wp_seq_k (fun K4 hK4 => ?_)
   have ha128 : Has 86 [(1, _), (2, _)] a127 := ha127.only [1, 2]; clear ha127
   refine wp_region_lit ?_
   refine st_y ha128 rfl (y_assign ha128 rfl) ?_
   clear ha128 a127; intro a129 ha129
   refine wpList_nil ?_
   refine hK4 _ _ ?_; clear hK4; try clear K4
   refine wp_ret ?_
   try dsimp only [Exit.then, Exit.inBlock]
   refine (ret1 (fn := Try.f38) ha129 rfl rfl ?_)
   exact ⟨false, rfl, iff_of_false (by simp) (fun h => by obtain ⟨h1, h2, h3, h4, h5, h6, h7, h8, ⟨h9, h10⟩, h11, h12⟩ := h; first | omega | (have h13 := h9 _ (getD_mem hk); omega)), m5.below⟩
  ·
   clear ha74
   try simp only [Q1x, Q2x, Q3x, Q4x, Q5x, Q6x, Q7x, Q8x, Q9x, Q0x, Qax, Qbx] at hb75
   refine dygn 9 ha75 rfl rfl rfl rfl rfl (m5.to ⟨il, trivial⟩) (fun W => y_fieldAddr ha75 (off := 2) rfl Try.underlying25 rfl (s := 0) (by kernel_rfl) rfl) ?_
   clear ha75 a74; intro a130 ha130
   refine dhg 10 ha130 rfl rfl rfl rfl rfl (m5.to ⟨il, trivial⟩) (fun W hW => y_loadB1 ha130 hW (i := 20) rfl rfl rfl Try.underlying3 rfl) ?_
   clear ha130 a130; intro a131 ha131
   refine dygn 11 ha131 rfl rfl rfl rfl rfl (m5.to ⟨il, trivial⟩) (fun W => y_lss ha131 rfl rfl) ?_
   clear ha131 a131; intro a132 ha132
   refine dyn 12 ha132 rfl rfl (m5.to ⟨il, trivial⟩) (fun W => y_pickF ha132 rfl rfl) ?_
   clear ha132 a132; intro a133 ha133
   refine dyn 13 ha133 rfl rfl (m5.to ⟨il, trivial⟩) (fun W => y_move ha133 rfl) ?_
   clear ha133 a133; intro a134 ha134
   refine bool_cases ha134 (t := 17) rfl (fun hb135 ha135 => ?_) (fun hb135 ha135 => ?_)
   ·
    clear ha134
    try simp only [Q1x, Q2x, Q3x, Q4x, Q5x, Q6x, Q7x, Q8x, Q9x, Q0x, Qax, Qbx] at hb135
    refine dskipn 14 ha135 rfl rfl rfl rfl rfl (m5.to ⟨il, trivial⟩) ?_
    clear ha135 a134; intro a136 ha136
    refine dskipn 15 ha136 rfl rfl rfl rfl rfl (m5.to ⟨il, trivial⟩) ?_
    clear ha136 a136; intro a137 ha137
    refine dskipn 16 ha137 rfl rfl rfl rfl rfl (m5.to ⟨il, trivial⟩) ?_
    clear ha137 a137; intro a138 ha138
    refine dyn 17 ha138 rfl rfl (m5.to ⟨il, trivial⟩) (fun W => y_pickT ha138 rfl rfl) ?_
    clear ha138 a138; intro a139 ha139
    refine dyn 18 ha139 rfl rfl (m5.to ⟨il, trivial⟩) (fun W => y_move ha139 rfl) ?_
    clear ha139 a139; intro a140 ha140
    refine dskipn 19 ha140 rfl rfl rfl rfl rfl (m5.to ⟨il, trivial⟩) ?_
    clear ha140 a140; intro a141 ha141
    refine dskipn 20 ha141 rfl rfl rfl rfl rfl (m5.to ⟨il, trivial⟩) ?_
    clear ha141 a141; intro a142 ha142
    refine dskipn 21 ha142 rfl rfl rfl rfl rfl (m5.to ⟨il, trivial⟩) ?_
    clear ha142 a142; intro a143 ha143
    refine dyn 22 ha143 rfl rfl (m5.to ⟨il, trivial⟩) (fun W => y_pickT ha143 rfl rfl) ?_
    clear ha143 a143; intro a144 ha144
    refine dyn 23 ha144 rfl rfl (m5.to ⟨il, trivial⟩) (fun W => y_move ha144 rfl) ?_
    clear ha144 a144; intro a145 ha145
    refine dskipn 24 ha145 rfl rfl rfl rfl rfl (m5.to ⟨il, trivial⟩) ?_
    clear ha145 a145; intro a146 ha146
    refine dskipn 25 ha146 rfl rfl rfl rfl rfl (m5.to ⟨il, trivial⟩) ?_
    clear ha146 a146; intro a147 ha147
    refine dskipn 26 ha147 rfl rfl rfl rfl rfl (m5.to ⟨il, trivial⟩) ?_
    clear ha147 a147; intro a148 ha148
    refine dyn 27 ha148 rfl rfl (m5.to ⟨il, trivial⟩) (fun W => y_pickT ha148 rfl rfl) ?_
    clear ha148 a148; intro a149 ha149
    refine dyn 28 ha149 rfl rfl (m5.to ⟨il, trivial⟩) (fun W => y_move ha149 rfl) ?_
    clear ha149 a149; intro a150 ha150
    refine dskipn 29 ha150 rfl rfl rfl rfl rfl (m5.to ⟨il, trivial⟩) ?_
    clear ha150 a150; intro a151 ha151
    refine dskipn 30 ha151 rfl rfl rfl rfl rfl (m5.to ⟨il, trivial⟩) ?_
    clear ha151 a151; intro a152 ha152
    refine dskipn 31 ha152 rfl rfl rfl rfl rfl (m5.to ⟨il, trivial⟩) ?_
    clear ha152 a152; intro a153 ha153
    refine dyn 32 ha153 rfl rfl (m5.to ⟨il, trivial⟩) (fun W => y_pickT ha153 rfl rfl) ?_
    clear ha153 a153; intro a154 ha154
    refine dyn 33 ha154 rfl rfl (m5.to ⟨il, trivial⟩) (fun W => y_move ha154 rfl) ?_
    clear ha154 a154; intro a155 ha155
    refine dskipn 34 ha155 rfl rfl rfl rfl rfl (m5.to ⟨il, trivial⟩) ?_
    clear ha155 a155; intro a156 ha156
    refine dskipn 35 ha156 rfl rfl rfl rfl rfl (m5.to ⟨il, trivial⟩) ?_
    clear ha156 a156; intro a157 ha157
    refine dskipn 36 ha157 rfl rfl rfl rfl rfl (m5.to ⟨il, trivial⟩) ?_
    clear ha157 a157; intro a158 ha158
    refine dskipn 37 ha158 rfl rfl rfl rfl rfl (m5.to ⟨il, trivial⟩) ?_
    clear ha158 a158; intro a159 ha159
    refine dskipn 38 ha159 rfl rfl rfl rfl rfl (m5.to ⟨il, trivial⟩) ?_
    clear ha159 a159; intro a160 ha160
    refine dyn 39 ha160 rfl rfl (m5.to ⟨il, trivial⟩) (fun W => y_pickT ha160 rfl rfl) ?_
    clear ha160 a160; intro a161 ha161
    refine dyn 40 ha161 rfl rfl (m5.to ⟨il, trivial⟩) (fun W => y_move ha161 rfl) ?_
    clear ha161 a161; intro a162 ha162
    refine dskipn 41 ha162 rfl rfl rfl rfl rfl (m5.to ⟨il, trivial⟩) ?_
    clear ha162 a162; intro a163 ha163
    refine dskipn 42 ha163 rfl rfl rfl rfl rfl (m5.to ⟨il, trivial⟩) ?_
    clear ha163 a163; intro a164 ha164
    refine dskipn 43 ha164 rfl rfl rfl rfl rfl (m5.to ⟨il, trivial⟩) ?_
    clear ha164 a164; intro a165 ha165
    refine dskipn 44 ha165 rfl rfl rfl rfl rfl (m5.to ⟨il, trivial⟩) ?_
    clear ha165 a165; intro a166 ha166
    refine dskipn 45 ha166 rfl rfl rfl rfl rfl (m5.to ⟨il, trivial⟩) ?_
    clear ha166 a166; intro a167 ha167
    refine dskipn 46 ha167 rfl rfl rfl rfl rfl (m5.to ⟨il, trivial⟩) ?_
    clear ha167 a167; intro a168 ha168
    refine dskipn 47 ha168 rfl rfl rfl rfl rfl (m5.to ⟨il, trivial⟩) ?_
    clear ha168 a168; intro a169 ha169
    refine dskipn 48 ha169 rfl rfl rfl rfl rfl (m5.to ⟨il, trivial⟩) ?_
    clear ha169 a169; intro a170 ha170
    refine dskipn 49 ha170 rfl rfl rfl rfl rfl (m5.to ⟨il, trivial⟩) ?_
    clear ha170 a170; intro a171 ha171
    refine dyn 50 ha171 rfl rfl (m5.to ⟨il, trivial⟩) (fun W => y_pickT ha171 rfl rfl) ?_
    clear ha171 a171; intro a172 ha172
    refine dyn 51 ha172 rfl rfl (m5.to ⟨il, trivial⟩) (fun W => y_move ha172 rfl) ?_
    clear ha172 a172; intro a173 ha173
    refine dskipn 52 ha173 rfl rfl rfl rfl rfl (m5.to ⟨il, trivial⟩) ?_
    clear ha173 a173; intro a174 ha174
    refine dskipn 53 ha174 rfl rfl rfl rfl rfl (m5.to ⟨il, trivial⟩) ?_
    clear ha174 a174; intro a175 ha175
    refine dskipn 54 ha175 rfl rfl rfl rfl rfl (m5.to ⟨il, trivial⟩) ?_
    clear ha175 a175; intro a176 ha176
    refine dyn 55 ha176 rfl rfl (m5.to ⟨il, trivial⟩) (fun W => y_pickT ha176 rfl rfl) ?_
    clear ha176 a176; intro a177 ha177
    refine dyn 56 ha177 rfl rfl (m5.to ⟨il, trivial⟩) (fun W => y_move ha177 rfl) ?_
    clear ha177 a177; intro a178 ha178
    refine dskipn 57 ha178 rfl rfl rfl rfl rfl (m5.to ⟨il, trivial⟩) ?_
    clear ha178 a178; intro a179 ha179
    refine dskipn 58 ha179 rfl rfl rfl rfl rfl (m5.to ⟨il, trivial⟩) ?_
    clear ha179 a179; intro a180 ha180
    refine dskipn 59 ha180 rfl rfl rfl rfl rfl (m5.to ⟨il, trivial⟩) ?_
    clear ha180 a180; intro a181 ha181
    refine dyn 60 ha181 rfl rfl (m5.to ⟨il, trivial⟩) (fun W => y_pickT ha181 rfl rfl) ?_
    clear ha181 a181; intro a182 ha182
    refine wpAnyE_done (by kernel_rfl) ?_ _
    refine hK2 _ _ ?_; clear hK2; try clear K2
    refine wp_cond_true (ha182.ev (x := .tmp 64) rfl) ?_
    refine wp_seq_k (fun K5 hK5 => ?_)
    have ha183 : Has 86 [(1, _), (2, _)] a182 := ha182.only [1, 2]; clear ha182
    refine wp_region_lit ?_
    refine st_y ha183 rfl (y_assign ha183 rfl) ?_
    clear ha183 a182; intro a184 ha184
    refine wpList_nil ?_
    refine hK5 _ _ ?_; clear hK5; try clear K5
    refine wp_ret ?_
    try dsimp only [Exit.then, Exit.inBlock]
    refine (ret1 (fn := Try.f38) ha184 rfl rfl ?_)
    exact ⟨false, rfl, iff_of_false (by simp) (fun h => by obtain ⟨h1, h2, h3, h4, h5, h6, h7, h8, ⟨h9, h10⟩, h11, h12⟩ := h; first | omega | (have h13 := h9 _ (getD_mem hk); omega)), m5.below⟩
   ·
    clear ha134
    try simp only [Q1x, Q2x, Q3x, Q4x, Q5x, Q6x, Q7x, Q8x, Q9x, Q0x, Qax, Qbx] at hb135
    refine dygn 14 ha135 rfl rfl rfl rfl rfl (m5.to ⟨il, trivial⟩) (fun W => y_fieldAddr ha135 (off := 2) rfl Try.underlying25 rfl (s := 0) (by kernel_rfl) rfl) ?_
    clear ha135 a134; intro a185 ha185
    refine dhg 15 ha185 rfl rfl rfl rfl rfl (m5.to ⟨il, trivial⟩) (fun W hW => y_loadB1 ha185 hW (i := 20) rfl rfl rfl Try.underlying3 rfl) ?_
    clear ha185 a185; intro a186 ha186
    refine dygn 16 ha186 rfl rfl rfl rfl rfl (m5.to ⟨il, trivial⟩) (fun W => y_gtr ha186 rfl rfl) ?_
    clear ha186 a186; intro a187 ha187
    refine dyn 17 ha187 rfl rfl (m5.to ⟨il, trivial⟩) (fun W => y_pickF ha187 rfl rfl) ?_
    clear ha187 a187; intro a188 ha188
    refine dyn 18 ha188 rfl rfl (m5.to ⟨il, trivial⟩) (fun W => y_move ha188 rfl) ?_
    clear ha188 a188; intro a189 ha189
    refine bool_cases ha189 (t := 22) rfl (fun hb190 ha190 => ?_) (fun hb190 ha190 => ?_)
    ·
     clear ha189
     try simp only [Q1x, Q2x, Q3x, Q4x, Q5x, Q6x, Q7x, Q8x, Q9x, Q0x, Qax, Qbx] at hb190
     refine dskipn 19 ha190 rfl rfl rfl rfl rfl (m5.to ⟨il, trivial⟩) ?_
     clear ha190 a189; intro a191 ha191
     refine dskipn 20 ha191 rfl rfl rfl rfl rfl (m5.to ⟨il, trivial⟩) ?_
     clear ha191 a191; intro a192 ha192
     refine dskipn 21 ha192 rfl rfl rfl rfl rfl (m5.to ⟨il, trivial⟩) ?_
     clear ha192 a192; intro a193 ha193
     refine dyn 22 ha193 rfl rfl (m5.to ⟨il, trivial⟩) (fun W => y_pickT ha193 rfl rfl) ?_
     clear ha193 a193; intro a194 ha194
     refine dyn 23 ha194 rfl rfl (m5.to ⟨il, trivial⟩) (fun W => y_move ha194 rfl) ?_
     clear ha194 a194; intro a195 ha195
     refine dskipn 24 ha195 rfl rfl rfl rfl rfl (m5.to ⟨il, trivial⟩) ?_
     clear ha195 a195; intro a196 ha196
     refine dskipn 25 ha196 rfl rfl rfl rfl rfl (m5.to ⟨il, trivial⟩) ?_
     clear ha196 a196; intro a197 ha197
     refine dskipn 26 ha197 rfl rfl rfl rfl rfl (m5.to ⟨il, trivial⟩) ?_
     clear ha197 a197; intro a198 ha198
     refine dyn 27 ha198 rfl rfl (m5.to ⟨il, trivial⟩) (fun W => y_pickT ha198 rfl rfl) ?_
     clear ha198 a198; intro a199 ha199
     refine dyn 28 ha199 rfl rfl (m5.to ⟨il, trivial⟩) (fun W => y_move ha199 rfl) ?_
     clear ha199 a199; intro a200 ha200
     refine dskipn 29 ha200 rfl rfl rfl rfl rfl (m5.to ⟨il, trivial⟩) ?_
     clear ha200 a200; intro a201 ha201
     refine dskipn 30 ha201 rfl rfl rfl rfl rfl (m5.to ⟨il, trivial⟩) ?_
     clear ha201 a201; intro a202 ha202
     refine dskipn 31 ha202 rfl rfl rfl rfl rfl (m5.to ⟨il, trivial⟩) ?_
     clear ha202 a202; intro a203 ha203
     refine dyn 32 ha203 rfl rfl (m5.to ⟨il, trivial⟩) (fun W => y_pickT ha203 rfl rfl) ?_
     clear ha203 a203; intro a204 ha204
     refine dyn 33 ha204 rfl rfl (m5.to ⟨il, trivial⟩) (fun W => y_move ha204 rfl) ?_
     clear ha204 a204; intro a205 ha205
     refine dskipn 34 ha205 rfl rfl rfl rfl rfl (m5.to ⟨il, trivial⟩) ?_
     clear ha205 a205; intro a206 ha206
     refine dskipn 35 ha206 rfl rfl rfl rfl rfl (m5.to ⟨il, trivial⟩) ?_
     clear ha206 a206; intro a207 ha207
     refine dskipn 36 ha207 rfl rfl rfl rfl rfl (m5.to ⟨il, trivial⟩) ?_
     clear ha207 a207; intro a208 ha208
     refine dskipn 37 ha208 rfl rfl rfl rfl rfl (m5.to ⟨il, trivial⟩) ?_
     clear ha208 a208; intro a209 ha209
     refine dskipn 38 ha209 rfl rfl rfl rfl rfl (m5.to ⟨il, trivial⟩) ?_
     clear ha209 a209; intro a210 ha210
     refine dyn 39 ha210 rfl rfl (m5.to ⟨il, trivial⟩) (fun W => y_pickT ha210 rfl rfl) ?_
     clear ha210 a210; intro a211 ha211
     refine dyn 40 ha211 rfl rfl (m5.to ⟨il, trivial⟩) (fun W => y_move ha211 rfl) ?_
     clear ha211 a211; intro a212 ha212
     refine dskipn 41 ha212 rfl rfl rfl rfl rfl (m5.to ⟨il, trivial⟩) ?_
     clear ha212 a212; intro a213 ha213
     refine dskipn 42 ha213 rfl rfl rfl rfl rfl (m5.to ⟨il, trivial⟩) ?_
     clear ha213 a213; intro a214 ha214
     refine dskipn 43 ha214 rfl rfl rfl rfl rfl (m5.to ⟨il, trivial⟩) ?_
     clear ha214 a214; intro a215 ha215
     refine dskipn 44 ha215 rfl rfl rfl rfl rfl (m5.to ⟨il, trivial⟩) ?_
     clear ha215 a215; intro a216 ha216
     refine dskipn 45 ha216 rfl rfl rfl rfl rfl (m5.to ⟨il, trivial⟩) ?_
     clear ha216 a216; intro a217 ha217
     refine dskipn 46 ha217 rfl rfl rfl rfl rfl (m5.to ⟨il, trivial⟩) ?_
     clear ha217 a217; intro a218 ha218
     refine dskipn 47 ha218 rfl rfl rfl rfl rfl (m5.to ⟨il, trivial⟩) ?_
     clear ha218 a218; intro a219 ha219
     refine dskipn 48 ha219 rfl rfl rfl rfl rfl (m5.to ⟨il, trivial⟩) ?_
     clear ha219 a219; intro a220 ha220
     refine dskipn 49 ha220 rfl rfl rfl rfl rfl (m5.to ⟨il, trivial⟩) ?_
     clear ha220 a220; intro a221 ha221
     refine dyn 50 ha221 rfl rfl (m5.to ⟨il, trivial⟩) (fun W => y_pickT ha221 rfl rfl) ?_
     clear ha221 a221; intro a222 ha222
     refine dyn 51 ha222 rfl rfl (m5.to ⟨il, trivial⟩) (fun W => y_move ha222 rfl) ?_
     clear ha222 a222; intro a223 ha223
     refine dskipn 52 ha223 rfl rfl rfl rfl rfl (m5.to ⟨il, trivial⟩) ?_
     clear ha223 a223; intro a224 ha224
     refine dskipn 53 ha224 rfl rfl rfl rfl rfl (m5.to ⟨il, trivial⟩) ?_
     clear ha224 a224; intro a225 ha225
     refine dskipn 54 ha225 rfl rfl rfl rfl rfl (m5.to ⟨il, trivial⟩) ?_
     clear ha225 a225; intro a226 ha226
     refine dyn 55 ha226 rfl rfl (m5.to ⟨il, trivial⟩) (fun W => y_pickT ha226 rfl rfl) ?_
     clear ha226 a226; intro a227 ha227
     refine dyn 56 ha227 rfl rfl (m5.to ⟨il, trivial⟩) (fun W => y_move ha227 rfl) ?_
     clear ha227 a227; intro a228 ha228
     refine dskipn 57 ha228 rfl rfl rfl rfl rfl (m5.to ⟨il, trivial⟩) ?_
     clear ha228 a228; intro a229 ha229
     refine dskipn 58 ha229 rfl rfl rfl rfl rfl (m5.to ⟨il, trivial⟩) ?_
     clear ha229 a229; intro a230 ha230
     refine dskipn 59 ha230 rfl rfl rfl rfl rfl (m5.to ⟨il, trivial⟩) ?_
     clear ha230 a230; intro a231 ha231
     refine dyn 60 ha231 rfl rfl (m5.to ⟨il, trivial⟩) (fun W => y_pickT ha231 rfl rfl) ?_
     clear ha231 a231; intro a232 ha232
     refine wpAnyE_done (by kernel_rfl) ?_ _
     refine hK2 _ _ ?_; clear hK2; try clear K2
     refine wp_cond_true (ha232.ev (x := .tmp 64) rfl) ?_
     refine wp_seq_k (fun K6 hK6 => ?_)
     have ha233 : Has 86 [(1, _), (2, _)] a232 := ha232.only [1, 2]; clear ha232
     refine wp_region_lit ?_
     refine st_y ha233 rfl (y_assign ha233 rfl) ?_
     clear ha233 a232; intro a234 ha234
     refine wpList_nil ?_
     refine hK6 _ _ ?_; clear hK6; try clear K6
     refine wp_ret ?_
     try dsimp only [Exit.then, Exit.inBlock]
     refine (ret1 (fn := Try.f38) ha234 rfl rfl ?_)
     exact ⟨false, rfl, iff_of_false (by simp) (fun h => by obtain ⟨h1, h2, h3, h4, h5, h6, h7, h8, ⟨h9, h10⟩, h11, h12⟩ := h; first | omega | (have h13 := h9 _ (getD_mem hk); omega)), m5.below⟩
    ·
     clear ha189
     try simp only [Q1x, Q2x, Q3x, Q4x, Q5x, Q6x, Q7x, Q8x, Q9x, Q0x, Qax, Qbx] at hb190
     refine dygn 19 ha190 rfl rfl rfl rfl rfl (m5.to ⟨il, trivial⟩) (fun W => y_fieldAddr ha190 (off := 3) rfl Try.underlying25 rfl (s := 0) (by kernel_rfl) rfl) ?_
     clear ha190 a189; intro a235 ha235
     refine dhg 20 ha235 rfl rfl rfl rfl rfl (m5.to ⟨il, trivial⟩) (fun W hW => y_loadB1 ha235 hW (i := 20) rfl rfl rfl Try.underlying3 rfl) ?_
     clear ha235 a235; intro a236 ha236
     refine dygn 21 ha236 rfl rfl rfl rfl rfl (m5.to ⟨il, trivial⟩) (fun W => y_lss ha236 rfl rfl) ?_
     clear ha236 a236; intro a237 ha237
     refine dyn 22 ha237 rfl rfl (m5.to ⟨il, trivial⟩) (fun W => y_pickF ha237 rfl rfl) ?_
     clear ha237 a237; intro a238 ha238
     refine dyn 23 ha238 rfl rfl (m5.to ⟨il, trivial⟩) (fun W => y_move ha238 rfl) ?_
     clear ha238 a238; intro a239 ha239
     refine bool_cases ha239 (t := 27) rfl (fun hb240 ha240 => ?_) (fun hb240 ha240 => ?_)
     ·
      clear ha239
      try simp only [Q1x, Q2x, Q3x, Q4x, Q5x, Q6x, Q7x, Q8x, Q9x, Q0x, Qax, Qbx] at hb240
      refine dskipn 24 ha240 rfl rfl rfl rfl rfl (m5.to ⟨il, trivial⟩) ?_
      clear ha240 a239; intro a241 ha241
      refine dskipn 25 ha241 rfl rfl rfl rfl rfl (m5.to ⟨il, trivial⟩) ?_
      clear ha241 a241; intro a242 ha242
      refine dskipn 26 ha242 rfl rfl rfl rfl rfl (m5.to ⟨il, trivial⟩) ?_
      clear ha242 a242; intro a243 ha243
      refine dyn 27 ha243 rfl rfl (m5.to ⟨il, trivial⟩) (fun W => y_pickT ha243 rfl rfl) ?_
      clear ha243 a243; intro a244 ha244
      refine dyn 28 ha244 rfl rfl (m5.to ⟨il, trivial⟩) (fun W => y_move ha244 rfl) ?_
      clear ha244 a244; intro a245 ha245
      refine dskipn 29 ha245 rfl rfl rfl rfl rfl (m5.to ⟨il, trivial⟩) ?_
      clear ha245 a245; intro a246 ha246
      refine dskipn 30 ha246 rfl rfl rfl rfl rfl (m5.to ⟨il, trivial⟩) ?_
      clear ha246 a246; intro a247 ha247
      refine dskipn 31 ha247 rfl rfl rfl rfl rfl (m5.to ⟨il, trivial⟩) ?_
      clear ha247 a247; intro a248 ha248
      refine dyn 32 ha248 rfl rfl (m5.to ⟨il, trivial⟩) (fun W => y_pickT ha248 rfl rfl) ?_
      clear ha248 a248; intro a249 ha249
      refine dyn 33 ha249 rfl rfl (m5.to ⟨il, trivial⟩) (fun W => y_move ha249 rfl) ?_
      clear ha249 a249; intro a250 ha250
      refine dskipn 34 ha250 rfl rfl rfl rfl rfl (m5.to ⟨il, trivial⟩) ?_
      clear ha250 a250; intro a251 ha251
      refine dskipn 35 ha251 rfl rfl rfl rfl rfl (m5.to ⟨il, trivial⟩) ?_
      clear ha251 a251; intro a252 ha252
      refine dskipn 36 ha252 rfl rfl rfl rfl rfl (m5.to ⟨il, trivial⟩) ?_
      clear ha252 a252; intro a253 ha253
      refine dskipn 37 ha253 rfl rfl rfl rfl rfl (m5.to ⟨il, trivial⟩) ?_
      clear ha253 a253; intro a254 ha254
      refine dskipn 38 ha254 rfl rfl rfl rfl rfl (m5.to ⟨il, trivial⟩) ?_
      clear ha254 a254; intro a255 ha255
      refine dyn 39 ha255 rfl rfl (m5.to ⟨il, trivial⟩) (fun W => y_pickT ha255 rfl rfl) ?_
      clear ha255 a255; intro a256 ha256
      refine dyn 40 ha256 rfl rfl (m5.to ⟨il, trivial⟩) (fun W => y_move ha256 rfl) ?_
      clear ha256 a256; intro a257 ha257
      refine dskipn 41 ha257 rfl rfl rfl rfl rfl (m5.to ⟨il, trivial⟩) ?_
      clear ha257 a257; intro a258 ha258
      refine dskipn 42 ha258 rfl rfl rfl rfl rfl (m5.to ⟨il, trivial⟩) ?_
      clear ha258 a258; intro a259 ha259
      refine dskipn 43 ha259 rfl rfl rfl rfl rfl (m5.to ⟨il, trivial⟩) ?_
      clear ha259 a259; intro a260 ha260
      refine dskipn 44 ha260 rfl rfl rfl rfl rfl (m5.to ⟨il, trivial⟩) ?_
      clear ha260 a260; intro a261 ha261
      refine dskipn 45 ha261 rfl rfl rfl rfl rfl (m5.to ⟨il, trivial⟩) ?_
      clear ha261 a261; intro a262 ha262
      refine dskipn 46 ha262 rfl rfl rfl rfl rfl (m5.to ⟨il, trivial⟩) ?_
      clear ha262 a262; intro a263 ha263
      refine dskipn 47 ha263 rfl rfl rfl rfl rfl (m5.to ⟨il, trivial⟩) ?_
      clear ha263 a263; intro a264 ha264
      refine dskipn 48 ha264 rfl rfl rfl rfl rfl (m5.to ⟨il, trivial⟩) ?_
      clear ha264 a264; intro a265 ha265
      refine dskipn 49 ha265 rfl rfl rfl rfl rfl (m5.to ⟨il, trivial⟩) ?_
      clear ha265 a265; intro a266 ha266
      refine dyn 50 ha266 rfl rfl (m5.to ⟨il, trivial⟩) (fun W => y_pickT ha266 rfl rfl) ?_
      clear ha266 a266; intro a267 ha267
      refine dyn 51 ha267 rfl rfl (m5.to ⟨il, trivial⟩) (fun W => y_move ha267 rfl) ?_
      clear ha267 a267; intro a268 ha268
      refine dskipn 52 ha268 rfl rfl rfl rfl rfl (m5.to ⟨il, trivial⟩) ?_
      clear ha268 a268; intro a269 ha269
      refine dskipn 53 ha269 rfl rfl rfl rfl rfl (m5.to ⟨il, trivial⟩) ?_
      clear ha269 a269; intro a270 ha270
      refine dskipn 54 ha270 rfl rfl rfl rfl rfl (m5.to ⟨il, trivial⟩) ?_
      clear ha270 a270; intro a271 ha271
      refine dyn 55 ha271 rfl rfl (m5.to ⟨il, trivial⟩) (fun W => y_pickT ha271 rfl rfl) ?_
      clear ha271 a271; intro a272 ha272
      refine dyn 56 ha272 rfl rfl (m5.to ⟨il, trivial⟩) (fun W => y_move ha272 rfl) ?_
      clear ha272 a272; intro a273 ha273
      refine dskipn 57 ha273 rfl rfl rfl rfl rfl (m5.to ⟨il, trivial⟩) ?_
      clear ha273 a273; intro a274 ha274
      refine dskipn 58 ha274 rfl rfl rfl rfl rfl (m5.to ⟨il, trivial⟩) ?_
      clear ha274 a274; intro a275 ha275
      refine dskipn 59 ha275 rfl rfl rfl rfl rfl (m5.to ⟨il, trivial⟩) ?_
      clear ha275 a275; intro a276 ha276
      refine dyn 60 ha276 rfl rfl (m5.to ⟨il, trivial⟩) (fun W => y_pickT ha276 rfl rfl) ?_
      clear ha276 a276; intro a277 ha277
      refine wpAnyE_done (by kernel_rfl) ?_ _
      refine hK2 _ _ ?_; clear hK2; try clear K2
      refine wp_cond_true (ha277.ev (x := .tmp 64) rfl) ?_
      refine wp_seq_k (fun K7 hK7 => ?_)
      have ha278 : Has 86 [(1, _), (2, _)] a277 := ha277.only [1, 2]; clear ha277
      refine wp_region_lit ?_
      refine st_y ha278 rfl (y_assign ha278 rfl) ?_
      clear ha278 a277; intro a279 ha279
      refine wpList_nil ?_
      refine hK7 _ _ ?_; clear hK7; try clear K7
      refine wp_ret ?_
      try dsimp only [Exit.then, Exit.inBlock]
      refine (ret1 (fn := Try.f38) ha279 rfl rfl ?_)
      exact ⟨false, rfl, iff_of_false (by simp) (fun h => by obtain ⟨h1, h2, h3, h4, h5, h6, h7, h8, ⟨h9, h10⟩, h11, h12⟩ := h; first | omega | (have h13 := h9 _ (getD_mem hk); omega)), m5.below⟩
     ·
      clear ha239
      try simp only [Q1x, Q2x, Q3x, Q4x, Q5x, Q6x, Q7x, Q8x, Q9x, Q0x, Qax, Qbx] at hb240
      refine dygn 24 ha240 rfl rfl rfl rfl rfl (m5.to ⟨il, trivial⟩) (fun W => y_fieldAddr ha240 (off := 3) rfl Try.underlying25 rfl (s := 0) (by kernel_rfl) rfl) ?_
      clear ha240 a239; intro a280 ha280
      refine dhg 25 ha280 rfl rfl rfl rfl rfl (m5.to ⟨il, trivial⟩) (fun W hW => y_loadB1 ha280 hW (i := 20) rfl rfl rfl Try.underlying3 rfl) ?_
      clear ha280 a280; intro a281 ha281
      refine dygn 26 ha281 rfl rfl rfl rfl rfl (m5.to ⟨il, trivial⟩) (fun W => y_gtr ha281 rfl rfl) ?_
      clear ha281 a281; intro a282 ha282
      refine dyn 27 ha282 rfl rfl (m5.to ⟨il, trivial⟩) (fun W => y_pickF ha282 rfl rfl) ?_
      clear ha282 a282; intro a283 ha283
      refine dyn 28 ha283 rfl rfl (m5.to ⟨il, trivial⟩) (fun W => y_move ha283 rfl) ?_
      clear ha283 a283; intro a284 ha284
      refine bool_cases ha284 (t := 32) rfl (fun hb285 ha285 => ?_) (fun hb285 ha285 => ?_)
      ·
       clear ha284
       try simp only [Q1x, Q2x, Q3x, Q4x, Q5x, Q6x, Q7x, Q8x, Q9x, Q0x, Qax, Qbx] at hb285
       refine dskipn 29 ha285 rfl rfl rfl rfl rfl (m5.to ⟨il, trivial⟩) ?_
       clear ha285 a284; intro a286 ha286
       refine dskipn 30 ha286 rfl rfl rfl rfl rfl (m5.to ⟨il, trivial⟩) ?_
       clear ha286 a286; intro a287 ha287
       refine dskipn 31 ha287 rfl rfl rfl rfl rfl (m5.to ⟨il, trivial⟩) ?_
       clear ha287 a287; intro a288 ha288
       refine dyn 32 ha288 rfl rfl (m5.to ⟨il, trivial⟩) (fun W => y_pickT ha288 rfl rfl) ?_
       clear ha288 a288; intro a289 ha289
       refine dyn 33 ha289 rfl rfl (m5.to ⟨il, trivial⟩) (fun W => y_move ha289 rfl) ?_
       clear ha289 a289; intro a290 ha290
       refine dskipn 34 ha290 rfl rfl rfl rfl rfl (m5.to ⟨il, trivial⟩) ?_
       clear ha290 a290; intro a291 ha291
       refine dskipn 35 ha291 rfl rfl rfl rfl rfl (m5.to ⟨il, trivial⟩) ?_
       clear ha291 a291; intro a292 ha292
       refine dskipn 36 ha292 rfl rfl rfl rfl rfl (m5.to ⟨il, trivial⟩) ?_
       clear ha292 a292; intro a293 ha293
       refine dskipn 37 ha293 rfl rfl rfl rfl rfl (m5.to ⟨il, trivial⟩) ?_
       clear ha293 a293; intro a294 ha294
       refine dskipn 38 ha294 rfl rfl rfl rfl rfl (m5.to ⟨il, trivial⟩) ?_
       clear ha294 a294; intro a295 ha295
       refine dyn 39 ha295 rfl rfl (m5.to ⟨il, trivial⟩) (fun W => y_pickT ha295 rfl rfl) ?_
       clear ha295 a295; intro a296 ha296
       refine dyn 40 ha296 rfl rfl (m5.to ⟨il, trivial⟩) (fun W => y_move ha296 rfl) ?_
       clear ha296 a296; intro a297 ha297
       refine dskipn 41 ha297 rfl rfl rfl rfl rfl (m5.to ⟨il, trivial⟩) ?_
       clear ha297 a297; intro a298 ha298
       refine dskipn 42 ha298 rfl rfl rfl rfl rfl (m5.to ⟨il, trivial⟩) ?_
       clear ha298 a298; intro a299 ha299
       refine dskipn 43 ha299 rfl rfl rfl rfl rfl (m5.to ⟨il, trivial⟩) ?_
       clear ha299 a299; intro a300 ha300
       refine dskipn 44 ha300 rfl rfl rfl rfl rfl (m5.to ⟨il, trivial⟩) ?_
       clear ha300 a300; intro a301 ha301
       refine dskipn 45 ha301 rfl rfl rfl rfl rfl (m5.to ⟨il, trivial⟩) ?_
       clear ha301 a301; intro a302 ha302
       refine dskipn 46 ha302 rfl rfl rfl rfl rfl (m5.to ⟨il, trivial⟩) ?_
       clear ha302 a302; intro a303 ha303
       refine dskipn 47 ha303 rfl rfl rfl rfl rfl (m5.to ⟨il, trivial⟩) ?_
       clear ha303 a303; intro a304 ha304
       refine dskipn 48 ha304 rfl rfl rfl rfl rfl (m5.to ⟨il, trivial⟩) ?_
       clear ha304 a304; intro a305 ha305
       refine dskipn 49 ha305 rfl rfl rfl rfl rfl (m5.to ⟨il, trivial⟩) ?_
       clear ha305 a305; intro a306 ha306
       refine dyn 50 ha306 rfl rfl (m5.to ⟨il, trivial⟩) (fun W => y_pickT ha306 rfl rfl) ?_
       clear ha306 a306; intro a307 ha307
       refine dyn 51 ha307 rfl rfl (m5.to ⟨il, trivial⟩) (fun W => y_move ha307 rfl) ?_
       clear ha307 a307; intro a308 ha308
       refine dskipn 52 ha308 rfl rfl rfl rfl rfl (m5.to ⟨il, trivial⟩) ?_
       clear ha308 a308; intro a309 ha309
       refine dskipn 53 ha309 rfl rfl rfl rfl rfl (m5.to ⟨il, trivial⟩) ?_
       clear ha309 a309; intro a310 ha310
       refine dskipn 54 ha310 rfl rfl rfl rfl rfl (m5.to ⟨il, trivial⟩) ?_
       clear ha310 a310; intro a311 ha311
       refine dyn 55 ha311 rfl rfl (m5.to ⟨il, trivial⟩) (fun W => y_pickT ha311 rfl rfl) ?_
       clear ha311 a311; intro a312 ha312
       refine dyn 56 ha312 rfl rfl (m5.to ⟨il, trivial⟩) (fun W => y_move ha312 rfl) ?_
       clear ha312 a312; intro a313 ha313
       refine dskipn 57 ha313 rfl rfl rfl rfl rfl (m5.to ⟨il, trivial⟩) ?_
       clear ha313 a313; intro a314 ha314
       refine dskipn 58 ha314 rfl rfl rfl rfl rfl (m5.to ⟨il, trivial⟩) ?_
       clear ha314 a314; intro a315 ha315
       refine dskipn 59 ha315 rfl rfl rfl rfl rfl (m5.to ⟨il, trivial⟩) ?_
       clear ha315 a315; intro a316 ha316
       refine dyn 60 ha316 rfl rfl (m5.to ⟨il, trivial⟩) (fun W => y_pickT ha316 rfl rfl) ?_
       clear ha316 a316; intro a317 ha317
       refine wpAnyE_done (by kernel_rfl) ?_ _
       refine hK2 _ _ ?_; clear hK2; try clear K2
       refine wp_cond_true (ha317.ev (x := .tmp 64) rfl) ?_
       refine wp_seq_k (fun K8 hK8 => ?_)
       have ha318 : Has 86 [(1, _), (2, _)] a317 := ha317.only [1, 2]; clear ha317
       refine wp_region_lit ?_
       refine st_y ha318 rfl (y_assign ha318 rfl) ?_
       clear ha318 a317; intro a319 ha319
       refine wpList_nil ?_
       refine hK8 _ _ ?_; clear hK8; try clear K8
       refine wp_ret ?_
       try dsimp only [Exit.then, Exit.inBlock]
       refine (ret1 (fn := Try.f38) ha319 rfl rfl ?_)
       exact ⟨false, rfl, iff_of_false (by simp) (fun h => by obtain ⟨h1, h2, h3, h4, h5, h6, h7, h8, ⟨h9, h10⟩, h11, h12⟩ := h; first | omega | (have h13 := h9 _ (getD_mem hk); omega)), m5.below⟩
      ·
       clear ha284
       try simp only [Q1x, Q2x, Q3x, Q4x, Q5x, Q6x, Q7x, Q8x, Q9x, Q0x, Qax, Qbx] at hb285
       refine dygn 29 ha285 rfl rfl rfl rfl rfl (m5.to ⟨il, trivial⟩) (fun W => y_fieldAddr ha285 (off := 4) rfl Try.underlying25 rfl (s := 0) (by kernel_rfl) rfl) ?_
       clear ha285 a284; intro a320 ha320
       refine dhg 30 ha320 rfl rfl rfl rfl rfl (m5.to ⟨il, trivial⟩) (fun W hW => y_loadB1 ha320 hW (i := 20) rfl rfl rfl Try.underlying3 rfl) ?_
       clear ha320 a320; intro a321 ha321
       refine dygn 31 ha321 rfl rfl rfl rfl rfl (m5.to ⟨il, trivial⟩) (fun W => y_lss ha321 rfl rfl) ?_
       clear ha321 a321; intro a322 ha322
       refine dyn 32 ha322 rfl rfl (m5.to ⟨il, trivial⟩) (fun W => y_pickF ha322 rfl rfl) ?_
       clear ha322 a322; intro a323 ha323
       refine dyn 33 ha323 rfl rfl (m5.to ⟨il, trivial⟩) (fun W => y_move ha323 rfl) ?_
       clear ha323 a323; intro a324 ha324
       refine bool_cases ha324 (t := 37) rfl (fun hb325 ha325 => ?_) (fun hb325 ha325 => ?_)
       ·
        clear ha324
        try simp only [Q1x, Q2x, Q3x, Q4x, Q5x, Q6x, Q7x, Q8x, Q9x, Q0x, Qax, Qbx] at hb325
        refine dskipn 34 ha325 rfl rfl rfl rfl rfl (m5.to ⟨il, trivial⟩) ?_
        clear ha325 a324; intro a326 ha326
        refine dskipn 35 ha326 rfl rfl rfl rfl rfl (m5.to ⟨il, trivial⟩) ?_
        clear ha326 a326; intro a327 ha327
        refine dskipn 36 ha327 rfl rfl rfl rfl rfl (m5.to ⟨il, trivial⟩) ?_
        clear ha327 a327; intro a328 ha328
        refine dskipn 37 ha328 rfl rfl rfl rfl rfl (m5.to ⟨il, trivial⟩) ?_
        clear ha328 a328; intro a329 ha329
        refine dskipn 38 ha329 rfl rfl rfl rfl rfl (m5.to ⟨il, trivial⟩) ?_
        clear ha329 a329; intro a330 ha330
        refine dyn 39 ha330 rfl rfl (m5.to ⟨il, trivial⟩) (fun W => y_pickT ha330 rfl rfl) ?_
        clear ha330 a330; intro a331 ha331
        refine dyn 40 ha331 rfl rfl (m5.to ⟨il, trivial⟩) (fun W => y_move ha331 rfl) ?_
        clear ha331 a331; intro a332 ha332
        refine dskipn 41 ha332 rfl rfl rfl rfl rfl (m5.to ⟨il, trivial⟩) ?_
        clear ha332 a332; intro a333 ha333
        refine dskipn 42 ha333 rfl rfl rfl rfl rfl (m5.to ⟨il, trivial⟩) ?_
        clear ha333 a333; intro a334 ha334
        refine dskipn 43 ha334 rfl rfl rfl rfl rfl (m5.to ⟨il, trivial⟩) ?_
        clear ha334 a334; intro a335 ha335
        refine dskipn 44 ha335 rfl rfl rfl rfl rfl (m5.to ⟨il, trivial⟩) ?_
        clear ha335 a335; intro a336 ha336
        refine dskipn 45 ha336 rfl rfl rfl rfl rfl (m5.to ⟨il, trivial⟩) ?_
        clear ha336 a336; intro a337 ha337
        refine dskipn 46 ha337 rfl rfl rfl rfl rfl (m5.to ⟨il, trivial⟩) ?_
        clear ha337 a337; intro a338 ha338
        refine dskipn 47 ha338 rfl rfl rfl rfl rfl (m5.to ⟨il, trivial⟩) ?_
        clear ha338 a338; intro a339 ha339
        refine dskipn 48 ha339 rfl rfl rfl rfl rfl (m5.to ⟨il, trivial⟩) ?_
        clear ha339 a339; intro a340 ha340
        refine dskipn 49 ha340 rfl rfl rfl rfl rfl (m5.to ⟨il, trivial⟩) ?_
        clear ha340 a340; intro a341 ha341
        refine dyn 50 ha341 rfl rfl (m5.to ⟨il, trivial⟩) (fun W => y_pickT ha341 rfl rfl) ?_
        clear ha341 a341; intro a342 ha342
        refine dyn 51 ha342 rfl rfl (m5.to ⟨il, trivial⟩) (fun W => y_move ha342 rfl) ?_
        clear ha342 a342; intro a343 ha343
        refine dskipn 52 ha343 rfl rfl rfl rfl rfl (m5.to ⟨il, trivial⟩) ?_
        clear ha343 a343; intro a344 ha344
        refine dskipn 53 ha344 rfl rfl rfl rfl rfl (m5.to ⟨il, trivial⟩) ?_
        clear ha344 a344; intro a345 ha345
        refine dskipn 54 ha345 rfl rfl rfl rfl rfl (m5.to ⟨il, trivial⟩) ?_
        clear ha345 a345; intro a346 ha346
        refine dyn 55 ha346 rfl rfl (m5.to ⟨il, trivial⟩) (fun W => y_pickT ha346 rfl rfl) ?_
        clear ha346 a346; intro a347 ha347
        refine dyn 56 ha347 rfl rfl (m5.to ⟨il, trivial⟩) (fun W => y_move ha347 rfl) ?_
        clear ha347 a347; intro a348 ha348
        refine dskipn 57 ha348 rfl rfl rfl rfl rfl (m5.to ⟨il, trivial⟩) ?_
        clear ha348 a348; intro a349 ha349
        refine dskipn 58 ha349 rfl rfl rfl rfl rfl (m5.to ⟨il, trivial⟩) ?_
        clear ha349 a349; intro a350 ha350
        refine dskipn 59 ha350 rfl rfl rfl rfl rfl (m5.to ⟨il, trivial⟩) ?_
        clear ha350 a350; intro a351 ha351
        refine dyn 60 ha351 rfl rfl (m5.to ⟨il, trivial⟩) (fun W => y_pickT ha351 rfl rfl) ?_
        clear ha351 a351; intro a352 ha352
        refine wpAnyE_done (by kernel_rfl) ?_ _
        refine hK2 _ _ ?_; clear hK2; try clear K2
        refine wp_cond_true (ha352.ev (x := .tmp 64) rfl) ?_
        refine wp_seq_k (fun K9 hK9 => ?_)
        have ha353 : Has 86 [(1, _), (2, _)] a352 := ha352.only [1, 2]; clear ha352
        refine wp_region_lit ?_
        refine st_y ha353 rfl (y_assign ha353 rfl) ?_
        clear ha353 a352; intro a354 ha354
        refine wpList_nil ?_
        refine hK9 _ _ ?_; clear hK9; try clear K9
        refine wp_ret ?_
        try dsimp only [Exit.then, Exit.inBlock]
        refine (ret1 (fn := Try.f38) ha354 rfl rfl ?_)
        exact ⟨false, rfl, iff_of_false (by simp) (fun h => by obtain ⟨h1, h2, h3, h4, h5, h6, h7, h8, ⟨h9, h10⟩, h11, h12⟩ := h; first | omega | (have h13 := h9 _ (getD_mem hk); omega)), m5.below⟩
       ·
        clear ha324
        try simp only [Q1x, Q2x, Q3x, Q4x, Q5x, Q6x, Q7x, Q8x, Q9x, Q0x, Qax, Qbx] at hb325
        refine dygn 34 ha325 rfl rfl rfl rfl rfl (m5.to ⟨il, trivial⟩) (fun W => y_fieldAddr ha325 (off := 4) rfl Try.underlying25 rfl (s := 0) (by kernel_rfl) rfl) ?_
        clear ha325 a324; intro a355 ha355
        refine dhg 35 ha355 rfl rfl rfl rfl rfl (m5.to ⟨il, trivial⟩) (fun W hW => y_loadB1 ha355 hW (i := 20) rfl rfl rfl Try.underlying3 rfl) ?_
        clear ha355 a355; intro a356 ha356
        refine dygn 36 ha356 rfl rfl rfl rfl rfl (m5.to ⟨il, trivial⟩) (fun W => y_fieldAddr ha356 (off := 2) rfl Try.underlying25 rfl (s := 0) (by kernel_rfl) rfl) ?_
        clear ha356 a356; intro a357 ha357
        refine dhg 37 ha357 rfl rfl rfl rfl rfl (m5.to ⟨il, trivial⟩) (fun W hW => y_loadB1 ha357 hW (i := 20) rfl rfl rfl Try.underlying3 rfl) ?_
        clear ha357 a357; intro a358 ha358
        refine dygn 38 ha358 rfl rfl rfl rfl rfl (m5.to ⟨il, trivial⟩) (fun W => y_gtr ha358 rfl rfl) ?_
        clear ha358 a358; intro a359 ha359
        refine dyn 39 ha359 rfl rfl (m5.to ⟨il, trivial⟩) (fun W => y_pickF ha359 rfl rfl) ?_
        clear ha359 a359; intro a360 ha360
        refine dyn 40 ha360 rfl rfl (m5.to ⟨il, trivial⟩) (fun W => y_move ha360 rfl) ?_
        clear ha360 a360; intro a361 ha361
        refine bool_cases ha361 (t := 44) rfl (fun hb362 ha362 => ?_) (fun hb362 ha362 => ?_)
        ·
         clear ha361
         try simp only [Q1x, Q2x, Q3x, Q4x, Q5x, Q6x, Q7x, Q8x, Q9x, Q0x, Qax, Qbx] at hb362
         refine dskipn 41 ha362 rfl rfl rfl rfl rfl (m5.to ⟨il, trivial⟩) ?_
         clear ha362 a361; intro a363 ha363
         refine dskipn 42 ha363 rfl rfl rfl rfl rfl (m5.to ⟨il, trivial⟩) ?_
         clear ha363 a363; intro a364 ha364
         refine dskipn 43 ha364 rfl rfl rfl rfl rfl (m5.to ⟨il, trivial⟩) ?_
         clear ha364 a364; intro a365 ha365
         refine dskipn 44 ha365 rfl rfl rfl rfl rfl (m5.to ⟨il, trivial⟩) ?_
         clear ha365 a365; intro a366 ha366
         refine dskipn 45 ha366 rfl rfl rfl rfl rfl (m5.to ⟨il, trivial⟩) ?_
         clear ha366 a366; intro a367 ha367
         refine dskipn 46 ha367 rfl rfl rfl rfl rfl (m5.to ⟨il, trivial⟩) ?_
         clear ha367 a367; intro a368 ha368
         refine dskipn 47 ha368 rfl rfl rfl rfl rfl (m5.to ⟨il, trivial⟩) ?_
         clear ha368 a368; intro a369 ha369
         refine dskipn 48 ha369 rfl rfl rfl rfl rfl (m5.to ⟨il, trivial⟩) ?_
         clear ha369 a369; intro a370 ha370
         refine dskipn 49 ha370 rfl rfl rfl rfl rfl (m5.to ⟨il, trivial⟩) ?_
         clear ha370 a370; intro a371 ha371
         refine dyn 50 ha371 rfl rfl (m5.to ⟨il, trivial⟩) (fun W => y_pickT ha371 rfl rfl) ?_
         clear ha371 a371; intro a372 ha372
         refine dyn 51 ha372 rfl rfl (m5.to ⟨il, trivial⟩) (fun W => y_move ha372 rfl) ?_
         clear ha372 a372; intro a373 ha373
         refine dskipn 52 ha373 rfl rfl rfl rfl rfl (m5.to ⟨il, trivial⟩) ?_
         clear ha373 a373; intro a374 ha374
         refine dskipn 53 ha374 rfl rfl rfl rfl rfl (m5.to ⟨il, trivial⟩) ?_
         clear ha374 a374; intro a375 ha375
         refine dskipn 54 ha375 rfl rfl rfl rfl rfl (m5.to ⟨il, trivial⟩) ?_
         clear ha375 a375; intro a376 ha376
         refine dyn 55 ha376 rfl rfl (m5.to ⟨il, trivial⟩) (fun W => y_pickT ha376 rfl rfl) ?_
         clear ha376 a376; intro a377 ha377
         refine dyn 56 ha377 rfl rfl (m5.to ⟨il, trivial⟩) (fun W => y_move ha377 rfl) ?_
         clear ha377 a377; intro a378 ha378
         refine dskipn 57 ha378 rfl rfl rfl rfl rfl (m5.to ⟨il, trivial⟩) ?_
         clear ha378 a378; intro a379 ha379
         refine dskipn 58 ha379 rfl rfl rfl rfl rfl (m5.to ⟨il, trivial⟩) ?_
         clear ha379 a379; intro a380 ha380
         refine dskipn 59 ha380 rfl rfl rfl rfl rfl (m5.to ⟨il, trivial⟩) ?_
         clear ha380 a380; intro a381 ha381
         refine dyn 60 ha381 rfl rfl (m5.to ⟨il, trivial⟩) (fun W => y_pickT ha381 rfl rfl) ?_
         clear ha381 a381; intro a382 ha382
         refine wpAnyE_done (by kernel_rfl) ?_ _
         refine hK2 _ _ ?_; clear hK2; try clear K2
         refine wp_cond_true (ha382.ev (x := .tmp 64) rfl) ?_
         refine wp_seq_k (fun K10 hK10 => ?_)
         have ha383 : Has 86 [(1, _), (2, _)] a382 := ha382.only [1, 2]; clear ha382
         refine wp_region_lit ?_
         refine st_y ha383 rfl (y_assign ha383 rfl) ?_
         clear ha383 a382; intro a384 ha384
         refine wpList_nil ?_
         refine hK10 _ _ ?_; clear hK10; try clear K10
         refine wp_ret ?_
         try dsimp only [Exit.then, Exit.inBlock]
         refine (ret1 (fn := Try.f38) ha384 rfl rfl ?_)
         exact ⟨false, rfl, iff_of_false (by simp) (fun h => by obtain ⟨h1, h2, h3, h4, h5, h6, h7, h8, ⟨h9, h10⟩, h11, h12⟩ := h; first | omega | (have h13 := h9 _ (getD_mem hk); omega)), m5.below⟩
        ·
         clear ha361
         try simp only [Q1x, Q2x, Q3x, Q4x, Q5x, Q6x, Q7x, Q8x, Q9x, Q0x, Qax, Qbx] at hb362
         refine dygn 41 ha362 rfl rfl rfl rfl rfl (m5.to ⟨il, trivial⟩) (fun W => y_fieldAddr ha362 (off := 5) rfl Try.underlying25 rfl (s := 0) (by kernel_rfl) rfl) ?_
         clear ha362 a361; intro a385 ha385
         refine dhg 42 ha385 rfl rfl rfl rfl rfl (m5.to ⟨il, trivial⟩) (fun W hW => y_loadB1 ha385 hW (i := 20) rfl rfl rfl Try.underlying22 rfl) ?_
         clear ha385 a385; intro a386 ha386
         refine dygn 43 ha386 rfl rfl rfl rfl rfl (m5.to ⟨il, trivial⟩) (fun W => y_len ha386 rfl Try.underlying22) ?_
         clear ha386 a386; intro a387 ha387
         refine dygn 44 ha387 rfl rfl rfl rfl rfl (m5.to ⟨il, trivial⟩) (fun W => y_fieldAddr ha387 (off := 2) rfl Try.underlying25 rfl (s := 0) (by kernel_rfl) rfl) ?_
         clear ha387 a387; intro a388 ha388
         refine dhg 45 ha388 rfl rfl rfl rfl rfl (m5.to ⟨il, trivial⟩) (fun W hW => y_loadB1 ha388 hW (i := 20) rfl rfl rfl Try.underlying3 rfl) ?_
         clear ha388 a388; intro a389 ha389
         refine dygn 46 ha389 rfl rfl rfl rfl rfl (m5.to ⟨il, trivial⟩) (fun W => y_fieldAddr ha389 (off := 4) rfl Try.underlying25 rfl (s := 0) (by kernel_rfl) rfl) ?_
         clear ha389 a389; intro a390 ha390
         refine dhg 47 ha390 rfl rfl rfl rfl rfl (m5.to ⟨il, trivial⟩) (fun W hW => y_loadB1 ha390 hW (i := 20) rfl rfl rfl Try.underlying3 rfl) ?_
         clear ha390 a390; intro a391 ha391
         refine stepE_only 48 rfl (by kernel_rfl) (wantedG ha391 rfl rfl rfl rfl) (fun K hK => ?_)
         refine e_call ha391 Try.func33 rfl rfl rfl rfl (chunks_any bl pe _ (by omega) (by omega)) ?_
         rintro e w392 ⟨rfl, hb392⟩
         have m393 := m5.later hb392
         clear m5
         clear hb392
         refine ⟨_, rfl, fun a394 ha394 => ?_⟩; clear ha391 a391
         refine hK _ _ (m393.to ⟨il, trivial⟩) ?_; clear hK K
         refine dygn 49 ha394 rfl rfl rfl rfl rfl (m393.to ⟨il, trivial⟩) (fun W => y_neq ha394 rfl rfl) ?_
         clear ha394 a394; intro a395 ha395
         refine dyn 50 ha395 rfl rfl (m393.to ⟨il, trivial⟩) (fun W => y_pickF ha395 rfl rfl) ?_
         clear ha395 a395; intro a396 ha396
         refine dyn 51 ha396 rfl rfl (m393.to ⟨il, trivial⟩) (fun W => y_move ha396 rfl) ?_
         clear ha396 a396; intro a397 ha397
         refine bool_cases ha397 (t := 55) rfl (fun hb398 ha398 => ?_) (fun hb398 ha398 => ?_)
         ·
          clear ha397
          try simp only [Q1x, Q2x, Q3x, Q4x, Q5x, Q6x, Q7x, Q8x, Q9x, Q0x, Qax, Qbx] at hb398
          refine dskipn 52 ha398 rfl rfl rfl rfl rfl (m393.to ⟨il, trivial⟩) ?_
          clear ha398 a397; intro a399 ha399
          refine dskipn 53 ha399 rfl rfl rfl rfl rfl (m393.to ⟨il, trivial⟩) ?_
          clear ha399 a399; intro a400 ha400
          refine dskipn 54 ha400 rfl rfl rfl rfl rfl (m393.to ⟨il, trivial⟩) ?_
          clear ha400 a400; intro a401 ha401
          refine dyn 55 ha401 rfl rfl (m393.to ⟨il, trivial⟩) (fun W => y_pickT ha401 rfl rfl) ?_
          clear ha401 a401; intro a402 ha402
          refine dyn 56 ha402 rfl rfl (m393.to ⟨il, trivial⟩) (fun W => y_move ha402 rfl) ?_
          clear ha402 a402; intro a403 ha403
          refine dskipn 57 ha403 rfl rfl rfl rfl rfl (m393.to ⟨il, trivial⟩) ?_
          clear ha403 a403; intro a404 ha404
          refine dskipn 58 ha404 rfl rfl rfl rfl rfl (m393.to ⟨il, trivial⟩) ?_
          clear ha404 a404; intro a405 ha405
          refine dskipn 59 ha405 rfl rfl rfl rfl rfl (m393.to ⟨il, trivial⟩) ?_
          clear ha405 a405; intro a406 ha406
          refine dyn 60 ha406 rfl rfl (m393.to ⟨il, trivial⟩) (fun W => y_pickT ha406 rfl rfl) ?_
          clear ha406 a406; intro a407 ha407
          refine wpAnyE_done (by kernel_rfl) ?_ _
          refine hK2 _ _ ?_; clear hK2; try clear K2
          refine wp_cond_true (ha407.ev (x := .tmp 64) rfl) ?_
          refine wp_seq_k (fun K11 hK11 => ?_)
          have ha408 : Has 86 [(1, _), (2, _)] a407 := ha407.only [1, 2]; clear ha407
          refine wp_region_lit ?_
          refine st_y ha408 rfl (y_assign ha408 rfl) ?_
          clear ha408 a407; intro a409 ha409
          refine wpList_nil ?_
          refine hK11 _ _ ?_; clear hK11; try clear K11
          refine wp_ret ?_
          try dsimp only [Exit.then, Exit.inBlock]
          refine (ret1 (fn := Try.f38) ha409 rfl rfl ?_)
          exact ⟨false, rfl, iff_of_false (by simp) (fun h => by obtain ⟨h1, h2, h3, h4, h5, h6, h7, h8, ⟨h9, h10⟩, h11, h12⟩ := h; first | omega | (have h13 := h9 _ (getD_mem hk); omega)), m393.below⟩
         ·
          clear ha397
          try simp only [Q1x, Q2x, Q3x, Q4x, Q5x, Q6x, Q7x, Q8x, Q9x, Q0x, Qax, Qbx] at hb398
          refine dygn 52 ha398 rfl rfl rfl rfl rfl (m393.to ⟨il, trivial⟩) (fun W => y_fieldAddr ha398 (off := 6) rfl Try.underlying25 rfl (s := 0) (by kernel_rfl) rfl) ?_
          clear ha398 a397; intro a410 ha410
          refine dhg 53 ha410 rfl rfl rfl rfl rfl (m393.to ⟨il, trivial⟩) (fun W hW => y_loadB1 ha410 hW (i := 20) rfl rfl rfl Try.underlying3 rfl) ?_
          clear ha410 a410; intro a411 ha411
          refine dygn 54 ha411 rfl rfl rfl rfl rfl (m393.to ⟨il, trivial⟩) (fun W => y_lss ha411 rfl rfl) ?_
          clear ha411 a411; intro a412 ha412
          refine dyn 55 ha412 rfl rfl (m393.to ⟨il, trivial⟩) (fun W => y_pickF ha412 rfl rfl) ?_
          clear ha412 a412; intro a413 ha413
          refine dyn 56 ha413 rfl rfl (m393.to ⟨il, trivial⟩) (fun W => y_move ha413 rfl) ?_
          clear ha413 a413; intro a414 ha414
          refine bool_cases ha414 (t := 60) rfl (fun hb415 ha415 => ?_) (fun hb415 ha415 => ?_)
          ·
           clear ha414
           try simp only [Q1x, Q2x, Q3x, Q4x, Q5x, Q6x, Q7x, Q8x, Q9x, Q0x, Qax, Qbx] at hb415
           refine dskipn 57 ha415 rfl rfl rfl rfl rfl (m393.to ⟨il, trivial⟩) ?_
           clear ha415 a414; intro a416 ha416
           refine dskipn 58 ha416 rfl rfl rfl rfl rfl (m393.to ⟨il, trivial⟩) ?_
           clear ha416 a416; intro a417 ha417
           refine dskipn 59 ha417 rfl rfl rfl rfl rfl (m393.to ⟨il, trivial⟩) ?_
           clear ha417 a417; intro a418 ha418
           refine dyn 60 ha418 rfl rfl (m393.to ⟨il, trivial⟩) (fun W => y_pickT ha418 rfl rfl) ?_
           clear ha418 a418; intro a419 ha419
           refine wpAnyE_done (by kernel_rfl) ?_ _
           refine hK2 _ _ ?_; clear hK2; try clear K2
           refine wp_cond_true (ha419.ev (x := .tmp 64) rfl) ?_
           refine wp_seq_k (fun K12 hK12 => ?_)
           have ha420 : Has 86 [(1, _), (2, _)] a419 := ha419.only [1, 2]; clear ha419
           refine wp_region_lit ?_
           refine st_y ha420 rfl (y_assign ha420 rfl) ?_
           clear ha420 a419; intro a421 ha421
           refine wpList_nil ?_
           refine hK12 _ _ ?_; clear hK12; try clear K12
           refine wp_ret ?_
           try dsimp only [Exit.then, Exit.inBlock]
           refine (ret1 (fn := Try.f38) ha421 rfl rfl ?_)
           exact ⟨false, rfl, iff_of_false (by simp) (fun h => by obtain ⟨h1, h2, h3, h4, h5, h6, h7, h8, ⟨h9, h10⟩, h11, h12⟩ := h; first | omega | (have h13 := h9 _ (getD_mem hk); omega)), m393.below⟩
          ·
           clear ha414
           try simp only [Q1x, Q2x, Q3x, Q4x, Q5x, Q6x, Q7x, Q8x, Q9x, Q0x, Qax, Qbx] at hb415
           refine dygn 57 ha415 rfl rfl rfl rfl rfl (m393.to ⟨il, trivial⟩) (fun W => y_fieldAddr ha415 (off := 6) rfl Try.underlying25 rfl (s := 0) (by kernel_rfl) rfl) ?_
           clear ha415 a414; intro a422 ha422
           refine dhg 58 ha422 rfl rfl rfl rfl rfl (m393.to ⟨il, trivial⟩) (fun W hW => y_loadB1 ha422 hW (i := 20) rfl rfl rfl Try.underlying3 rfl) ?_
           clear ha422 a422; intro a423 ha423
           refine dygn 59 ha423 rfl rfl rfl rfl rfl (m393.to ⟨il, trivial⟩) (fun W => y_gtr ha423 rfl rfl) ?_
           clear ha423 a423; intro a424 ha424
           refine dyn 60 ha424 rfl rfl (m393.to ⟨il, trivial⟩) (fun W => y_pickF ha424 rfl rfl) ?_
           clear ha424 a424; intro a425 ha425
           refine wpAnyE_done (by kernel_rfl) ?_ _
           refine hK2 _ _ ?_; clear hK2; try clear K2
           refine bool_cases ha425 (t := 64) rfl (fun hb426 ha426 => ?_) (fun hb426 ha426 => ?_)
           ·
            clear ha425
            try simp only [Q1x, Q2x, Q3x, Q4x, Q5x, Q6x, Q7x, Q8x, Q9x, Q0x, Qax, Qbx] at hb426
            refine wp_cond_true (ha426.ev (x := .tmp 64) rfl) ?_
            refine wp_seq_k (fun K13 hK13 => ?_)
            have ha427 : Has 86 [(1, _), (2, _)] a425 := ha426.only [1, 2]; clear ha426
            refine wp_region_lit ?_
            refine st_y ha427 rfl (y_assign ha427 rfl) ?_
            clear ha427 a425; intro a428 ha428
            refine wpList_nil ?_
            refine hK13 _ _ ?_; clear hK13; try clear K13
            refine wp_ret ?_
            try dsimp only [Exit.then, Exit.inBlock]
            refine (ret1 (fn := Try.f38) ha428 rfl rfl ?_)
            exact ⟨false, rfl, iff_of_false (by simp) (fun h => by obtain ⟨h1, h2, h3, h4, h5, h6, h7, h8, ⟨h9, h10⟩, h11, h12⟩ := h; first | omega | (have h13 := h9 _ (getD_mem hk); omega)), m393.below⟩
           ·
            clear ha425
            try simp only [Q1x, Q2x, Q3x, Q4x, Q5x, Q6x, Q7x, Q8x, Q9x, Q0x, Qax, Qbx] at hb426
            refine wp_cond_false (ha426.ev (x := .tmp 64) rfl) ?_
            refine wp_skip ?_
            refine hK1 _ _ ?_; clear hK1; try clear K1
            refine wp_seq_k (fun K14 hK14 => ?_)
            refine wp_seq_k (fun K15 hK15 => ?_)
            have ha429 : Has 86 [(1, _), (2, _)] a425 := ha426.only [1, 2]; clear ha426
            refine wp_region_lit ?_
            refine st_y ha429 rfl (y_assign ha429 rfl) ?_
            clear ha429 a425; intro a430 ha430
            refine wpList_nil ?_
            refine hK15 _ _ ?_; clear hK15; try clear K15
            refine wp_block ?_
            refine wp_loop_ghost (fun g a w => ∃ (k B : Nat), k ≤ place.length ∧ g = place.length - k ∧ (∀ j, j < k → 1 ≤ place.getD j 0 ∧ place.getD j 0 ≤ 7) ∧ Has 86 [(1, .pointer (some ⟨B, 0, none⟩)), (3, .int .i64 k)] a ∧ MemOk (cn w0) w0 [(9, .box B 25 [.int .i64 kd, .int .i64 vo, .int .i64 bl, .int .i64 sz, .int .i64 pe, .slice pp place.length cp, .int .i64 to, .int .i64 at0, .int .i64 ix, .slice pi ni ci])] w) (place.length) ?_ ?_
            · exact ⟨0, _, Nat.zero_le _, rfl, (fun j hj => by omega), ha430.only [1, 3], m393.ren [(9, 20)] (by decide)⟩
            ·
             clear ha430 m393
             rintro g a431 w431 ⟨k, B, hkl, hg, hall, ha431, m431⟩
             refine wp_seq_k (fun K16 hK16 => ?_)
             refine wp_seq_k (fun K17 hK17 => ?_)
             refine wp_region_lit ?_
             refine st_y ha431 rfl (y_move ha431 rfl) ?_
             clear ha431 a431; intro a432 ha432
             refine st_y ha432 rfl (y_fieldAddr ha432 (off := 5) rfl Try.underlying25 rfl (s := 0) (by kernel_rfl) rfl) ?_
             clear ha432 a432; intro a433 ha433
             refine st_y ha433 rfl (y_loadB1 ha433 m431 (i := 9) rfl rfl rfl Try.underlying22 rfl) ?_
             clear ha433 a433; intro a434 ha434
             refine st_y ha434 rfl (y_len ha434 rfl Try.underlying22) ?_
             clear ha434 a434; intro a435 ha435
             refine st_y ha435 rfl (y_lss ha435 rfl rfl) ?_
             clear ha435 a435; intro a436 ha436
             refine wpList_nil ?_
             refine hK17 _ _ ?_; clear hK17; try clear K17
             refine bool_cases ha436 (t := 69) rfl (fun hb437 ha437 => ?_) (fun hb437 ha437 => ?_)
             ·
              clear ha436
              try simp only [Q1x, Q2x, Q3x, Q4x, Q5x, Q6x, Q7x, Q8x, Q9x, Q0x, Qax, Qbx] at hb437
              have hk : k < place.length := by omega
              refine wp_cond_true (ha437.ev (x := .tmp 69) rfl) ?_
              refine wp_skip ?_
              refine hK16 _ _ ?_; clear hK16; try clear K16
              refine wp_seq_k (fun K18 hK18 => ?_)
              refine wp_block ?_
              refine wp_seq_k (fun K19 hK19 => ?_)
              refine wp_region_lit ?_
              refine st_y ha437 rfl (y_fieldAddr ha437 (off := 5) rfl Try.underlying25 rfl (s := 0) (by kernel_rfl) rfl) ?_
              clear ha437 a436; intro a438 ha438
              refine st_y ha438 rfl (y_loadB1 ha438 m431 (i := 9) rfl rfl rfl Try.underlying22 rfl) ?_
              clear ha438 a438; intro a439 ha439
              refine st_y ha439 rfl (y_move ha439 rfl) ?_
              clear ha439 a439; intro a440 ha440
              obtain ⟨gx441, ox441, hp441, hl441, hrg441⟩ := h0.extN (k) hk
              cases hp441; clear hl441
              refine st_y ha440 rfl (y_idx ha440 rfl rfl Try.underlying22 sz3rs (k) rfl hk) ?_
              clear ha440 a440; intro a442 ha442
              refine st_y ha442 rfl (y_loadAt1 ha442 (hrg441 m431 rfl) (q := 0) rfl rfl rfl Try.underlying3 rfl) ?_
              clear ha442 a442; intro a443 ha443
              refine st_y ha443 rfl (y_lss ha443 rfl rfl) ?_
              clear ha443 a443; intro a444 ha444
              refine st_y ha444 rfl (y_move ha444 rfl) ?_
              clear ha444 a444; intro a445 ha445
              refine bool_cases ha445 (t := 78) rfl (fun hb446 ha446 => ?_) (fun hb446 ha446 => ?_)
              ·
               clear ha445
               try simp only [Q1x, Q2x, Q3x, Q4x, Q5x, Q6x, Q7x, Q8x, Q9x, Q0x, Qax, Qbx] at hb446
               refine st_skip ha446 rfl rfl rfl rfl ?_
               clear ha446 a445; intro a447 ha447
               refine st_skip ha447 rfl rfl rfl rfl ?_
               clear ha447 a447; intro a448 ha448
               refine st_skip ha448 rfl rfl rfl rfl ?_
               clear ha448 a448; intro a449 ha449
               refine st_skip ha449 rfl rfl rfl rfl ?_
               clear ha449 a449; intro a450 ha450
               refine st_skip ha450 rfl rfl rfl rfl ?_
               clear ha450 a450; intro a451 ha451
               refine st_skip ha451 rfl rfl rfl rfl ?_
               clear ha451 a451; intro a452 ha452
               refine st_y ha452 rfl (y_pickT ha452 rfl rfl) ?_
               clear ha452 a452; intro a453 ha453
               refine wpList_nil ?_
               refine hK19 _ _ ?_; clear hK19; try clear K19
               refine wp_cond_true (ha453.ev (x := .tmp 85) rfl) ?_
               refine wp_seq_k (fun K20 hK20 => ?_)
               have ha454 : Has 86 [(1, _), (3, _)] a453 := ha453.only [1, 3]; clear ha453
               refine wp_region_lit ?_
               refine st_y ha454 rfl (y_assign ha454 rfl) ?_
               clear ha454 a453; intro a455 ha455
               refine wpList_nil ?_
               refine hK20 _ _ ?_; clear hK20; try clear K20
               refine wp_ret ?_
               try dsimp only [Exit.then, Exit.inBlock]
               refine (ret1 (fn := Try.f38) ha455 rfl rfl ?_)
               exact ⟨false, rfl, iff_of_false (by simp) (fun h => by obtain ⟨h1, h2, h3, h4, h5, h6, h7, h8, ⟨h9, h10⟩, h11, h12⟩ := h; first | omega | (have h13 := h9 _ (getD_mem hk); omega)), m431.below⟩
              ·
               clear ha445
               try simp only [Q1x, Q2x, Q3x, Q4x, Q5x, Q6x, Q7x, Q8x, Q9x, Q0x, Qax, Qbx] at hb446
               refine st_g ha446 rfl rfl rfl rfl (y_fieldAddr ha446 (off := 5) rfl Try.underlying25 rfl (s := 0) (by kernel_rfl) rfl) ?_
               clear ha446 a445; intro a456 ha456
               refine st_g ha456 rfl rfl rfl rfl (y_loadB1 ha456 m431 (i := 9) rfl rfl rfl Try.underlying22 rfl) ?_
               clear ha456 a456; intro a457 ha457
               refine st_g ha457 rfl rfl rfl rfl (y_move ha457 rfl) ?_
               clear ha457 a457; intro a458 ha458
               obtain ⟨gx459, ox459, hp459, hl459, hrg459⟩ := h0.extN (k) hk
               cases hp459; clear hl459
               refine st_g ha458 rfl rfl rfl rfl (y_idx ha458 rfl rfl Try.underlying22 sz3rs (k) rfl hk) ?_
               clear ha458 a458; intro a460 ha460
               refine st_g ha460 rfl rfl rfl rfl (y_loadAt1 ha460 (hrg459 m431 rfl) (q := 0) rfl rfl rfl Try.underlying3 rfl) ?_
               clear ha460 a460; intro a461 ha461
               refine st_g ha461 rfl rfl rfl rfl (y_geq ha461 rfl rfl) ?_
               clear ha461 a461; intro a462 ha462
               refine st_y ha462 rfl (y_pickF ha462 rfl rfl) ?_
               clear ha462 a462; intro a463 ha463
               refine wpList_nil ?_
               refine hK19 _ _ ?_; clear hK19; try clear K19
               refine bool_cases ha463 (t := 85) rfl (fun hb464 ha464 => ?_) (fun hb464 ha464 => ?_)
               ·
                clear ha463
                try simp only [Q1x, Q2x, Q3x, Q4x, Q5x, Q6x, Q7x, Q8x, Q9x, Q0x, Qax, Qbx] at hb464
                refine wp_cond_true (ha464.ev (x := .tmp 85) rfl) ?_
                refine wp_seq_k (fun K21 hK21 => ?_)
                have ha465 : Has 86 [(1, _), (3, _)] a463 := ha464.only [1, 3]; clear ha464
                refine wp_region_lit ?_
                refine st_y ha465 rfl (y_assign ha465 rfl) ?_
                clear ha465 a463; intro a466 ha466
                refine wpList_nil ?_
                refine hK21 _ _ ?_; clear hK21; try clear K21
                refine wp_ret ?_
                try dsimp only [Exit.then, Exit.inBlock]
                refine (ret1 (fn := Try.f38) ha466 rfl rfl ?_)
                exact ⟨false, rfl, iff_of_false (by simp) (fun h => by obtain ⟨h1, h2, h3, h4, h5, h6, h7, h8, ⟨h9, h10⟩, h11, h12⟩ := h; first | omega | (have h13 := h9 _ (getD_mem hk); omega)), m431.below⟩
               ·
                clear ha463
                try simp only [Q1x, Q2x, Q3x, Q4x, Q5x, Q6x, Q7x, Q8x, Q9x, Q0x, Qax, Qbx] at hb464
                refine wp_cond_false (ha464.ev (x := .tmp 85) rfl) ?_
                refine wp_skip ?_
                refine hK18 _ _ ?_; clear hK18; try clear K18
                have ha467 : Has 86 [(1, _), (3, _)] a463 := ha464.only [1, 3]; clear ha464
                refine wp_region_lit ?_
                refine st_y ha467 rfl (y_move ha467 rfl) ?_
                clear ha467 a463; intro a468 ha468
                refine st_y ha468 rfl (y_add ha468 rfl rfl (r := ((k + 1 : Nat) : Int)) (by rw [IntWalk.i64_in _ (by omega)]; omega)) ?_
                clear ha468 a468; intro a469 ha469
                refine st_y ha469 rfl (y_assign ha469 rfl) ?_
                clear ha469 a469; intro a470 ha470
                refine wpList_nil ?_
                show ∃ n', n' < _ ∧ _
                exact ⟨place.length - (k + 1), by omega, k + 1, _, by omega, rfl, (all_snoc (P := fun x => 1 ≤ x ∧ x ≤ 7) hall (by omega)), ha470.only [1, 3], m431.only [9]⟩
             ·
              clear ha436
              try simp only [Q1x, Q2x, Q3x, Q4x, Q5x, Q6x, Q7x, Q8x, Q9x, Q0x, Qax, Qbx] at hb437
              obtain rfl : k = place.length := by omega
              refine wp_cond_false (ha437.ev (x := .tmp 69) rfl) ?_
              refine wp_exit ?_
              refine hK14 _ _ ?_; clear hK14; try clear K14
              refine wp_seq_k (fun K22 hK22 => ?_)
              refine wp_region_lit ?_
              refine st_y ha437 rfl (y_assign ha437 rfl) ?_
              clear ha437 a436; intro a471 ha471
              refine wpList_nil ?_
              refine hK22 _ _ ?_; clear hK22; try clear K22
              refine wp_ret ?_
              try dsimp only [Exit.then, Exit.inBlock]
              refine (ret1 (fn := Try.f38) ha471 rfl rfl ?_)
              exact ⟨true, rfl, iff_of_true rfl ⟨by omega, by omega, by omega, by omega, by omega, by omega, by omega, by omega, ⟨fun g hg9 => all_mem (P := fun x => 1 ≤ x ∧ x ≤ 7) hall g hg9, by omega⟩, by omega, by omega⟩, m431.below⟩
theorem rnew_any (kd vo bl sz pe to at0 ix : Int) (place : List Int) (pp pi : Option Addr) (cp ni ci : Nat) (w0 : World) (h0 : Rd (fun _ => True) w0 (.slice pp place.length cp) (.ns .i64 place)) (hn : place.length ≤ 1000000) :
   Calls Try.prog 12 #[.agg #[.int .i64 kd, .int .i64 vo, .int .i64 bl, .int .i64 sz, .int .i64 pe, .slice pp place.length cp, .int .i64 to, .int .i64 at0, .int .i64 ix, .slice pi ni ci]] w0 fun e w' => (NewOk vo bl sz pe to place ∧ ∃ p c, e = .returned (.tuple #[.agg #[.int .i64 vo, .int .i64 bl, .int .i64 sz, .int .i64 pe, .slice p place.length c, .int .i64 to, .int .i64 0, .bool (decide (0 < to)), .int .i64 0, .slice none 0 0, .slice none 0 0], .int .i64 0]) ∧ Rd (New w0) w' (.slice p place.length c) (.ns .i64 place) ∧ Below w0.heap.size w0 w') ∨ (¬ NewOk vo bl sz pe to place ∧ e = .returned (.tuple #[.agg #[.int .i64 0, .int .i64 0, .int .i64 0, .int .i64 0, .slice none 0 0, .int .i64 0, .int .i64 0, .bool false, .int .i64 0, .slice none 0 0, .slice none 0 0], .int .i64 23]) ∧ Below w0.heap.size w0 w') := by
 refine enter (fn := Try.f12) Try.func12 rfl Try.ntmps12 rfl (fun a0 ha0 => ?_)
 simp only [List.zipIdx_cons, List.zipIdx_nil, List.map_cons, List.map_nil, Nat.reduceAdd, Nat.zero_add] at ha0
 have m0 := MemOk.start (fun _ => False) w0
 refine wp_seq_k (fun K0 hK0 => ?_)
 refine wp_region_lit ?_
 refine wpList_plain rfl (fun K hK => ?_)
 refine e_box ha0 m0 20 (cs := [_, _, _, _, _, _, _, _, _, _]) rfl rfl rfl ?_
 clear ha0 a0 m0; intro g1 a2 w2 ha2 m2 hB2 hg2
 clear hB2 hg2
 refine hK _ _ ?_; clear hK K
 refine wpList_plain rfl (fun K hK => ?_)
 refine e_alloc ha2 m2 21 zc34rn rfl ?_
 clear ha2 a2 m2; intro g3 a4 w4 ha4 m4 hB4 hg4
 clear hB4 hg4
 refine hK _ _ ?_; clear hK K
 refine st_y ha4 rfl (y_assign ha4 rfl) ?_
 clear ha4 a4; intro a5 ha5
 refine wpList_nil ?_
 refine hK0 _ _ ?_; clear hK0; try clear K0
 refine wp_seq_k (fun K1 hK1 => ?_)
 refine wp_seq_k (fun K2 hK2 => ?_)
 refine wp_region_lit ?_
 refine st_y ha5 rfl (y_loadBR ha5 m4 (i := 20) rfl rfl Try.underlying25 rfl sz25rn (by simp) (by dsimp only [List.drop, List.take] <;> rfl)) ?_
 clear ha5 a5; intro a6 ha6
 refine wpList_plain rfl (fun K hK => ?_)
 refine e_call ha6 Try.func38 rfl rfl rfl rfl (rshape_any _ _ _ _ _ _ _ _ place _ _ _ _ _ _ ((h0.now' m4 rfl).any) hn) ?_
 rintro e w7 ⟨sb, rfl, hsb, hb7⟩
 have m8 := m4.later hb7
 clear m4
 clear hb7
 refine ⟨_, rfl, fun a9 ha9 => ?_⟩; clear ha6 a6
 refine hK _ _ ?_; clear hK K
 refine st_y ha9 rfl (y_not ha9 rfl) ?_
 clear ha9 a9; intro a10 ha10
 refine wpList_nil ?_
 refine hK2 _ _ ?_; clear hK2; try clear K2
 refine bool_cases ha10 (t := 6) rfl (fun hb11 ha11 => ?_) (fun hb11 ha11 => ?_)
 ·
  clear ha10
  try simp only [Q1x, Q2x, Q3x, Q4x, Q5x, Q6x, Q7x, Q8x, Q9x, Q0x, Qax, Qbx] at hb11
  refine wp_cond_true (ha11.ev (x := .tmp 6) rfl) ?_
  refine wp_seq_k (fun K3 hK3 => ?_)
  refine wp_region_lit ?_
  refine st_y ha11 rfl (y_build ha11 rfl zc34rn fl34rn rfl (by dsimp only [setL, List.set] <;> rfl)) ?_
  clear ha11 a10; intro a12 ha12
  refine wpList_plain rfl (fun K hK => ?_)
  refine e_storeW ha12 m8 21 rfl rfl rfl rfl rfl sz34rn ?_
  clear m8; intro w13 m13 hB13
  clear hB13
  refine hK _ _ ?_; clear hK K
  refine st_y ha12 rfl (y_assign ha12 rfl) ?_
  clear ha12 a12; intro a14 ha14
  refine wpList_nil ?_
  refine hK3 _ _ ?_; clear hK3; try clear K3
  refine wp_ret ?_
  try dsimp only [Exit.then, Exit.inBlock]
  refine (retCT (fn := Try.f12) ha14 m13 (i := 21) rfl rfl rfl rfl Try.underlying34 rfl sz34rn ?_)
  exact .inr ⟨fun h => by have h12 := hsb.2 h; simp_all, rfl, m13.below⟩
 ·
  clear ha10
  try simp only [Q1x, Q2x, Q3x, Q4x, Q5x, Q6x, Q7x, Q8x, Q9x, Q0x, Qax, Qbx] at hb11
  refine wp_cond_false (ha11.ev (x := .tmp 6) rfl) ?_
  refine wp_skip ?_
  refine hK1 _ _ ?_; clear hK1; try clear K1
  refine wp_seq_k (fun K4 hK4 => ?_)
  have m15 : MemOk _ _ [(20, _), (21, _)] _ := m8.only [20, 21]; clear m8
  refine region_m 19 (B := [(20, _)]) (m15.to ⟨il, trivial⟩) m15 (by kernel_rfl) (fun w16 mB16 m16 => ?_); clear m15 mB16
  refine dyn 0 ha11 rfl rfl (m16.to ⟨il, trivial⟩) (fun W => y_fieldAddr ha11 (off := 1) rfl Try.underlying25 rfl (s := 0) (by kernel_rfl) rfl) ?_
  clear ha11 a10; intro a17 ha17
  refine dh 1 ha17 rfl rfl (m16.to ⟨il, trivial⟩) (fun W hW => y_loadB1 ha17 hW (i := 20) rfl rfl rfl Try.underlying3 rfl) ?_
  clear ha17 a17; intro a18 ha18
  refine dyn 2 ha18 rfl rfl (m16.to ⟨il, trivial⟩) (fun W => y_fieldAddr ha18 (off := 2) rfl Try.underlying25 rfl (s := 0) (by kernel_rfl) rfl) ?_
  clear ha18 a18; intro a19 ha19
  refine dh 3 ha19 rfl rfl (m16.to ⟨il, trivial⟩) (fun W hW => y_loadB1 ha19 hW (i := 20) rfl rfl rfl Try.underlying3 rfl) ?_
  clear ha19 a19; intro a20 ha20
  refine dyn 4 ha20 rfl rfl (m16.to ⟨il, trivial⟩) (fun W => y_fieldAddr ha20 (off := 3) rfl Try.underlying25 rfl (s := 0) (by kernel_rfl) rfl) ?_
  clear ha20 a20; intro a21 ha21
  refine dh 5 ha21 rfl rfl (m16.to ⟨il, trivial⟩) (fun W hW => y_loadB1 ha21 hW (i := 20) rfl rfl rfl Try.underlying3 rfl) ?_
  clear ha21 a21; intro a22 ha22
  refine dyn 6 ha22 rfl rfl (m16.to ⟨il, trivial⟩) (fun W => y_fieldAddr ha22 (off := 4) rfl Try.underlying25 rfl (s := 0) (by kernel_rfl) rfl) ?_
  clear ha22 a22; intro a23 ha23
  refine dh 7 ha23 rfl rfl (m16.to ⟨il, trivial⟩) (fun W hW => y_loadB1 ha23 hW (i := 20) rfl rfl rfl Try.underlying3 rfl) ?_
  clear ha23 a23; intro a24 ha24
  refine dyn 8 ha24 rfl rfl (m16.to ⟨il, trivial⟩) (fun W => y_fieldAddr ha24 (off := 5) rfl Try.underlying25 rfl (s := 0) (by kernel_rfl) rfl) ?_
  clear ha24 a24; intro a25 ha25
  refine dh 9 ha25 rfl rfl (m16.to ⟨il, trivial⟩) (fun W hW => y_loadB1 ha25 hW (i := 20) rfl rfl rfl Try.underlying22 rfl) ?_
  clear ha25 a25; intro a26 ha26
  refine dyn 11 ha26 rfl rfl (m16.to ⟨il, trivial⟩) (fun W => y_fieldAddr ha26 (off := 6) rfl Try.underlying25 rfl (s := 0) (by kernel_rfl) rfl) ?_
  clear ha26 a26; intro a27 ha27
  refine dh 12 ha27 rfl rfl (m16.to ⟨il, trivial⟩) (fun W hW => y_loadB1 ha27 hW (i := 20) rfl rfl rfl Try.underlying3 rfl) ?_
  clear ha27 a27; intro a28 ha28
  refine dyn 13 ha28 rfl rfl (m16.to ⟨il, trivial⟩) (fun W => y_fieldAddr ha28 (off := 6) rfl Try.underlying25 rfl (s := 0) (by kernel_rfl) rfl) ?_
  clear ha28 a28; intro a29 ha29
  refine dh 14 ha29 rfl rfl (m16.to ⟨il, trivial⟩) (fun W hW => y_loadB1 ha29 hW (i := 20) rfl rfl rfl Try.underlying3 rfl) ?_
  clear ha29 a29; intro a30 ha30
  refine dyn 15 ha30 rfl rfl (m16.to ⟨il, trivial⟩) (fun W => y_gtr ha30 rfl rfl) ?_
  clear ha30 a30; intro a31 ha31
  refine stepE_only 10 rfl (by kernel_rfl) rfl (fun K hK => ?_)
  refine e_app0N ha31 m16 22 rfl rfl (h0.now' m16 rfl).ns_out.nums Try.underlying22 inf3rn (by decide) (by omega) rfl ?_
  clear ha31 a31 m16; intro p32 c32 a33 w33 ha33 m33
  refine hK _ _ (m33.to ⟨il, trivial⟩) ?_; clear hK K
  refine dyn 16 ha33 rfl rfl (m33.to ⟨il, trivial⟩) (fun W => y_build ha33 rfl zc34rn fl34rn rfl (by dsimp only [setL, List.set] <;> rfl)) ?_
  clear ha33 a33; intro a34 ha34
  refine stepE_only 17 rfl (by kernel_rfl) rfl (fun K hK => ?_)
  refine e_storeW ha34 m33 21 rfl rfl rfl rfl rfl sz34rn ?_
  clear m33; intro w35 m35 hB35
  clear hB35
  refine hK _ _ (m35.to ⟨il, trivial⟩) ?_; clear hK K
  refine dyn 18 ha34 rfl rfl (m35.to ⟨il, trivial⟩) (fun W => y_assign ha34 rfl) ?_
  clear ha34 a34; intro a36 ha36
  refine wpAnyE_done (by kernel_rfl) ?_ _
  refine hK4 _ _ ?_; clear hK4; try clear K4
  refine wp_ret ?_
  try dsimp only [Exit.then, Exit.inBlock]
  refine (retCT (fn := Try.f12) ha36 m35 (i := 21) rfl rfl rfl rfl Try.underlying34 rfl sz34rn ?_)
  have m37 := m35.freezeN 22 rfl; clear m35
  exact .inl ⟨hsb.1 (by simp_all), _, _, rfl, m37.outF (i := 22) rfl, m37.below⟩
theorem rnew_yes (kd vo bl sz pe to at0 ix : Int) (place : List Int) (pp pi : Option Addr) (cp ni ci : Nat) (w0 : World) (h0 : Rd (fun _ => True) w0 (.slice pp place.length cp) (.ns .i64 place)) (hn : place.length ≤ 1000000) (hN : NewOk vo bl sz pe to place) :
   Calls Try.prog 12 #[.agg #[.int .i64 kd, .int .i64 vo, .int .i64 bl, .int .i64 sz, .int .i64 pe, .slice pp place.length cp, .int .i64 to, .int .i64 at0, .int .i64 ix, .slice pi ni ci]] w0 fun e w' => ∃ p c, e = .returned (.tuple #[.agg #[.int .i64 vo, .int .i64 bl, .int .i64 sz, .int .i64 pe, .slice p place.length c, .int .i64 to, .int .i64 0, .bool (decide (0 < to)), .int .i64 0, .slice none 0 0, .slice none 0 0], .int .i64 0]) ∧ Rd (New w0) w' (.slice p place.length c) (.ns .i64 place) ∧ Below w0.heap.size w0 w' :=
 (rnew_any kd vo bl sz pe to at0 ix place pp pi cp ni ci w0 h0 hn).mono (fun _ _ h => h.elim (fun h => h.2) (fun h => absurd hN h.1))
theorem data_any (n : Nat) (b : Int) (w0 : World) (hn : n ≤ 1000000) (hb : 0 ≤ b ∧ b ≤ 255) :
   Calls Try.prog 50 #[.int .i64 (n : Int), .int .u8 b] w0 fun e w' => ∃ (d : List Int) (p : Option Addr) (c : Nat), e = .returned (.slice p n c) ∧ d.length = n ∧ BytesL d ∧ Rd (New w0) w' (.slice p n c) (.ns .u8 d) ∧ Below w0.heap.size w0 w' := by
 refine enter (fn := Try.f50) Try.func50 rfl Try.ntmps50 rfl (fun a0 ha0 => ?_)
 simp only [List.zipIdx_cons, List.zipIdx_nil, List.map_cons, List.map_nil, Nat.reduceAdd, Nat.zero_add] at ha0
 have m0 := MemOk.start (fun _ => False) w0
 refine wp_seq_k (fun K0 hK0 => ?_)
 refine wp_region_lit ?_
 refine st_y ha0 rfl (y_assign ha0 rfl) ?_
 clear ha0 a0; intro a1 ha1
 refine wpList_nil ?_
 refine hK0 _ _ ?_; clear hK0; try clear K0
 refine wp_seq_k (fun K1 hK1 => ?_)
 refine wp_region_lit ?_
 refine st_y ha1 rfl (y_assign ha1 rfl) ?_
 clear ha1 a1; intro a2 ha2
 refine wpList_nil ?_
 refine hK1 _ _ ?_; clear hK1; try clear K1
 refine wp_seq_k (fun K2 hK2 => ?_)
 refine wp_seq_k (fun K3 hK3 => ?_)
 refine wp_region_lit ?_
 refine st_y ha2 rfl (y_assign ha2 rfl) ?_
 clear ha2 a2; intro a3 ha3
 refine wpList_nil ?_
 refine hK3 _ _ ?_; clear hK3; try clear K3
 refine wp_block ?_
 refine wp_loop_ghost (fun g a w => ∃ (k : Nat) (d : List Int) (p : Option Addr) (c : Nat), k ≤ n ∧ g = n - k ∧ d.length = k ∧ BytesL d ∧ Has 21 [(0, .int .i64 (n : Int)), (1, .int .u8 b), (5, .slice p d.length c), (6, .int .i64 k)] a ∧ MemOk (cn w0) w0 [(9, .num (.slice p d.length c) 5 .u8 d)] w) (n) ?_ ?_
 · have mz := m0.nilN 9 5 .u8
   exact ⟨0, [], _, _, Nat.zero_le _, rfl, rfl, (fun _ h => by cases h), ha3.only [0, 1, 5, 6], mz.only [9]⟩
 ·
  clear ha3 m0
  rintro g a4 w4 ⟨k, d, p, c, hkl, hg, hdl, hdb, ha4, m4⟩
  refine wp_seq_k (fun K4 hK4 => ?_)
  refine wp_seq_k (fun K5 hK5 => ?_)
  refine wp_region_lit ?_
  refine st_y ha4 rfl (y_move ha4 rfl) ?_
  clear ha4 a4; intro a5 ha5
  refine st_y ha5 rfl (y_move ha5 rfl) ?_
  clear ha5 a5; intro a6 ha6
  refine st_y ha6 rfl (y_lss ha6 rfl rfl) ?_
  clear ha6 a6; intro a7 ha7
  refine wpList_nil ?_
  refine hK5 _ _ ?_; clear hK5; try clear K5
  refine bool_cases ha7 (t := 9) rfl (fun hb8 ha8 => ?_) (fun hb8 ha8 => ?_)
  ·
   clear ha7
   try simp only [Q1x, Q2x, Q3x, Q4x, Q5x, Q6x, Q7x, Q8x, Q9x, Q0x, Qax, Qbx] at hb8
   have hk : k < n := by omega
   obtain ⟨z, hz, hzb⟩ : ∃ z, IntKind.u8.wrap (b + IntKind.u8.wrap (IntKind.u8.wrap (k : Int) * 7)) = z ∧ 0 ≤ z ∧ z ≤ 255 := ⟨_, rfl, wrap_u8 _⟩
   refine wp_cond_true (ha8.ev (x := .tmp 9) rfl) ?_
   refine wp_skip ?_
   refine hK4 _ _ ?_; clear hK4; try clear K4
   refine wp_seq_k (fun K6 hK6 => ?_)
   refine wp_block ?_
   refine wp_region_lit ?_
   refine st_y ha8 rfl (y_move ha8 rfl) ?_
   clear ha8 a7; intro a9 ha9
   refine st_y ha9 rfl (y_move ha9 rfl) ?_
   clear ha9 a9; intro a10 ha10
   refine st_y ha10 rfl (y_move ha10 rfl) ?_
   clear ha10 a10; intro a11 ha11
   refine st_y ha11 rfl (y_conv ha11 rfl Try.underlying3 Try.underlying5 rfl) ?_
   clear ha11 a11; intro a12 ha12
   refine st_y ha12 rfl (y_mul ha12 rfl rfl rfl) ?_
   clear ha12 a12; intro a13 ha13
   refine st_y ha13 rfl (y_add ha13 rfl rfl (r := z) hz) ?_
   clear ha13 a13; intro a14 ha14
   refine wpList_plain rfl (fun K hK => ?_)
   refine e_litN ha14 m4 100 (k := .u8) rfl rfl Try.underlying43 inf5da rfl rfl rfl rfl ?_
   clear ha14 a14 m4; intro g15 a16 w16 ha16 m16
   refine hK _ _ ?_; clear hK K
   refine wpList_plain rfl (fun K hK => ?_)
   refine e_appN ha16 m16 9 rfl rfl rfl (m16.numsO (i := 100) rfl) Try.underlying43 inf5da (by decide) (by simp; omega) rfl ?_
   clear ha16 a16 m16; intro p17 c17 a18 w18 ha18 m18
   refine hK _ _ ?_; clear hK K
   refine st_y ha18 rfl (y_assign ha18 rfl) ?_
   clear ha18 a18; intro a19 ha19
   refine wpList_nil ?_
   refine hK6 _ _ ?_; clear hK6; try clear K6
   have ha20 : Has 21 [(0, _), (1, _), (5, _), (6, _)] a19 := ha19.only [0, 1, 5, 6]; clear ha19
   refine wp_region_lit ?_
   refine st_y ha20 rfl (y_move ha20 rfl) ?_
   clear ha20 a19; intro a21 ha21
   refine st_y ha21 rfl (y_add ha21 rfl rfl (r := ((k + 1 : Nat) : Int)) (by rw [IntWalk.i64_in _ (by omega)]; omega)) ?_
   clear ha21 a21; intro a22 ha22
   refine st_y ha22 rfl (y_assign ha22 rfl) ?_
   clear ha22 a22; intro a23 ha23
   refine wpList_nil ?_
   show ∃ n', n' < _ ∧ _
   exact ⟨n - (k + 1), by omega, k + 1, d ++ [z], _, _, by omega, rfl, by simp [hdl], bytes_snoc hdb hzb, ha23.only [0, 1, 5, 6], m18.only [9]⟩
  ·
   clear ha7
   try simp only [Q1x, Q2x, Q3x, Q4x, Q5x, Q6x, Q7x, Q8x, Q9x, Q0x, Qax, Qbx] at hb8
   obtain rfl : k = n := by omega
   refine wp_cond_false (ha8.ev (x := .tmp 9) rfl) ?_
   refine wp_exit ?_
   refine hK2 _ _ ?_; clear hK2; try clear K2
   refine wp_seq_k (fun K7 hK7 => ?_)
   refine wp_region_lit ?_
   refine st_y ha8 rfl (y_move ha8 rfl) ?_
   clear ha8 a7; intro a24 ha24
   refine st_y ha24 rfl (y_assign ha24 rfl) ?_
   clear ha24 a24; intro a25 ha25
   refine wpList_nil ?_
   refine hK7 _ _ ?_; clear hK7; try clear K7
   refine wp_ret ?_
   try dsimp only [Exit.then, Exit.inBlock]
   refine (ret1 (fn := Try.f50) ha25 rfl rfl ?_)
   have m26 := m4.freezeN 9 rfl; clear m4
   exact ⟨_, _, _, by rw [hdl], hdl, hdb, by rw [← hdl]; exact m26.outF (i := 9) rfl, m26.below⟩
theorem create_any (vx bx sx px to : Int) (w0 : World) (hv : 0 ≤ vx ∧ vx ≤ 255) (hb : 0 ≤ bx ∧ bx ≤ 255) (hs : 0 ≤ sx ∧ sx ≤ 255) (hp : 0 ≤ px ∧ px ≤ 255) :
   Calls Try.prog 14 #[.int .u8 vx, .int .u8 bx, .int .u8 sx, .int .u8 px, .int .i64 to] w0 fun e w' => ∃ (bl sz pe : Int) (pl : List Int) (p : Option Addr) (c : Nat), e = .returned (.agg #[.int .i64 1, .int .i64 (vx.tmod 3), .int .i64 bl, .int .i64 sz, .int .i64 pe, .slice p pl.length c, .int .i64 to, .int .i64 0, .int .i64 0, .slice none 0 0]) ∧ 1 ≤ bl ∧ bl ≤ 9 ∧ 1 ≤ sz ∧ sz ≤ 3 ∧ 1 ≤ pe ∧ pe ≤ bl ∧ PlaceOk bl pe pl ∧ pl.length ≤ 9 ∧ Rd (New w0) w' (.slice p pl.length c) (.ns .i64 pl) ∧ Below w0.heap.size w0 w' := by
 refine enter (fn := Try.f14) Try.func14 rfl Try.ntmps14 rfl (fun a0 ha0 => ?_)
 simp only [List.zipIdx_cons, List.zipIdx_nil, List.map_cons, List.map_nil, Nat.reduceAdd, Nat.zero_add] at ha0
 have m0 := MemOk.start (fun _ => False) w0
 obtain ⟨vm, hvm, hvmb⟩ : ∃ x : Int, vx.tmod 3 = x ∧ 0 ≤ x ∧ x ≤ 2 := ⟨_, rfl, by rw [Int.tmod_eq_emod_of_nonneg (by omega)]; omega, by rw [Int.tmod_eq_emod_of_nonneg (by omega)]; omega⟩
 obtain ⟨b0, hb0, hb0b⟩ : ∃ x : Int, bx.tmod 9 = x ∧ 0 ≤ x ∧ x ≤ 8 := ⟨_, rfl, by rw [Int.tmod_eq_emod_of_nonneg (by omega)]; omega, by rw [Int.tmod_eq_emod_of_nonneg (by omega)]; omega⟩
 obtain ⟨s0, hs0, hs0b⟩ : ∃ x : Int, sx.tmod 3 = x ∧ 0 ≤ x ∧ x ≤ 2 := ⟨_, rfl, by rw [Int.tmod_eq_emod_of_nonneg (by omega)]; omega, by rw [Int.tmod_eq_emod_of_nonneg (by omega)]; omega⟩
 obtain ⟨bl, hbl⟩ : ∃ x : Int, b0 + 1 = x := ⟨_, rfl⟩
 obtain ⟨sz, hsz⟩ : ∃ x : Int, s0 + 1 = x := ⟨_, rfl⟩
 obtain ⟨pm, hpm, hpm1, hpm2⟩ : ∃ x : Int, px.tmod bl = x ∧ 0 ≤ x ∧ x < bl := ⟨_, rfl, by rw [Int.tmod_eq_emod_of_nonneg (by omega)]; exact Int.emod_nonneg _ (by omega), by rw [Int.tmod_eq_emod_of_nonneg (by omega)]; exact Int.emod_lt_of_pos _ (by omega)⟩
 obtain ⟨cc, hcc⟩ : ∃ x : Int, (bl + (pm + 1) - 1) / (pm + 1) = x := ⟨_, rfl⟩
 have hccb : 0 ≤ cc ∧ cc ≤ 9 := by
   rw [← hcc]
   have h1 := Int.ediv_nonneg (show 0 ≤ bl + (pm + 1) - 1 by omega) (show 0 ≤ pm + 1 by omega)
   refine ⟨h1, ?_⟩
   have h2 : (bl + (pm + 1) - 1) / (pm + 1) < 10 := Int.ediv_lt_of_lt_mul (by omega) (by have h10 : 10 * (pm + 1) = 10 * pm + 10 := (by omega); omega)
   omega
 refine wp_seq_k (fun K0 hK0 => ?_)
 refine wp_region_lit ?_
 refine wpList_plain rfl (fun K hK => ?_)
 refine e_alloc ha0 m0 20 zc25cr rfl ?_
 clear ha0 a0 m0; intro g1 a2 w2 ha2 m2 hB2 hg2
 clear hB2 hg2
 refine hK _ _ ?_; clear hK K
 refine wpList_nil ?_
 refine hK0 _ _ ?_; clear hK0; try clear K0
 refine wp_seq_k (fun K1 hK1 => ?_)
 refine wp_region_lit ?_
 refine st_y ha2 rfl (y_move ha2 rfl) ?_
 clear ha2 a2; intro a3 ha3
 refine st_y ha3 rfl (y_rem ha3 rfl rfl (by decide) (r := vm) hvm) ?_
 clear ha3 a3; intro a4 ha4
 refine st_y ha4 rfl (y_conv ha4 rfl Try.underlying5 Try.underlying3 (r := vm) (IntWalk.i64_in _ (by omega))) ?_
 clear ha4 a4; intro a5 ha5
 refine st_y ha5 rfl (y_move ha5 rfl) ?_
 clear ha5 a5; intro a6 ha6
 refine st_y ha6 rfl (y_rem ha6 rfl rfl (by decide) (r := b0) hb0) ?_
 clear ha6 a6; intro a7 ha7
 refine st_y ha7 rfl (y_conv ha7 rfl Try.underlying5 Try.underlying3 (r := b0) (IntWalk.i64_in _ (by omega))) ?_
 clear ha7 a7; intro a8 ha8
 refine st_y ha8 rfl (y_add ha8 rfl rfl (r := bl) (by rw [hbl]; exact (IntWalk.i64_in _ (by omega)))) ?_
 clear ha8 a8; intro a9 ha9
 refine st_y ha9 rfl (y_move ha9 rfl) ?_
 clear ha9 a9; intro a10 ha10
 refine st_y ha10 rfl (y_rem ha10 rfl rfl (by decide) (r := s0) hs0) ?_
 clear ha10 a10; intro a11 ha11
 refine st_y ha11 rfl (y_conv ha11 rfl Try.underlying5 Try.underlying3 (r := s0) (IntWalk.i64_in _ (by omega))) ?_
 clear ha11 a11; intro a12 ha12
 refine st_y ha12 rfl (y_add ha12 rfl rfl (r := sz) (by rw [hsz]; exact (IntWalk.i64_in _ (by omega)))) ?_
 clear ha12 a12; intro a13 ha13
 refine st_y ha13 rfl (y_move ha13 rfl) ?_
 clear ha13 a13; intro a14 ha14
 refine st_y ha14 rfl (y_build ha14 rfl zc25cr fl25cr rfl (by dsimp only [setL, List.set] <;> rfl)) ?_
 clear ha14 a14; intro a15 ha15
 refine wpList_plain rfl (fun K hK => ?_)
 refine e_alloc ha15 m2 21 zc25cr rfl ?_
 clear ha15 a15 m2; intro g16 a17 w17 ha17 m17 hB17 hg17
 clear hB17 hg17
 refine hK _ _ ?_; clear hK K
 refine wpList_plain rfl (fun K hK => ?_)
 refine e_storeW ha17 m17 21 rfl rfl rfl rfl rfl sz25cr ?_
 clear m17; intro w18 m18 hB18
 clear hB18
 refine hK _ _ ?_; clear hK K
 refine wpList_nil ?_
 refine hK1 _ _ ?_; clear hK1; try clear K1
 refine wp_seq_k (fun K2 hK2 => ?_)
 have ha19 : Has 54 [(3, _), (10, _), (25, _), (11, _)] a17 := ha17.only [3, 10, 25, 11]; clear ha17
 refine wp_region_lit ?_
 refine st_y ha19 rfl (y_move ha19 rfl) ?_
 clear ha19 a17; intro a20 ha20
 refine st_y ha20 rfl (y_conv ha20 rfl Try.underlying5 Try.underlying3 (r := px) (IntWalk.i64_in _ (by omega))) ?_
 clear ha20 a20; intro a21 ha21
 refine st_y ha21 rfl (y_fieldAddr ha21 (off := 2) rfl Try.underlying25 rfl (s := 0) (by kernel_rfl) rfl) ?_
 clear ha21 a21; intro a22 ha22
 refine st_y ha22 rfl (y_loadB1 ha22 m18 (i := 21) rfl rfl rfl Try.underlying3 rfl) ?_
 clear ha22 a22; intro a23 ha23
 refine st_y ha23 rfl (y_rem ha23 rfl rfl (by omega) (r := pm) hpm) ?_
 clear ha23 a23; intro a24 ha24
 refine st_y ha24 rfl (y_add ha24 rfl rfl (r := pm + 1) (IntWalk.i64_in _ (by omega))) ?_
 clear ha24 a24; intro a25 ha25
 refine st_y ha25 rfl (y_fieldAddr ha25 (off := 4) rfl Try.underlying25 rfl (s := 0) (by kernel_rfl) rfl) ?_
 clear ha25 a25; intro a26 ha26
 refine wpList_plain rfl (fun K hK => ?_)
 refine e_store1 ha26 m18 21 rfl rfl rfl rfl rfl sz3cr (by dsimp only [List.set] <;> rfl) ?_
 clear m18; intro w27 m27 hB27
 clear hB27
 refine hK _ _ ?_; clear hK K
 refine wpList_nil ?_
 refine hK2 _ _ ?_; clear hK2; try clear K2
 refine wp_seq_k (fun K3 hK3 => ?_)
 refine wp_seq_k (fun K4 hK4 => ?_)
 have ha28 : Has 54 [(3, _), (10, _), (25, _), (11, _)] a26 := ha26.only [3, 10, 25, 11]; clear ha26
 refine wp_region_lit ?_
 refine st_y ha28 rfl (y_assign ha28 rfl) ?_
 clear ha28 a26; intro a29 ha29
 refine wpList_nil ?_
 refine hK4 _ _ ?_; clear hK4; try clear K4
 refine wp_block ?_
 refine wp_loop_ghost (fun g a w => ∃ (i A D : Nat) (q : Option Addr) (c : Nat), (i : Int) ≤ cc ∧ g = cc.toNat - i ∧ Has 54 [(3, .int .u8 px), (10, .pointer (some ⟨A, 0, none⟩)), (11, .pointer (some ⟨D, 0, none⟩)), (12, .int .i64 (i : Int))] a ∧ MemOk (cn w0) w0 [(8, .box A 25 [.int .i64 0, .int .i64 0, .int .i64 0, .int .i64 0, .int .i64 0, .slice none 0 0, .int .i64 0, .int .i64 0, .int .i64 0, .slice none 0 0]), (9, .box D 25 [.int .i64 1, .int .i64 vm, .int .i64 bl, .int .i64 sz, .int .i64 (pm + 1), .slice q (crL px i).length c, .int .i64 to, .int .i64 0, .int .i64 0, .slice none 0 0]), (10, .num (.slice q (crL px i).length c) 3 .i64 (crL px i))] w) (cc.toNat) ?_ ?_
 · have mz := m27.nilN 10 3 .i64
   exact ⟨0, _, _, _, _, by omega, rfl, ha29.only [3, 10, 11, 12], mz.ren [(8, 20), (9, 21), (10, 10)] (by decide)⟩
 ·
  clear ha29 m27
  rintro g a30 w30 ⟨i, A, D, q, c, hic, hg, ha30, m30⟩
  refine wp_seq_k (fun K5 hK5 => ?_)
  refine wp_seq_k (fun K6 hK6 => ?_)
  refine wp_region_lit ?_
  refine st_y ha30 rfl (y_move ha30 rfl) ?_
  clear ha30 a30; intro a31 ha31
  refine st_y ha31 rfl (y_fieldAddr ha31 (off := 2) rfl Try.underlying25 rfl (s := 0) (by kernel_rfl) rfl) ?_
  clear ha31 a31; intro a32 ha32
  refine st_y ha32 rfl (y_loadB1 ha32 m30 (i := 9) rfl rfl rfl Try.underlying3 rfl) ?_
  clear ha32 a32; intro a33 ha33
  refine st_y ha33 rfl (y_fieldAddr ha33 (off := 4) rfl Try.underlying25 rfl (s := 0) (by kernel_rfl) rfl) ?_
  clear ha33 a33; intro a34 ha34
  refine st_y ha34 rfl (y_loadB1 ha34 m30 (i := 9) rfl rfl rfl Try.underlying3 rfl) ?_
  clear ha34 a34; intro a35 ha35
  refine wpList_plain rfl (fun K hK => ?_)
  refine e_call ha35 Try.func33 rfl rfl rfl rfl (chunks_any bl (pm + 1) _ (by omega) (by omega)) ?_
  rintro e w36 ⟨rfl, hb36⟩
  have m37 := m30.later hb36
  clear m30
  clear hb36
  refine ⟨_, rfl, fun a38 ha38 => ?_⟩; clear ha35 a35
  refine hK _ _ ?_; clear hK K
  refine st_y ha38 rfl (y_lss ha38 rfl rfl) ?_
  clear ha38 a38; intro a39 ha39
  refine wpList_nil ?_
  refine hK6 _ _ ?_; clear hK6; try clear K6
  refine bool_cases ha39 (t := 39) rfl (fun hb40 ha40 => ?_) (fun hb40 ha40 => ?_)
  ·
   clear ha39
   try simp only [Q1x, Q2x, Q3x, Q4x, Q5x, Q6x, Q7x, Q8x, Q9x, Q0x, Qax, Qbx] at hb40
   rw [hcc] at hb40
   have hi9 : (i : Int) < cc := by omega
   refine wp_cond_true (ha40.ev (x := .tmp 39) rfl) ?_
   refine wp_skip ?_
   refine hK5 _ _ ?_; clear hK5; try clear K5
   refine wp_seq_k (fun K7 hK7 => ?_)
   refine wp_block ?_
   have ha41 : Has 54 [(3, _), (10, _), (11, _), (12, _)] a39 := ha40.only [3, 10, 11, 12]; clear ha40
   refine wp_region_lit ?_
   refine st_y ha41 rfl (y_fieldAddr ha41 (off := 5) rfl Try.underlying25 rfl (s := 0) (by kernel_rfl) rfl) ?_
   clear ha41 a39; intro a42 ha42
   refine st_y ha42 rfl (y_loadB1 ha42 m37 (i := 9) rfl rfl rfl Try.underlying22 rfl) ?_
   clear ha42 a42; intro a43 ha43
   refine st_y ha43 rfl (y_move ha43 rfl) ?_
   clear ha43 a43; intro a44 ha44
   refine st_y ha44 rfl (y_move ha44 rfl) ?_
   clear ha44 a44; intro a45 ha45
   refine st_y ha45 rfl (y_conv ha45 rfl Try.underlying5 Try.underlying3 (r := px) (IntWalk.i64_in _ (by omega))) ?_
   clear ha45 a45; intro a46 ha46
   refine st_y ha46 rfl (y_add ha46 rfl rfl (r := (i : Int) + px) (IntWalk.i64_in _ (by omega))) ?_
   clear ha46 a46; intro a47 ha47
   refine st_y ha47 rfl (y_rem ha47 rfl rfl (by decide) (Int.tmod_eq_emod_of_nonneg (by omega))) ?_
   clear ha47 a47; intro a48 ha48
   refine st_y ha48 rfl (y_add ha48 rfl rfl (r := 1 + ((i : Int) + px) % 2) (IntWalk.i64_in _ (by omega))) ?_
   clear ha48 a48; intro a49 ha49
   refine wpList_plain rfl (fun K hK => ?_)
   refine e_litN ha49 m37 100 (k := .i64) rfl rfl Try.underlying22 inf3cr rfl rfl rfl rfl ?_
   clear ha49 a49 m37; intro g50 a51 w51 ha51 m51
   refine hK _ _ ?_; clear hK K
   refine wpList_plain rfl (fun K hK => ?_)
   refine e_appN ha51 m51 10 rfl rfl rfl (m51.numsO (i := 100) rfl) Try.underlying22 inf3cr (by decide) (by simp [crL_len]; omega) rfl ?_
   clear ha51 a51 m51; intro p52 c52 a53 w53 ha53 m53
   refine hK _ _ ?_; clear hK K
   refine st_y ha53 rfl (y_fieldAddr ha53 (off := 5) rfl Try.underlying25 rfl (s := 0) (by kernel_rfl) rfl) ?_
   clear ha53 a53; intro a54 ha54
   refine wpList_plain rfl (fun K hK => ?_)
   refine e_store1 ha54 m53 9 rfl rfl rfl rfl rfl sz22cr (by dsimp only [List.set] <;> rfl) ?_
   clear m53; intro w55 m55 hB55
   clear hB55
   refine hK _ _ ?_; clear hK K
   refine wpList_nil ?_
   refine hK7 _ _ ?_; clear hK7; try clear K7
   have ha56 : Has 54 [(3, _), (10, _), (11, _), (12, _)] a54 := ha54.only [3, 10, 11, 12]; clear ha54
   refine wp_region_lit ?_
   refine st_y ha56 rfl (y_move ha56 rfl) ?_
   clear ha56 a54; intro a57 ha57
   refine st_y ha57 rfl (y_add ha57 rfl rfl (r := ((i + 1 : Nat) : Int)) (by rw [IntWalk.i64_in _ (by omega)]; omega)) ?_
   clear ha57 a57; intro a58 ha58
   refine st_y ha58 rfl (y_assign ha58 rfl) ?_
   clear ha58 a58; intro a59 ha59
   refine wpList_nil ?_
   show ∃ n', n' < _ ∧ _
   have hE : crL px i ++ [1 + ((i : Int) + px) % 2] = crL px (i + 1) := (crL_snoc px i).symm
   rw [hE] at m55
   exact ⟨cc.toNat - (i + 1), by omega, i + 1, _, _, _, _, by omega, rfl, ha59.only [3, 10, 11, 12], m55.only [8, 9, 10]⟩
  ·
   clear ha39
   try simp only [Q1x, Q2x, Q3x, Q4x, Q5x, Q6x, Q7x, Q8x, Q9x, Q0x, Qax, Qbx] at hb40
   rw [hcc] at hb40
   have hi9 : (i : Int) = cc := by omega
   refine wp_cond_false (ha40.ev (x := .tmp 39) rfl) ?_
   refine wp_exit ?_
   refine hK3 _ _ ?_; clear hK3; try clear K3
   refine wp_seq_k (fun K8 hK8 => ?_)
   have ha60 : Has 54 [(3, _), (10, _), (11, _), (12, _)] a39 := ha40.only [3, 10, 11, 12]; clear ha40
   refine wp_region_lit ?_
   refine st_y ha60 rfl (y_loadBR ha60 m37 (i := 9) rfl rfl Try.underlying25 rfl sz25cr (by simp) (by dsimp only [List.drop, List.take] <;> rfl)) ?_
   clear ha60 a39; intro a61 ha61
   refine wpList_plain rfl (fun K hK => ?_)
   refine e_storeW ha61 m37 8 rfl rfl rfl rfl rfl sz25cr ?_
   clear m37; intro w62 m62 hB62
   clear hB62
   refine hK _ _ ?_; clear hK K
   refine wpList_nil ?_
   refine hK8 _ _ ?_; clear hK8; try clear K8
   refine wp_ret ?_
   try dsimp only [Exit.then, Exit.inBlock]
   refine (retC (fn := Try.f14) ha61 m62 (i := 8) rfl rfl rfl Try.underlying25 rfl sz25cr ?_)
   have m63 := m62.freezeN 10 rfl; clear m62
   exact ⟨bl, sz, pm + 1, crL px i, _, _, by rw [hvm], by omega, by omega, by omega, by omega, by omega, by omega, ⟨crL_ok px i, by rw [crL_len, hcc]; exact hi9⟩, by rw [crL_len]; omega, m63.outF (i := 10) rfl, m63.below⟩
theorem sitem_any (bl : Int) (z : Nat) (l : List Int) (pl : Option Addr) (cl : Nat) (w0 : World) (h0 : Rd (fun _ => True) w0 (.slice pl l.length cl) (.ns .u8 l)) (hl : l.length ≤ 1000000) (hlb : ∀ j, j < l.length → 0 ≤ l.getD j 0 ∧ l.getD j 0 ≤ 255) (hz : z ≤ 1000) :
   Calls Try.prog 30 #[.int .i64 bl, .int .i64 (z : Int), .slice pl l.length cl] w0 fun e w' => ∃ (it : List (Int × List Int)) (p : Option Addr) (c : Nat), e = .returned (.slice p it.length c) ∧ it.length ≤ 8 ∧ ItPre (max bl 1) z it it.length ∧ ItsB it ∧ (l ≠ [] → 1 ≤ it.length) ∧ Rd (New w0) w' (.slice p it.length c) (.l 2 (it.map itD)) ∧ Below w0.heap.size w0 w' := by
 refine enter (fn := Try.f30) Try.func30 rfl Try.ntmps30 rfl (fun a0 ha0 => ?_)
 simp only [List.zipIdx_cons, List.zipIdx_nil, List.map_cons, List.map_nil, Nat.reduceAdd, Nat.zero_add] at ha0
 have m0 := MemOk.start (fun _ => False) w0
 obtain ⟨bb, hbb⟩ : ∃ x : Int, max bl 1 = x := ⟨_, rfl⟩
 refine wp_seq_k (fun K0 hK0 => ?_)
 refine wp_region_lit ?_
 refine st_y ha0 rfl (y_assign ha0 rfl) ?_
 clear ha0 a0; intro a1 ha1
 refine wpList_nil ?_
 refine hK0 _ _ ?_; clear hK0; try clear K0
 refine wp_seq_k (fun K1 hK1 => ?_)
 refine wp_region_lit ?_
 refine st_y ha1 rfl (y_assign ha1 rfl) ?_
 clear ha1 a1; intro a2 ha2
 refine wpList_nil ?_
 refine hK1 _ _ ?_; clear hK1; try clear K1
 refine wp_seq_k (fun K2 hK2 => ?_)
 refine wp_seq_k (fun K3 hK3 => ?_)
 refine wp_region_lit ?_
 refine st_y ha2 rfl (y_assign ha2 rfl) ?_
 clear ha2 a2; intro a3 ha3
 refine wpList_nil ?_
 refine hK3 _ _ ?_; clear hK3; try clear K3
 refine wp_block ?_
 refine wp_loop_ghost (fun g a w => ∃ (k : Nat) (it : List (Int × List Int)) (p : Option Addr) (c : Nat), k ≤ l.length ∧ g = l.length - k ∧ it.length ≤ 8 ∧ ItPre bb z it it.length ∧ ItsB it ∧ (0 < k → 1 ≤ it.length) ∧ Has 61 [(0, .int .i64 bl), (1, .int .i64 (z : Int)), (2, .slice pl l.length cl), (7, .slice p (it.map itD).length c), (8, .int .i64 k)] a ∧ MemOk (cn w0) w0 [(9, .seg (.slice p (it.map itD).length c) 67 2 (it.map itD))] w) (l.length) ?_ ?_
 · have mz := (m0.nilR 9 67 2).rowS 9 rfl
   exact ⟨0, [], _, _, Nat.zero_le _, rfl, by simp, (fun j hj => by simp at hj), (fun _ h => by cases h), (fun h => by omega), ha3.only [0, 1, 2, 7, 8], mz.only [9]⟩
 ·
  clear ha3 m0
  rintro g a4 w4 ⟨k, it, p, c, hkl, hg, hit8, hpre, hitb, hne, ha4, m4⟩
  refine wp_seq_k (fun K4 hK4 => ?_)
  refine wp_seq_k (fun K5 hK5 => ?_)
  refine wp_region_lit ?_
  refine st_y ha4 rfl (y_move ha4 rfl) ?_
  clear ha4 a4; intro a5 ha5
  refine st_y ha5 rfl (y_move ha5 rfl) ?_
  clear ha5 a5; intro a6 ha6
  refine st_y ha6 rfl (y_len ha6 rfl Try.underlying43) ?_
  clear ha6 a6; intro a7 ha7
  refine st_y ha7 rfl (y_lss ha7 rfl rfl) ?_
  clear ha7 a7; intro a8 ha8
  refine st_y ha8 rfl (y_move ha8 rfl) ?_
  clear ha8 a8; intro a9 ha9
  refine bool_cases ha9 (t := 16) rfl (fun hb10 ha10 => ?_) (fun hb10 ha10 => ?_)
  ·
   clear ha9
   try simp only [Q1x, Q2x, Q3x, Q4x, Q5x, Q6x, Q7x, Q8x, Q9x, Q0x, Qax, Qbx] at hb10
   have hk : k < l.length := by omega
   have hx := hlb k hk
   obtain ⟨b9, hb9e, hb9⟩ : ∃ x : Int, (l.getD k 0).tmod bb = x ∧ (0 ≤ x ∧ x < bb) := ⟨_, rfl, by rw [Int.tmod_eq_emod_of_nonneg (by omega)]; exact Int.emod_nonneg _ (by omega), by rw [Int.tmod_eq_emod_of_nonneg (by omega)]; exact Int.emod_lt_of_pos _ (by omega)⟩
   refine st_g ha10 rfl rfl rfl rfl (y_move ha10 rfl) ?_
   clear ha10 a9; intro a11 ha11
   refine st_g ha11 rfl rfl rfl rfl (y_len ha11 rfl Try.underlying23) ?_
   clear ha11 a11; intro a12 ha12
   refine st_g ha12 rfl rfl rfl rfl (y_lss ha12 rfl rfl) ?_
   clear ha12 a12; intro a13 ha13
   refine st_y ha13 rfl (y_pickT ha13 rfl rfl) ?_
   clear ha13 a13; intro a14 ha14
   refine wpList_nil ?_
   refine hK5 _ _ ?_; clear hK5; try clear K5
   refine bool_cases ha14 (t := 20) rfl (fun hb15 ha15 => ?_) (fun hb15 ha15 => ?_)
   ·
    clear ha14
    try simp only [Q1x, Q2x, Q3x, Q4x, Q5x, Q6x, Q7x, Q8x, Q9x, Q0x, Qax, Qbx] at hb15
    rw [List.length_map] at hb15
    refine wp_cond_true (ha15.ev (x := .tmp 20) rfl) ?_
    refine wp_skip ?_
    refine hK4 _ _ ?_; clear hK4; try clear K4
    refine wp_seq_k (fun K6 hK6 => ?_)
    refine wp_block ?_
    refine wp_seq_k (fun K7 hK7 => ?_)
    have ha16 : Has 61 [(0, _), (1, _), (2, _), (7, _), (8, _)] a14 := ha15.only [0, 1, 2, 7, 8]; clear ha15
    refine wp_region_lit ?_
    refine st_y ha16 rfl (y_move ha16 rfl) ?_
    clear ha16 a14; intro a17 ha17
    refine st_y ha17 rfl (y_move ha17 rfl) ?_
    clear ha17 a17; intro a18 ha18
    obtain ⟨gx19, ox19, hp19, hl19, hrg19⟩ := h0.extN (k) hk
    cases hp19; clear hl19
    refine st_y ha18 rfl (y_idx ha18 rfl rfl Try.underlying43 sz5is2 (k) rfl hk) ?_
    clear ha18 a18; intro a20 ha20
    refine st_y ha20 rfl (y_loadAt1 ha20 (hrg19 m4 rfl) (q := 0) rfl rfl rfl Try.underlying5 rfl) ?_
    clear ha20 a20; intro a21 ha21
    refine st_y ha21 rfl (y_conv ha21 rfl Try.underlying5 Try.underlying3 (r := l.getD k 0) (IntWalk.i64_in _ (by omega))) ?_
    clear ha21 a21; intro a22 ha22
    refine st_y ha22 rfl (y_move ha22 rfl) ?_
    clear ha22 a22; intro a23 ha23
    refine st_y ha23 rfl (y_max ha23 rfl rfl (r := bb) hbb) ?_
    clear ha23 a23; intro a24 ha24
    refine st_y ha24 rfl (y_rem ha24 rfl rfl (by omega) (r := b9) hb9e) ?_
    clear ha24 a24; intro a25 ha25
    refine st_y ha25 rfl (y_assign ha25 rfl) ?_
    clear ha25 a25; intro a26 ha26
    refine wpList_nil ?_
    refine hK7 _ _ ?_; clear hK7; try clear K7
    refine wp_seq_k (fun K8 hK8 => ?_)
    have ha27 : Has 61 [(0, _), (1, _), (2, _), (7, _), (8, _), (9, _)] a26 := ha26.only [0, 1, 2, 7, 8, 9]; clear ha26
    refine wp_region_lit ?_
    refine st_y ha27 rfl (y_assign ha27 rfl) ?_
    clear ha27 a26; intro a28 ha28
    refine wpList_nil ?_
    refine hK8 _ _ ?_; clear hK8; try clear K8
    refine wp_seq_k (fun K9 hK9 => ?_)
    refine wp_seq_k (fun K10 hK10 => ?_)
    refine wp_region_lit ?_
    refine st_y ha28 rfl (y_assign ha28 rfl) ?_
    clear ha28 a28; intro a29 ha29
    refine wpList_nil ?_
    refine hK10 _ _ ?_; clear hK10; try clear K10
    refine wp_block ?_
    refine wp_loop_ghost (fun g a w => ∃ (j : Nat) (tb : Bool) (p : Option Addr) (c : Nat), j ≤ it.length ∧ g = it.length - j ∧ (tb = true ↔ ∃ e ∈ it.take j, e.1 = b9) ∧ Has 61 [(0, .int .i64 bl), (1, .int .i64 (z : Int)), (2, .slice (some ⟨gx19, ox19, none⟩) l.length cl), (7, .slice p (it.map itD).length c), (8, .int .i64 k), (9, .int .i64 b9), (10, .bool tb), (11, .int .i64 j)] a ∧ MemOk (cn w0) w0 [(9, .seg (.slice p (it.map itD).length c) 67 2 (it.map itD))] w) (it.length) ?_ ?_
    · exact ⟨0, false, _, _, Nat.zero_le _, rfl, by simp, ha29.only [0, 1, 2, 7, 8, 9, 10, 11], m4.only [9]⟩
    ·
     clear ha29 m4
     rintro g a30 w30 ⟨j, tb, p, c, hjl, hg2, htb, ha30, m30⟩
     refine wp_seq_k (fun K11 hK11 => ?_)
     refine wp_seq_k (fun K12 hK12 => ?_)
     refine wp_region_lit ?_
     refine st_y ha30 rfl (y_move ha30 rfl) ?_
     clear ha30 a30; intro a31 ha31
     refine st_y ha31 rfl (y_move ha31 rfl) ?_
     clear ha31 a31; intro a32 ha32
     refine st_y ha32 rfl (y_len ha32 rfl Try.underlying23) ?_
     clear ha32 a32; intro a33 ha33
     refine st_y ha33 rfl (y_lss ha33 rfl rfl) ?_
     clear ha33 a33; intro a34 ha34
     refine wpList_nil ?_
     refine hK12 _ _ ?_; clear hK12; try clear K12
     refine bool_cases ha34 (t := 34) rfl (fun hb35 ha35 => ?_) (fun hb35 ha35 => ?_)
     ·
      clear ha34
      try simp only [Q1x, Q2x, Q3x, Q4x, Q5x, Q6x, Q7x, Q8x, Q9x, Q0x, Qax, Qbx] at hb35
      rw [List.length_map] at hb35
      have hj : j < it.length := by omega
      obtain ⟨⟨yb, yd⟩, hit⟩ : ∃ e, it[j]? = some e := ⟨_, List.getElem?_eq_getElem hj⟩
      refine wp_cond_true (ha35.ev (x := .tmp 34) rfl) ?_
      refine wp_skip ?_
      refine hK11 _ _ ?_; clear hK11; try clear K11
      refine wp_seq_k (fun K13 hK13 => ?_)
      refine wp_block ?_
      refine wp_region_lit ?_
      refine st_y ha35 rfl (y_move ha35 rfl) ?_
      clear ha35 a34; intro a36 ha36
      refine st_y ha36 rfl (y_move ha36 rfl) ?_
      clear ha36 a36; intro a37 ha37
      refine bool_cases ha37 (t := 38) rfl (fun hb38 ha38 => ?_) (fun hb38 ha38 => ?_)
      ·
       clear ha37
       try simp only [Q1x, Q2x, Q3x, Q4x, Q5x, Q6x, Q7x, Q8x, Q9x, Q0x, Qax, Qbx] at hb38
       refine st_skip ha38 rfl rfl rfl rfl ?_
       clear ha38 a37; intro a39 ha39
       refine st_skip ha39 rfl rfl rfl rfl ?_
       clear ha39 a39; intro a40 ha40
       refine st_skip ha40 rfl rfl rfl rfl ?_
       clear ha40 a40; intro a41 ha41
       refine st_skip ha41 rfl rfl rfl rfl ?_
       clear ha41 a41; intro a42 ha42
       refine st_skip ha42 rfl rfl rfl rfl ?_
       clear ha42 a42; intro a43 ha43
       refine st_skip ha43 rfl rfl rfl rfl ?_
       clear ha43 a43; intro a44 ha44
       refine st_skip ha44 rfl rfl rfl rfl ?_
       clear ha44 a44; intro a45 ha45
       refine st_y ha45 rfl (y_pickT ha45 rfl rfl) ?_
       clear ha45 a45; intro a46 ha46
       refine st_y ha46 rfl (y_assign ha46 rfl) ?_
       clear ha46 a46; intro a47 ha47
       refine wpList_nil ?_
       refine hK13 _ _ ?_; clear hK13; try clear K13
       have ha48 : Has 61 [(0, _), (1, _), (2, _), (7, _), (8, _), (9, _), (10, _), (11, _), (38, _)] a47 := ha47.only [0, 1, 2, 7, 8, 9, 10, 11, 38]; clear ha47
       refine wp_region_lit ?_
       refine st_y ha48 rfl (y_move ha48 rfl) ?_
       clear ha48 a47; intro a49 ha49
       refine st_y ha49 rfl (y_add ha49 rfl rfl (r := ((j + 1 : Nat) : Int)) (by rw [IntWalk.i64_in _ (by omega)]; omega)) ?_
       clear ha49 a49; intro a50 ha50
       refine st_y ha50 rfl (y_assign ha50 rfl) ?_
       clear ha50 a50; intro a51 ha51
       refine wpList_nil ?_
       show ∃ n', n' < _ ∧ _
       exact ⟨it.length - (j + 1), by omega, j + 1, _, _, _, by omega, rfl, there_snoc (tb := true) (hb38 ▸ htb) hit, ha51.only [0, 1, 2, 7, 8, 9, 10, 11], m30.only [9]⟩
      ·
       clear ha37
       try simp only [Q1x, Q2x, Q3x, Q4x, Q5x, Q6x, Q7x, Q8x, Q9x, Q0x, Qax, Qbx] at hb38
       refine st_g ha38 rfl rfl rfl rfl (y_move ha38 rfl) ?_
       clear ha38 a37; intro a52 ha52
       refine st_g ha52 rfl rfl rfl rfl (y_move ha52 rfl) ?_
       clear ha52 a52; intro a53 ha53
       obtain ⟨gs54, os54, vs54, hp54, hl54, hR54, hrg54⟩ := m30.openS (i := 9) rfl (j) (r := [.v (.int .i64 yb), .ns .u8 yd]) (itD_get hit)
       cases hp54; clear hl54 hR54 hrg54 vs54
       refine st_g ha53 rfl rfl rfl rfl (y_idx ha53 rfl rfl Try.underlying23 sz67is2 (j) rfl (by rw [List.length_map]; exact hj)) ?_
       clear ha53 a53; intro a55 ha55
       refine st_g ha55 rfl rfl rfl rfl (y_fieldAddrQ ha55 0 rfl Try.underlying67 rfl (s := 0) (by kernel_rfl) rfl) ?_
       clear ha55 a55; intro a56 ha56
       refine st_g ha56 rfl rfl rfl rfl (y_loadSV ha56 m30 (i := 9) rfl (j) (r := [.v (.int .i64 yb), .ns .u8 yd]) (itD_get hit) (q := 0) rfl rfl rfl Try.underlying3 rfl) ?_
       clear ha56 a56; intro a57 ha57
       refine st_g ha57 rfl rfl rfl rfl (y_move ha57 rfl) ?_
       clear ha57 a57; intro a58 ha58
       refine st_g ha58 rfl rfl rfl rfl (y_eql ha58 rfl rfl) ?_
       clear ha58 a58; intro a59 ha59
       refine st_y ha59 rfl (y_pickF ha59 rfl rfl) ?_
       clear ha59 a59; intro a60 ha60
       refine st_y ha60 rfl (y_assign ha60 rfl) ?_
       clear ha60 a60; intro a61 ha61
       refine wpList_nil ?_
       refine hK13 _ _ ?_; clear hK13; try clear K13
       have ha62 : Has 61 [(0, _), (1, _), (2, _), (7, _), (8, _), (9, _), (10, _), (11, _), (38, _)] a61 := ha61.only [0, 1, 2, 7, 8, 9, 10, 11, 38]; clear ha61
       refine wp_region_lit ?_
       refine st_y ha62 rfl (y_move ha62 rfl) ?_
       clear ha62 a61; intro a63 ha63
       refine st_y ha63 rfl (y_add ha63 rfl rfl (r := ((j + 1 : Nat) : Int)) (by rw [IntWalk.i64_in _ (by omega)]; omega)) ?_
       clear ha63 a63; intro a64 ha64
       refine st_y ha64 rfl (y_assign ha64 rfl) ?_
       clear ha64 a64; intro a65 ha65
       refine wpList_nil ?_
       show ∃ n', n' < _ ∧ _
       exact ⟨it.length - (j + 1), by omega, j + 1, _, _, _, by omega, rfl, there_snoc (tb := false) (hb38 ▸ htb) hit, ha65.only [0, 1, 2, 7, 8, 9, 10, 11], m30.only [9]⟩
     ·
      clear ha34
      try simp only [Q1x, Q2x, Q3x, Q4x, Q5x, Q6x, Q7x, Q8x, Q9x, Q0x, Qax, Qbx] at hb35
      rw [List.length_map] at hb35
      obtain rfl : j = it.length := by omega
      rw [List.take_length] at htb
      refine wp_cond_false (ha35.ev (x := .tmp 34) rfl) ?_
      refine wp_exit ?_
      refine hK9 _ _ ?_; clear hK9; try clear K9
      refine wp_seq_k (fun K14 hK14 => ?_)
      refine wp_region_lit ?_
      refine st_y ha35 rfl (y_move ha35 rfl) ?_
      clear ha35 a34; intro a66 ha66
      refine st_y ha66 rfl (y_not ha66 rfl) ?_
      clear ha66 a66; intro a67 ha67
      refine wpList_nil ?_
      refine hK14 _ _ ?_; clear hK14; try clear K14
      refine bool_cases ha67 (t := 48) rfl (fun hb68 ha68 => ?_) (fun hb68 ha68 => ?_)
      ·
       clear ha67
       try simp only [Q1x, Q2x, Q3x, Q4x, Q5x, Q6x, Q7x, Q8x, Q9x, Q0x, Qax, Qbx] at hb68
       have hno : ¬ ∃ e ∈ it, e.1 = b9 := fun h => by have h9 := htb.2 h; simp_all
       refine wp_cond_true (ha68.ev (x := .tmp 48) rfl) ?_
       refine wp_region_lit ?_
       refine st_y ha68 rfl (y_move ha68 rfl) ?_
       clear ha68 a67; intro a69 ha69
       refine st_y ha69 rfl (y_move ha69 rfl) ?_
       clear ha69 a69; intro a70 ha70
       refine st_y ha70 rfl (y_move ha70 rfl) ?_
       clear ha70 a70; intro a71 ha71
       refine st_y ha71 rfl (y_move ha71 rfl) ?_
       clear ha71 a71; intro a72 ha72
       refine st_y ha72 rfl (y_move ha72 rfl) ?_
       clear ha72 a72; intro a73 ha73
       obtain ⟨gx74, ox74, hp74, hl74, hrg74⟩ := h0.extN (k) hk
       cases hp74; clear hl74
       refine st_y ha73 rfl (y_idx ha73 rfl rfl Try.underlying43 sz5is2 (k) rfl hk) ?_
       clear ha73 a73; intro a75 ha75
       refine st_y ha75 rfl (y_loadAt1 ha75 (hrg74 m30 rfl) (q := 0) rfl rfl rfl Try.underlying5 rfl) ?_
       clear ha75 a75; intro a76 ha76
       refine wpList_plain rfl (fun K hK => ?_)
       refine e_call ha76 Try.func50 rfl rfl rfl rfl (data_any z (l.getD k 0) _ (by omega) (by omega)) ?_
       rintro e w77 ⟨d9, p77, c77, rfl, hd9l, hd9b, hd77, hb77⟩
       have m78 := m30.callF 200 rfl hb77 hd77
       clear m30
       clear hb77 hd77
       refine ⟨_, rfl, fun a79 ha79 => ?_⟩; clear ha76 a76
       refine hK _ _ ?_; clear hK K
       refine st_y ha79 rfl (y_build ha79 rfl zc67is2 fl67is2 rfl (by dsimp only [setL, List.set] <;> rfl)) ?_
       clear ha79 a79; intro a80 ha80
       refine wpList_plain rfl (fun K hK => ?_)
       refine e_litR ha80 m78 201 (mm := 2) rfl (.cons rfl rfl (.cons (.v _) (.cons (m78.rd (i := 200) rfl) .nil)) <| .nil) Try.underlying23 inf67is2 rfl rfl rfl rfl rfl ?_
       clear ha80 a80 m78; intro g81 a82 w82 ha82 m82
       refine hK _ _ ?_; clear hK K
       have m84 := m82.freezeR 201 rfl; clear m82
       refine wpList_plain rfl (fun K hK => ?_)
       refine e_appSA ha82 m84 9 rfl rfl rfl (m84.rd (i := 201) rfl).cells Try.underlying23 inf67is2 rfl rfl (by decide) (by simp; omega) rfl ?_
       clear ha82 a82 m84; intro p83 c83 a85 w85 ha85 m85
       refine hK _ _ ?_; clear hK K
       refine st_y ha85 rfl (y_assign ha85 rfl) ?_
       clear ha85 a85; intro a86 ha86
       refine wpList_nil ?_
       refine hK6 _ _ ?_; clear hK6; try clear K6
       have ha87 : Has 61 [(0, _), (1, _), (2, _), (7, _), (8, _), (9, _), (10, _), (11, _), (48, _)] a86 := ha86.only [0, 1, 2, 7, 8, 9, 10, 11, 48]; clear ha86
       refine wp_region_lit ?_
       refine st_y ha87 rfl (y_move ha87 rfl) ?_
       clear ha87 a86; intro a88 ha88
       refine st_y ha88 rfl (y_add ha88 rfl rfl (r := ((k + 1 : Nat) : Int)) (by rw [IntWalk.i64_in _ (by omega)]; omega)) ?_
       clear ha88 a88; intro a89 ha89
       refine st_y ha89 rfl (y_assign ha89 rfl) ?_
       clear ha89 a89; intro a90 ha90
       refine wpList_nil ?_
       show ∃ n', n' < _ ∧ _
       have hE : it.map itD ++ [[D.v (.int .i64 b9), .ns .u8 d9]] = (it ++ [(b9, d9)]).map itD := by rw [List.map_append]; rfl
       rw [hE] at m85 ha90
       skip
       exact ⟨l.length - (k + 1), by omega, k + 1, it ++ [(b9, d9)], _, _, by omega, rfl, by simp; omega, by rw [List.length_append]; exact itpre_app hpre hb9 (by omega) hno, itsB_snoc hitb (by omega) hd9b, fun _ => by simp, ha90.only [0, 1, 2, 7, 8], m85.only [9]⟩
      ·
       clear ha67
       try simp only [Q1x, Q2x, Q3x, Q4x, Q5x, Q6x, Q7x, Q8x, Q9x, Q0x, Qax, Qbx] at hb68
       have hsome : 1 ≤ it.length := by
         obtain ⟨e9, h9, -⟩ := htb.1 (by simp_all)
         exact List.length_pos_of_mem h9
       refine wp_cond_false (ha68.ev (x := .tmp 48) rfl) ?_
       refine wp_skip ?_
       refine hK6 _ _ ?_; clear hK6; try clear K6
       refine wp_region_lit ?_
       refine st_y ha68 rfl (y_move ha68 rfl) ?_
       clear ha68 a67; intro a91 ha91
       refine st_y ha91 rfl (y_add ha91 rfl rfl (r := ((k + 1 : Nat) : Int)) (by rw [IntWalk.i64_in _ (by omega)]; omega)) ?_
       clear ha91 a91; intro a92 ha92
       refine st_y ha92 rfl (y_assign ha92 rfl) ?_
       clear ha92 a92; intro a93 ha93
       refine wpList_nil ?_
       show ∃ n', n' < _ ∧ _
       exact ⟨l.length - (k + 1), by omega, k + 1, it, _, _, by omega, rfl, by omega, hpre, hitb, fun _ => hsome, ha93.only [0, 1, 2, 7, 8], m30.only [9]⟩
   ·
    clear ha14
    try simp only [Q1x, Q2x, Q3x, Q4x, Q5x, Q6x, Q7x, Q8x, Q9x, Q0x, Qax, Qbx] at hb15
    rw [List.length_map] at hb15
    refine wp_cond_false (ha15.ev (x := .tmp 20) rfl) ?_
    refine wp_exit ?_
    refine hK2 _ _ ?_; clear hK2; try clear K2
    refine wp_seq_k (fun K15 hK15 => ?_)
    have ha94 : Has 61 [(0, _), (1, _), (2, _), (7, _), (8, _)] a14 := ha15.only [0, 1, 2, 7, 8]; clear ha15
    refine wp_region_lit ?_
    refine st_y ha94 rfl (y_move ha94 rfl) ?_
    clear ha94 a14; intro a95 ha95
    refine st_y ha95 rfl (y_assign ha95 rfl) ?_
    clear ha95 a95; intro a96 ha96
    refine wpList_nil ?_
    refine hK15 _ _ ?_; clear hK15; try clear K15
    refine wp_ret ?_
    try dsimp only [Exit.then, Exit.inBlock]
    refine (ret1 (fn := Try.f30) ha96 rfl rfl ?_)
    have mf := m4.freezeS 9 rfl (by simp [cx])
    exact ⟨it, _, _, by rw [List.length_map], hit8, (by rw [hbb]; exact hpre), hitb, (fun h => by first | omega | (have h9 := List.length_pos_iff.2 h; exact hne (by omega))), by simpa using mf.outF (i := 9) rfl, m4.below⟩
  ·
   clear ha9
   try simp only [Q1x, Q2x, Q3x, Q4x, Q5x, Q6x, Q7x, Q8x, Q9x, Q0x, Qax, Qbx] at hb10
   obtain rfl : k = l.length := by omega
   refine st_skip ha10 rfl rfl rfl rfl ?_
   clear ha10 a9; intro a97 ha97
   refine st_skip ha97 rfl rfl rfl rfl ?_
   clear ha97 a97; intro a98 ha98
   refine st_skip ha98 rfl rfl rfl rfl ?_
   clear ha98 a98; intro a99 ha99
   refine st_y ha99 rfl (y_pickF ha99 rfl rfl) ?_
   clear ha99 a99; intro a100 ha100
   refine wpList_nil ?_
   refine hK5 _ _ ?_; clear hK5; try clear K5
   refine wp_cond_false (ha100.ev (x := .tmp 20) rfl) ?_
   refine wp_exit ?_
   refine hK2 _ _ ?_; clear hK2; try clear K2
   refine wp_seq_k (fun K16 hK16 => ?_)
   have ha101 : Has 61 [(0, _), (1, _), (2, _), (7, _), (8, _)] a100 := ha100.only [0, 1, 2, 7, 8]; clear ha100
   refine wp_region_lit ?_
   refine st_y ha101 rfl (y_move ha101 rfl) ?_
   clear ha101 a100; intro a102 ha102
   refine st_y ha102 rfl (y_assign ha102 rfl) ?_
   clear ha102 a102; intro a103 ha103
   refine wpList_nil ?_
   refine hK16 _ _ ?_; clear hK16; try clear K16
   refine wp_ret ?_
   try dsimp only [Exit.then, Exit.inBlock]
   refine (ret1 (fn := Try.f30) ha103 rfl rfl ?_)
   have mf := m4.freezeS 9 rfl (by simp [cx])
   exact ⟨it, _, _, by rw [List.length_map], hit8, (by rw [hbb]; exact hpre), hitb, (fun h => by first | omega | (have h9 := List.length_pos_iff.2 h; exact hne (by omega))), by simpa using mf.outF (i := 9) rfl, m4.below⟩
end Go.Proofs.Ytocfbocdnklllaa.K
