/- The reference's log: what reads it. -/
import Derived.Test.YtmdckdhogbbhlaaLog8
namespace Go.Proofs.Ytmdckdhogbbhlaa.K
open Go.ChangeShapes Go.WideShapes Go.ChangeAt Go.RowKit
set_option linter.unusedVariables false
set_option linter.unusedSimpArgs false


theorem sz32rt : (Try.prog.info? 32).map (·.size) = some 4 := by kernel_rfl
theorem inf32rf : (Try.prog.info? 32).map (fun i => (i.zero, i.size, i.bytes)) = some (some (.agg #[.int .i64 0, .int .i64 0, .int .i64 0, .slice none 0 0]), 4, 48) := by kernel_rfl
theorem sz32rf : (Try.prog.info? 32).map (·.size) = some 4 := by kernel_rfl
theorem inf32rn : (Try.prog.info? 32).map (fun i => (i.zero, i.size, i.bytes)) = some (some (.agg #[.int .i64 0, .int .i64 0, .int .i64 0, .slice none 0 0]), 4, 48) := by kernel_rfl
theorem ps41rn : placesS Try.prog 41 = some [(0, 4), (4, 1)] := by kernel_rfl
theorem sz28rn : (Try.prog.info? 28).map (·.size) = some 4 := by kernel_rfl
theorem sz29rn : (Try.prog.info? 29).map (·.size) = some 1 := by kernel_rfl
theorem sz32rn : (Try.prog.info? 32).map (·.size) = some 4 := by kernel_rfl
theorem zc41rn : ((Try.prog.info? 41).bind (·.zero)).map (·.cells.toList) = some [.int .i64 0, .int .i64 0, .slice none 0 0, .slice none 0 0, .slice none 0 0] := by kernel_rfl

/-- What From has gathered of the first k. -/
def rfr (es : List (Int × Int × Int × List Int)) (i q : Int) : Nat → List (Int × Int × Int × List Int)
  | 0 => []
  | k + 1 => if ((rfr es i q k).length : Int) < q ∧ k < es.length ∧ i ≤ (es.getD k e0).1 then rfr es i q k ++ [es.getD k e0] else rfr es i q k
theorem rfr_yes {es : List (Int × Int × Int × List Int)} {i q : Int} {k : Nat} {ei et ek : Int} {ed : List Int} (hes : es[k]? = some (ei, et, ek, ed)) (hq : ((rfr es i q k).length : Int) < q) (hi : i ≤ ei) : rfr es i q (k + 1) = rfr es i q k ++ [(ei, et, ek, ed)] := by
  have hk := (List.getElem?_eq_some_iff.1 hes).1
  have e : es.getD k e0 = (ei, et, ek, ed) := by rw [List.getD, hes]; rfl
  rw [rfr, e, if_pos ⟨hq, hk, hi⟩]
theorem rfr_no {es : List (Int × Int × Int × List Int)} {i q : Int} {k : Nat} {ei et ek : Int} {ed : List Int} (hes : es[k]? = some (ei, et, ek, ed)) (hq : ((rfr es i q k).length : Int) < q) (hi : ei < i) : rfr es i q (k + 1) = rfr es i q k := by
  have e : es.getD k e0 = (ei, et, ek, ed) := by rw [List.getD, hes]; rfl
  rw [rfr, e, if_neg (by rintro ⟨_, _, h⟩; have : i ≤ ei := h; omega)]
theorem rfr_len {es : List (Int × Int × Int × List Int)} {i q : Int} : ∀ k, (rfr es i q k).length ≤ k
  | 0 => Nat.le_refl _
  | k + 1 => by have := rfr_len (es := es) (i := i) (q := q) k; unfold rfr; split <;> simp <;> omega
theorem rfr_end1 {es : List (Int × Int × Int × List Int)} {i q : Int} {k : Nat} (h : k = es.length) : rfr es i q k = rfr es i q es.length := by rw [h]
theorem rfr_stay {es : List (Int × Int × Int × List Int)} {i q : Int} {k : Nat} (h : q ≤ (rfr es i q k).length) : ∀ j, rfr es i q (k + j) = rfr es i q k
  | 0 => rfl
  | j + 1 => by
    have ih := rfr_stay h j
    rw [← Nat.add_assoc, rfr, ih, if_neg (by rintro ⟨h1, _⟩; omega)]
theorem rfr_end2 {es : List (Int × Int × Int × List Int)} {i q : Int} {k : Nat} (hk : k ≤ es.length) (h : q ≤ (rfr es i q k).length) : rfr es i q k = rfr es i q es.length := by
  have := rfr_stay h (es.length - k)
  rw [show k + (es.length - k) = es.length from by omega] at this
  exact this.symm
theorem rfr_seq {bi : Int} {es : List (Int × Int × Int × List Int)} (hs : Seq bi es) {i q : Int} : ∀ k, k ≤ es.length → rfr es i q k = ((es.take k).drop (i - bi - 1).toNat).take q.toNat
  | 0, _ => by simp [rfr]
  | k + 1, hk => by
    have ih := rfr_seq hs (i := i) (q := q) k (by omega)
    obtain ⟨a, ha⟩ : ∃ a, (i - bi - 1).toNat = a := ⟨_, rfl⟩
    rw [ha] at ih ⊢
    have hx := hs k (by omega)
    have hes : es[k]? = some (es.getD k e0) := by rw [List.getD, List.getElem?_eq_getElem (by omega)]; rfl
    have hl : (es.take k).length = k := by rw [List.length_take]; omega
    rw [rfr, ih, take_snoc hes, List.drop_append, hl, List.take_append, List.length_drop, hl]
    have hlen : (((es.take k).drop a).take q.toNat).length = min q.toNat (k - a) := by rw [List.length_take, List.length_drop, hl]
    split
    · rename_i h
      rw [hlen, hx] at h
      rw [show a - k = 0 from by omega, List.drop_zero, show q.toNat - (k - a) = (q.toNat - (k - a) - 1) + 1 from by omega]
      simp
    · rename_i h
      rw [hlen, hx] at h
      by_cases h1 : k < a
      · rw [show a - k = (a - k - 1) + 1 from by omega]; simp
      · rw [show q.toNat - (k - a) = 0 from by omega]; simp
set_option maxRecDepth 100000
set_option maxHeartbeats 4000000
theorem rlast_any (B : Nat) (bi bt : Int) (cf d : List Int) (es : List (Int × Int × Int × List Int)) (pc pd pl : Option Addr) (cc cd cl : Nat) (w0 : World)  (hB : Blk w0 B 41 [.int .i64 bi, .int .i64 bt, .slice pc cf.length cc, .slice pd d.length cd, .slice pl (es.map entD).length cl]) (hl : Rd (fun _ => True) w0 (.slice pl (es.map entD).length cl) (.l 4 (es.map entD))) (hbi : -1000000000000000000 ≤ bi ∧ bi ≤ 1000000000000000000) (hn : es.length ≤ 1000000) :
    Calls Try.prog 21 #[.pointer (some ⟨B, 0, none⟩)] w0 fun e w' => e = .returned (.int .i64 (bi + es.length)) ∧ Below w0.heap.size w0 w' := by
  refine enter (fn := Try.f21) Try.func21 rfl Try.ntmps21 rfl (fun a0 ha0 => ?_)
  simp only [List.zipIdx_cons, List.zipIdx_nil, List.map_cons, List.map_nil, Nat.reduceAdd, Nat.zero_add] at ha0
  have m0 := MemOk.start (fun _ => False) w0
  refine wp_seq_k (fun K0 hK0 => ?_)
  refine wp_region_lit ?_
  refine st_y ha0 rfl (y_assign ha0 rfl) ?_
  clear ha0 a0; intro a1 ha1
  refine wpList_nil ?_
  refine hK0 _ _ ?_; clear hK0; try clear K0
  refine wp_seq_k (fun K1 hK1 => ?_)
  have m2 : MemOk _ _ [] _ := m0.only []; clear m0
  refine region_m 12 (B := []) (m2.to trivial) m2 (by kernel_rfl) (fun w3 mB3 m3 => ?_); clear m2 mB3
  refine d_y 0 ha1 rfl rfl (fun _ => (m3.to trivial)) (by kernel_rfl) (by kernel_rfl) (by kernel_rfl) (by rfl) (fun _ _ _ h => h) (fun W => y_move ha1 rfl) ?_
  clear ha1 a1; intro a4 ha4
  refine d_y 1 ha4 rfl rfl (fun _ => (m3.to trivial)) (by kernel_rfl) (by kernel_rfl) (by kernel_rfl) (by rfl) (fun _ _ _ h => h) (fun W => y_nilCheck ha4 rfl) ?_
  clear ha4 a4; intro a5 ha5
  refine d_y 2 ha5 rfl rfl (fun _ => (m3.to trivial)) (by kernel_rfl) (by kernel_rfl) (by kernel_rfl) (by rfl) (fun _ _ _ h => h) (fun W => y_fieldAddr ha5 (off := 0) rfl Try.underlying41 rfl (s := 3) (by kernel_rfl) rfl) ?_
  clear ha5 a5; intro a6 ha6
  refine d_y 3 ha6 rfl rfl (fun _ => (m3.to trivial)) (by kernel_rfl) (by kernel_rfl) (by kernel_rfl) (by rfl) (fun _ _ _ h => h) (fun W => y_fieldAddr ha6 (off := 0) rfl Try.underlying28 rfl (s := 0) (by kernel_rfl) rfl) ?_
  clear ha6 a6; intro a7 ha7
  refine d_h 4 ha7 rfl rfl (m3.to trivial) (by kernel_rfl) (by kernel_rfl) (by kernel_rfl) (by kernel_rfl) (by kernel_rfl) (fun _ _ _ h => h) (fun W hW => y_loadX1 ha7 (hB.now hW rfl) rfl rfl Try.underlying3 rfl) ?_
  clear ha7 a7; intro a8 ha8
  refine d_y 5 ha8 rfl rfl (fun _ => (m3.to trivial)) (by kernel_rfl) (by kernel_rfl) (by kernel_rfl) (by rfl) (fun _ _ _ h => h) (fun W => y_move ha8 rfl) ?_
  clear ha8 a8; intro a9 ha9
  refine d_y 6 ha9 rfl rfl (fun _ => (m3.to trivial)) (by kernel_rfl) (by kernel_rfl) (by kernel_rfl) (by rfl) (fun _ _ _ h => h) (fun W => y_nilCheck ha9 rfl) ?_
  clear ha9 a9; intro a10 ha10
  refine d_y 7 ha10 rfl rfl (fun _ => (m3.to trivial)) (by kernel_rfl) (by kernel_rfl) (by kernel_rfl) (by rfl) (fun _ _ _ h => h) (fun W => y_fieldAddr ha10 (off := 4) rfl Try.underlying41 rfl (s := 0) (by kernel_rfl) rfl) ?_
  clear ha10 a10; intro a11 ha11
  refine d_h 8 ha11 rfl rfl (m3.to trivial) (by kernel_rfl) (by kernel_rfl) (by kernel_rfl) (by kernel_rfl) (by kernel_rfl) (fun _ _ _ h => h) (fun W hW => y_loadX1 ha11 (hB.now hW rfl) rfl rfl Try.underlying29 rfl) ?_
  clear ha11 a11; intro a12 ha12
  refine d_y 9 ha12 rfl rfl (fun _ => (m3.to trivial)) (by kernel_rfl) (by kernel_rfl) (by kernel_rfl) (by rfl) (fun _ _ _ h => h) (fun W => y_len ha12 rfl Try.underlying29) ?_
  clear ha12 a12; intro a13 ha13
  refine d_y 10 ha13 rfl rfl (fun _ => (m3.to trivial)) (by kernel_rfl) (by kernel_rfl) (by kernel_rfl) (by rfl) (fun _ _ _ h => h) (fun W => y_add ha13 rfl rfl (r := bi + es.length) (by rw [List.length_map]; exact IntWalk.i64_in _ (by omega))) ?_
  clear ha13 a13; intro a14 ha14
  refine d_y 11 ha14 rfl rfl (fun _ => (m3.to trivial)) (by kernel_rfl) (by kernel_rfl) (by kernel_rfl) (by rfl) (fun _ _ _ h => h) (fun W => y_assign ha14 rfl) ?_
  clear ha14 a14; intro a15 ha15
  refine wpAnyE_done (by kernel_rfl) ?_ _
  refine hK1 _ _ ?_; clear hK1; try clear K1
  refine wp_ret ?_
  try dsimp only [Exit.then, Exit.inBlock]
  refine (ret1 (fn := Try.f21) ha15 rfl rfl ?_)
  exact ⟨rfl, m3.below⟩
theorem rterm_at (B : Nat) (bi bt : Int) (cf d : List Int) (es : List (Int × Int × Int × List Int)) (pc pd pl : Option Addr) (cc cd cl : Nat) (w0 : World)  (hB : Blk w0 B 41 [.int .i64 bi, .int .i64 bt, .slice pc cf.length cc, .slice pd d.length cd, .slice pl (es.map entD).length cl]) (hl : Rd (fun _ => True) w0 (.slice pl (es.map entD).length cl) (.l 4 (es.map entD))) (hbi : -1000000000000000000 ≤ bi ∧ bi ≤ 1000000000000000000) (hn : es.length ≤ 1000000) :
    Calls Try.prog 12 #[.pointer (some ⟨B, 0, none⟩), .int .i64 bi] w0 fun e w' => e = .returned (.int .i64 bt) ∧ Below w0.heap.size w0 w' := by
  refine enter (fn := Try.f12) Try.func12 rfl Try.ntmps12 rfl (fun a0 ha0 => ?_)
  simp only [List.zipIdx_cons, List.zipIdx_nil, List.map_cons, List.map_nil, Nat.reduceAdd, Nat.zero_add] at ha0
  have m0 := MemOk.start (fun _ => False) w0
  refine wp_seq_k (fun K0 hK0 => ?_)
  refine wp_region_lit ?_
  refine st_y ha0 rfl (y_assign ha0 rfl) ?_
  clear ha0 a0; intro a1 ha1
  refine wpList_nil ?_
  refine hK0 _ _ ?_; clear hK0; try clear K0
  refine wp_seq_k (fun K1 hK1 => ?_)
  refine wp_seq_k (fun K2 hK2 => ?_)
  refine wp_region_lit ?_
  refine st_y ha1 rfl (y_move ha1 rfl) ?_
  clear ha1 a1; intro a2 ha2
  refine st_y ha2 rfl (y_move ha2 rfl) ?_
  clear ha2 a2; intro a3 ha3
  refine st_y ha3 rfl (y_nilCheck ha3 rfl) ?_
  clear ha3 a3; intro a4 ha4
  refine st_y ha4 rfl (y_fieldAddr ha4 (off := 0) rfl Try.underlying41 rfl (s := 3) (by kernel_rfl) rfl) ?_
  clear ha4 a4; intro a5 ha5
  refine st_y ha5 rfl (y_fieldAddr ha5 (off := 0) rfl Try.underlying28 rfl (s := 0) (by kernel_rfl) rfl) ?_
  clear ha5 a5; intro a6 ha6
  refine st_y ha6 rfl (y_loadX1 ha6 (hB.now m0 rfl) rfl rfl Try.underlying3 rfl) ?_
  clear ha6 a6; intro a7 ha7
  refine st_y ha7 rfl (y_eql ha7 rfl rfl) ?_
  clear ha7 a7; intro a8 ha8
  refine wpList_nil ?_
  refine hK2 _ _ ?_; clear hK2; try clear K2
  refine bool_cases ha8 (t := 11) rfl (fun hb9 ha9 => ?_) (fun hb9 ha9 => ?_)
  rotate_left
  · exact absurd hb9 (by simp)
  clear ha8 hb9
  refine wp_cond_true (ha9.ev (x := .tmp 11) rfl) ?_
  refine wp_seq_k (fun K3 hK3 => ?_)
  have ha10 : Has 45 [(0, _), (1, _), (4, _)] a8 := ha9.only [0, 1, 4]; clear ha9
  refine wp_region_lit ?_
  refine st_y ha10 rfl (y_move ha10 rfl) ?_
  clear ha10 a8; intro a11 ha11
  refine st_y ha11 rfl (y_nilCheck ha11 rfl) ?_
  clear ha11 a11; intro a12 ha12
  refine st_y ha12 rfl (y_fieldAddr ha12 (off := 0) rfl Try.underlying41 rfl (s := 3) (by kernel_rfl) rfl) ?_
  clear ha12 a12; intro a13 ha13
  refine st_y ha13 rfl (y_fieldAddr ha13 (off := 1) rfl Try.underlying28 rfl (s := 0) (by kernel_rfl) rfl) ?_
  clear ha13 a13; intro a14 ha14
  refine st_y ha14 rfl (y_loadX1 ha14 (hB.now m0 rfl) rfl rfl Try.underlying3 rfl) ?_
  clear ha14 a14; intro a15 ha15
  refine st_y ha15 rfl (y_assign ha15 rfl) ?_
  clear ha15 a15; intro a16 ha16
  refine wpList_nil ?_
  refine hK3 _ _ ?_; clear hK3; try clear K3
  refine wp_ret ?_
  try dsimp only [Exit.then, Exit.inBlock]
  refine (ret1 (fn := Try.f12) ha16 rfl rfl ?_)
  exact ⟨rfl, m0.below⟩
theorem rterm_in (B : Nat) (bi bt : Int) (cf d : List Int) (es : List (Int × Int × Int × List Int)) (pc pd pl : Option Addr) (cc cd cl : Nat) (w0 : World) (k : Nat) (i : Int) {ei et ek : Int} {ed : List Int} (hB : Blk w0 B 41 [.int .i64 bi, .int .i64 bt, .slice pc cf.length cc, .slice pd d.length cd, .slice pl (es.map entD).length cl]) (hl : Rd (fun _ => True) w0 (.slice pl (es.map entD).length cl) (.l 4 (es.map entD))) (hbi : -1000000000000000000 ≤ bi ∧ bi ≤ 1000000000000000000) (hn : es.length ≤ 1000000) (hes : es[k]? = some (ei, et, ek, ed)) (hi : i = bi + 1 + k) :
    Calls Try.prog 12 #[.pointer (some ⟨B, 0, none⟩), .int .i64 i] w0 fun e w' => e = .returned (.int .i64 et) ∧ Below w0.heap.size w0 w' := by
  have hk := (List.getElem?_eq_some_iff.1 hes).1
  refine enter (fn := Try.f12) Try.func12 rfl Try.ntmps12 rfl (fun a0 ha0 => ?_)
  simp only [List.zipIdx_cons, List.zipIdx_nil, List.map_cons, List.map_nil, Nat.reduceAdd, Nat.zero_add] at ha0
  have m0 := MemOk.start (fun _ => False) w0
  refine wp_seq_k (fun K0 hK0 => ?_)
  refine wp_region_lit ?_
  refine st_y ha0 rfl (y_assign ha0 rfl) ?_
  clear ha0 a0; intro a1 ha1
  refine wpList_nil ?_
  refine hK0 _ _ ?_; clear hK0; try clear K0
  refine wp_seq_k (fun K1 hK1 => ?_)
  refine wp_seq_k (fun K2 hK2 => ?_)
  refine wp_region_lit ?_
  refine st_y ha1 rfl (y_move ha1 rfl) ?_
  clear ha1 a1; intro a2 ha2
  refine st_y ha2 rfl (y_move ha2 rfl) ?_
  clear ha2 a2; intro a3 ha3
  refine st_y ha3 rfl (y_nilCheck ha3 rfl) ?_
  clear ha3 a3; intro a4 ha4
  refine st_y ha4 rfl (y_fieldAddr ha4 (off := 0) rfl Try.underlying41 rfl (s := 3) (by kernel_rfl) rfl) ?_
  clear ha4 a4; intro a5 ha5
  refine st_y ha5 rfl (y_fieldAddr ha5 (off := 0) rfl Try.underlying28 rfl (s := 0) (by kernel_rfl) rfl) ?_
  clear ha5 a5; intro a6 ha6
  refine st_y ha6 rfl (y_loadX1 ha6 (hB.now m0 rfl) rfl rfl Try.underlying3 rfl) ?_
  clear ha6 a6; intro a7 ha7
  refine st_y ha7 rfl (y_eql ha7 rfl rfl) ?_
  clear ha7 a7; intro a8 ha8
  refine wpList_nil ?_
  refine hK2 _ _ ?_; clear hK2; try clear K2
  refine bool_cases ha8 (t := 11) rfl (fun hb9 ha9 => ?_) (fun hb9 ha9 => ?_)
  · exact absurd hb9 (by simp; omega)
  clear ha8 hb9
  refine wp_cond_false (ha9.ev (x := .tmp 11) rfl) ?_
  refine wp_skip ?_
  refine hK1 _ _ ?_; clear hK1; try clear K1
  refine wp_seq_k (fun K3 hK3 => ?_)
  refine wp_seq_k (fun K4 hK4 => ?_)
  have ha10 : Has 45 [(0, _), (1, _), (4, _)] a8 := ha9.only [0, 1, 4]; clear ha9
  refine wp_region_lit ?_
  refine st_y ha10 rfl (y_move ha10 rfl) ?_
  clear ha10 a8; intro a11 ha11
  refine st_y ha11 rfl (y_move ha11 rfl) ?_
  clear ha11 a11; intro a12 ha12
  refine st_y ha12 rfl (y_nilCheck ha12 rfl) ?_
  clear ha12 a12; intro a13 ha13
  refine st_y ha13 rfl (y_fieldAddr ha13 (off := 0) rfl Try.underlying41 rfl (s := 3) (by kernel_rfl) rfl) ?_
  clear ha13 a13; intro a14 ha14
  refine st_y ha14 rfl (y_fieldAddr ha14 (off := 0) rfl Try.underlying28 rfl (s := 0) (by kernel_rfl) rfl) ?_
  clear ha14 a14; intro a15 ha15
  refine st_y ha15 rfl (y_loadX1 ha15 (hB.now m0 rfl) rfl rfl Try.underlying3 rfl) ?_
  clear ha15 a15; intro a16 ha16
  refine st_y ha16 rfl (y_gtr ha16 rfl rfl) ?_
  clear ha16 a16; intro a17 ha17
  refine st_y ha17 rfl (y_move ha17 rfl) ?_
  clear ha17 a17; intro a18 ha18
  refine bool_cases ha18 (t := 24) rfl (fun hb19 ha19 => ?_) (fun hb19 ha19 => ?_)
  rotate_left
  · exact absurd hb19 (by simp; omega)
  clear ha18 hb19
  refine st_g ha19 rfl rfl rfl rfl (y_move ha19 rfl) ?_
  clear ha19 a18; intro a20 ha20
  refine st_g ha20 rfl rfl rfl rfl (y_move ha20 rfl) ?_
  clear ha20 a20; intro a21 ha21
  refine st_ge ha21 rfl rfl rfl rfl (fun K hK => ?_)
  refine e_call ha21 Try.func21 rfl rfl rfl rfl (rlast_any _ _ _ cf d es _ _ _ _ _ _ _ (hB.now m0 rfl) (hl.now' m0 rfl) hbi hn) ?_
  rintro e w22 ⟨rfl, hb22⟩
  have m23 := m0.later hb22
  clear m0
  clear hb22
  refine ⟨_, rfl, fun a24 ha24 => ?_⟩; clear ha21 a21
  refine hK _ _ ?_; clear hK K
  refine st_g ha24 rfl rfl rfl rfl (y_leq ha24 rfl rfl) ?_
  clear ha24 a24; intro a25 ha25
  refine st_y ha25 rfl (y_pickT ha25 rfl rfl) ?_
  clear ha25 a25; intro a26 ha26
  refine wpList_nil ?_
  refine hK4 _ _ ?_; clear hK4; try clear K4
  refine bool_cases ha26 (t := 29) rfl (fun hb27 ha27 => ?_) (fun hb27 ha27 => ?_)
  rotate_left
  · exact absurd hb27 (by simp; omega)
  clear ha26 hb27
  refine wp_cond_true (ha27.ev (x := .tmp 29) rfl) ?_
  refine wp_seq_k (fun K5 hK5 => ?_)
  have ha28 : Has 45 [(0, _), (1, _), (4, _)] a26 := ha27.only [0, 1, 4]; clear ha27
  obtain ⟨gx30, ox30, vx30, hp30, hl30, hR30, hrg30⟩ := hl.extA (k) (r := [.v (.int .i64 ei), .v (.int .i64 et), .v (.int .i64 ek), .ns .u8 ed]) (ent_get hes)
  cases hp30; clear hl30
  rcases hR30 with _ | ⟨hd30_0, _ | ⟨hd30_1, _ | ⟨hd30_2, _ | ⟨hd30_3, _ | _⟩⟩⟩⟩
  obtain rfl := hd30_0.v_out
  clear hd30_0
  obtain rfl := hd30_1.v_out
  clear hd30_1
  obtain rfl := hd30_2.v_out
  clear hd30_2
  obtain ⟨p31, c31, hv31, hw31⟩ := hd30_3.ns_shape; subst hv31
  have m32 : MemOk _ _ [] _ := m23.only []; clear m23
  refine region_m 16 (B := []) (m32.to trivial) m32 (by kernel_rfl) (fun w33 mB33 m33 => ?_); clear m32 mB33
  refine d_y 0 ha28 rfl rfl (fun _ => (m33.to trivial)) (by kernel_rfl) (by kernel_rfl) (by kernel_rfl) (by rfl) (fun _ _ _ h => h) (fun W => y_move ha28 rfl) ?_
  clear ha28 a26; intro a34 ha34
  refine d_y 1 ha34 rfl rfl (fun _ => (m33.to trivial)) (by kernel_rfl) (by kernel_rfl) (by kernel_rfl) (by rfl) (fun _ _ _ h => h) (fun W => y_nilCheck ha34 rfl) ?_
  clear ha34 a34; intro a35 ha35
  refine d_y 2 ha35 rfl rfl (fun _ => (m33.to trivial)) (by kernel_rfl) (by kernel_rfl) (by kernel_rfl) (by rfl) (fun _ _ _ h => h) (fun W => y_fieldAddr ha35 (off := 4) rfl Try.underlying41 rfl (s := 0) (by kernel_rfl) rfl) ?_
  clear ha35 a35; intro a36 ha36
  refine d_h 3 ha36 rfl rfl (m33.to trivial) (by kernel_rfl) (by kernel_rfl) (by kernel_rfl) (by kernel_rfl) (by kernel_rfl) (fun _ _ _ h => h) (fun W hW => y_loadX1 ha36 (hB.now hW rfl) rfl rfl Try.underlying29 rfl) ?_
  clear ha36 a36; intro a37 ha37
  refine d_y 4 ha37 rfl rfl (fun _ => (m33.to trivial)) (by kernel_rfl) (by kernel_rfl) (by kernel_rfl) (by rfl) (fun _ _ _ h => h) (fun W => y_move ha37 rfl) ?_
  clear ha37 a37; intro a38 ha38
  refine d_y 5 ha38 rfl rfl (fun _ => (m33.to trivial)) (by kernel_rfl) (by kernel_rfl) (by kernel_rfl) (by rfl) (fun _ _ _ h => h) (fun W => y_move ha38 rfl) ?_
  clear ha38 a38; intro a39 ha39
  refine d_y 6 ha39 rfl rfl (fun _ => (m33.to trivial)) (by kernel_rfl) (by kernel_rfl) (by kernel_rfl) (by rfl) (fun _ _ _ h => h) (fun W => y_nilCheck ha39 rfl) ?_
  clear ha39 a39; intro a40 ha40
  refine d_y 7 ha40 rfl rfl (fun _ => (m33.to trivial)) (by kernel_rfl) (by kernel_rfl) (by kernel_rfl) (by rfl) (fun _ _ _ h => h) (fun W => y_fieldAddr ha40 (off := 0) rfl Try.underlying41 rfl (s := 3) (by kernel_rfl) rfl) ?_
  clear ha40 a40; intro a41 ha41
  refine d_y 8 ha41 rfl rfl (fun _ => (m33.to trivial)) (by kernel_rfl) (by kernel_rfl) (by kernel_rfl) (by rfl) (fun _ _ _ h => h) (fun W => y_fieldAddr ha41 (off := 0) rfl Try.underlying28 rfl (s := 0) (by kernel_rfl) rfl) ?_
  clear ha41 a41; intro a42 ha42
  refine d_h 9 ha42 rfl rfl (m33.to trivial) (by kernel_rfl) (by kernel_rfl) (by kernel_rfl) (by kernel_rfl) (by kernel_rfl) (fun _ _ _ h => h) (fun W hW => y_loadX1 ha42 (hB.now hW rfl) rfl rfl Try.underlying3 rfl) ?_
  clear ha42 a42; intro a43 ha43
  refine d_y 10 ha43 rfl rfl (fun _ => (m33.to trivial)) (by kernel_rfl) (by kernel_rfl) (by kernel_rfl) (by rfl) (fun _ _ _ h => h) (fun W => y_sub ha43 rfl rfl (r := (k : Int) + 1) (by rw [IntWalk.i64_in _ (by omega)]; omega)) ?_
  clear ha43 a43; intro a44 ha44
  refine d_y 11 ha44 rfl rfl (fun _ => (m33.to trivial)) (by kernel_rfl) (by kernel_rfl) (by kernel_rfl) (by rfl) (fun _ _ _ h => h) (fun W => y_sub ha44 rfl rfl (r := (k : Int)) (by rw [IntWalk.i64_in _ (by omega)]; omega)) ?_
  clear ha44 a44; intro a45 ha45
  refine d_y 12 ha45 rfl rfl (fun _ => (m33.to trivial)) (by kernel_rfl) (by kernel_rfl) (by kernel_rfl) (by rfl) (fun _ _ _ h => h) (fun W => y_idx ha45 rfl rfl Try.underlying29 sz32rt (k) rfl (by rw [List.length_map]; exact hk)) ?_
  clear ha45 a45; intro a46 ha46
  refine d_y 13 ha46 rfl rfl (fun _ => (m33.to trivial)) (by kernel_rfl) (by kernel_rfl) (by kernel_rfl) (by rfl) (fun _ _ _ h => h) (fun W => y_fieldAddrQ ha46 1 rfl Try.underlying32 rfl (s := 0) (by kernel_rfl) rfl) ?_
  clear ha46 a46; intro a47 ha47
  refine d_h 14 ha47 rfl rfl (m33.to trivial) (by kernel_rfl) (by kernel_rfl) (by kernel_rfl) (by kernel_rfl) (by kernel_rfl) (fun _ _ _ h => h) (fun W hW => y_loadAt1 ha47 (hrg30 hW rfl) (q := 1) rfl rfl rfl Try.underlying3 rfl) ?_
  clear ha47 a47; intro a48 ha48
  refine d_y 15 ha48 rfl rfl (fun _ => (m33.to trivial)) (by kernel_rfl) (by kernel_rfl) (by kernel_rfl) (by rfl) (fun _ _ _ h => h) (fun W => y_assign ha48 rfl) ?_
  clear ha48 a48; intro a49 ha49
  refine wpAnyE_done (by kernel_rfl) ?_ _
  refine hK5 _ _ ?_; clear hK5; try clear K5
  refine wp_ret ?_
  try dsimp only [Exit.then, Exit.inBlock]
  refine (ret1 (fn := Try.f12) ha49 rfl rfl ?_)
  exact ⟨rfl, m33.below⟩
theorem rterm_out (B : Nat) (bi bt : Int) (cf d : List Int) (es : List (Int × Int × Int × List Int)) (pc pd pl : Option Addr) (cc cd cl : Nat) (w0 : World) (i : Int) (hB : Blk w0 B 41 [.int .i64 bi, .int .i64 bt, .slice pc cf.length cc, .slice pd d.length cd, .slice pl (es.map entD).length cl]) (hl : Rd (fun _ => True) w0 (.slice pl (es.map entD).length cl) (.l 4 (es.map entD))) (hbi : -1000000000000000000 ≤ bi ∧ bi ≤ 1000000000000000000) (hn : es.length ≤ 1000000) (hi : i < bi ∨ bi + es.length < i) :
    Calls Try.prog 12 #[.pointer (some ⟨B, 0, none⟩), .int .i64 i] w0 fun e w' => e = .returned (.int .i64 (-1)) ∧ Below w0.heap.size w0 w' := by
  refine enter (fn := Try.f12) Try.func12 rfl Try.ntmps12 rfl (fun a0 ha0 => ?_)
  simp only [List.zipIdx_cons, List.zipIdx_nil, List.map_cons, List.map_nil, Nat.reduceAdd, Nat.zero_add] at ha0
  have m0 := MemOk.start (fun _ => False) w0
  refine wp_seq_k (fun K0 hK0 => ?_)
  refine wp_region_lit ?_
  refine st_y ha0 rfl (y_assign ha0 rfl) ?_
  clear ha0 a0; intro a1 ha1
  refine wpList_nil ?_
  refine hK0 _ _ ?_; clear hK0; try clear K0
  refine wp_seq_k (fun K1 hK1 => ?_)
  refine wp_seq_k (fun K2 hK2 => ?_)
  refine wp_region_lit ?_
  refine st_y ha1 rfl (y_move ha1 rfl) ?_
  clear ha1 a1; intro a2 ha2
  refine st_y ha2 rfl (y_move ha2 rfl) ?_
  clear ha2 a2; intro a3 ha3
  refine st_y ha3 rfl (y_nilCheck ha3 rfl) ?_
  clear ha3 a3; intro a4 ha4
  refine st_y ha4 rfl (y_fieldAddr ha4 (off := 0) rfl Try.underlying41 rfl (s := 3) (by kernel_rfl) rfl) ?_
  clear ha4 a4; intro a5 ha5
  refine st_y ha5 rfl (y_fieldAddr ha5 (off := 0) rfl Try.underlying28 rfl (s := 0) (by kernel_rfl) rfl) ?_
  clear ha5 a5; intro a6 ha6
  refine st_y ha6 rfl (y_loadX1 ha6 (hB.now m0 rfl) rfl rfl Try.underlying3 rfl) ?_
  clear ha6 a6; intro a7 ha7
  refine st_y ha7 rfl (y_eql ha7 rfl rfl) ?_
  clear ha7 a7; intro a8 ha8
  refine wpList_nil ?_
  refine hK2 _ _ ?_; clear hK2; try clear K2
  refine bool_cases ha8 (t := 11) rfl (fun hb9 ha9 => ?_) (fun hb9 ha9 => ?_)
  · exact absurd hb9 (by simp; omega)
  clear ha8 hb9
  refine wp_cond_false (ha9.ev (x := .tmp 11) rfl) ?_
  refine wp_skip ?_
  refine hK1 _ _ ?_; clear hK1; try clear K1
  refine wp_seq_k (fun K3 hK3 => ?_)
  refine wp_seq_k (fun K4 hK4 => ?_)
  have ha10 : Has 45 [(0, _), (1, _), (4, _)] a8 := ha9.only [0, 1, 4]; clear ha9
  refine wp_region_lit ?_
  refine st_y ha10 rfl (y_move ha10 rfl) ?_
  clear ha10 a8; intro a11 ha11
  refine st_y ha11 rfl (y_move ha11 rfl) ?_
  clear ha11 a11; intro a12 ha12
  refine st_y ha12 rfl (y_nilCheck ha12 rfl) ?_
  clear ha12 a12; intro a13 ha13
  refine st_y ha13 rfl (y_fieldAddr ha13 (off := 0) rfl Try.underlying41 rfl (s := 3) (by kernel_rfl) rfl) ?_
  clear ha13 a13; intro a14 ha14
  refine st_y ha14 rfl (y_fieldAddr ha14 (off := 0) rfl Try.underlying28 rfl (s := 0) (by kernel_rfl) rfl) ?_
  clear ha14 a14; intro a15 ha15
  refine st_y ha15 rfl (y_loadX1 ha15 (hB.now m0 rfl) rfl rfl Try.underlying3 rfl) ?_
  clear ha15 a15; intro a16 ha16
  refine st_y ha16 rfl (y_gtr ha16 rfl rfl) ?_
  clear ha16 a16; intro a17 ha17
  refine st_y ha17 rfl (y_move ha17 rfl) ?_
  clear ha17 a17; intro a18 ha18
  refine bool_cases ha18 (t := 24) rfl (fun hb19 ha19 => ?_) (fun hb19 ha19 => ?_)
  · skip
    clear ha18
    try simp only [decide_eq_true_eq, decide_eq_false_iff_not, Bool.not_eq_true, Bool.not_eq_false, Bool.not_eq_eq_eq_not, Bool.not_true, Bool.not_false, Bool.not_not, Int.not_lt, Int.not_le, ne_eq, Decidable.not_not] at hb19
    refine st_g ha19 rfl rfl rfl rfl (y_move ha19 rfl) ?_
    clear ha19 a18; intro a20 ha20
    refine st_g ha20 rfl rfl rfl rfl (y_move ha20 rfl) ?_
    clear ha20 a20; intro a21 ha21
    refine st_ge ha21 rfl rfl rfl rfl (fun K hK => ?_)
    refine e_call ha21 Try.func21 rfl rfl rfl rfl (rlast_any _ _ _ cf d es _ _ _ _ _ _ _ (hB.now m0 rfl) (hl.now' m0 rfl) hbi hn) ?_
    rintro e w22 ⟨rfl, hb22⟩
    have m23 := m0.later hb22
    clear m0
    clear hb22
    refine ⟨_, rfl, fun a24 ha24 => ?_⟩; clear ha21 a21
    refine hK _ _ ?_; clear hK K
    refine st_g ha24 rfl rfl rfl rfl (y_leq ha24 rfl rfl) ?_
    clear ha24 a24; intro a25 ha25
    refine st_y ha25 rfl (y_pickT ha25 rfl rfl) ?_
    clear ha25 a25; intro a26 ha26
    refine wpList_nil ?_
    refine hK4 _ _ ?_; clear hK4; try clear K4
    refine bool_cases ha26 (t := 29) rfl (fun hb27 ha27 => ?_) (fun hb27 ha27 => ?_)
    · exact absurd hb27 (by simp; omega)
    clear ha26 hb27
    refine wp_cond_false (ha27.ev (x := .tmp 29) rfl) ?_
    refine wp_skip ?_
    refine hK3 _ _ ?_; clear hK3; try clear K3
    refine wp_seq_k (fun K5 hK5 => ?_)
    have ha28 : Has 45 [(4, _)] a26 := ha27.only [4]; clear ha27
    refine wp_region_lit ?_
    refine st_y ha28 rfl (y_assign ha28 rfl) ?_
    clear ha28 a26; intro a29 ha29
    refine wpList_nil ?_
    refine hK5 _ _ ?_; clear hK5; try clear K5
    refine wp_ret ?_
    try dsimp only [Exit.then, Exit.inBlock]
    refine (ret1 (fn := Try.f12) ha29 rfl rfl ?_)
    exact ⟨rfl, m23.below⟩
  · skip
    clear ha18
    try simp only [decide_eq_true_eq, decide_eq_false_iff_not, Bool.not_eq_true, Bool.not_eq_false, Bool.not_eq_eq_eq_not, Bool.not_true, Bool.not_false, Bool.not_not, Int.not_lt, Int.not_le, ne_eq, Decidable.not_not] at hb19
    refine st_skip ha19 rfl rfl rfl rfl ?_
    clear ha19 a18; intro a30 ha30
    refine st_skip ha30 rfl rfl rfl rfl ?_
    clear ha30 a30; intro a31 ha31
    refine st_skip ha31 rfl rfl rfl rfl ?_
    clear ha31 a31; intro a32 ha32
    refine st_skip ha32 rfl rfl rfl rfl ?_
    clear ha32 a32; intro a33 ha33
    refine st_y ha33 rfl (y_pickF ha33 rfl rfl) ?_
    clear ha33 a33; intro a34 ha34
    refine wpList_nil ?_
    refine hK4 _ _ ?_; clear hK4; try clear K4
    refine wp_cond_false (ha34.ev (x := .tmp 29) rfl) ?_
    refine wp_skip ?_
    refine hK3 _ _ ?_; clear hK3; try clear K3
    refine wp_seq_k (fun K6 hK6 => ?_)
    have ha35 : Has 45 [(4, _)] a34 := ha34.only [4]; clear ha34
    refine wp_region_lit ?_
    refine st_y ha35 rfl (y_assign ha35 rfl) ?_
    clear ha35 a34; intro a36 ha36
    refine wpList_nil ?_
    refine hK6 _ _ ?_; clear hK6; try clear K6
    refine wp_ret ?_
    try dsimp only [Exit.then, Exit.inBlock]
    refine (ret1 (fn := Try.f12) ha36 rfl rfl ?_)
    exact ⟨rfl, m0.below⟩
theorem rfrom_fr (X : Cx) (B : Nat) (bi bt : Int) (cf d : List Int) (es : List (Int × Int × Int × List Int)) (pc pd pl : Option Addr) (cc cd cl : Nat) (i q : Int) (w0 : World) (hn : es.length ≤ 1000000) (m0 : MemOk X w0 [(1, .box B 41 [.int .i64 bi, .int .i64 bt, .slice pc cf.length cc, .slice pd d.length cd, .slice pl (es.map entD).length cl]), (2, .seg (.slice pl (es.map entD).length cl) 32 4 (es.map entD)), (3, .dat (.slice pc cf.length cc) (.ns .i64 cf)), (4, .dat (.slice pd d.length cd) (.ns .u8 d))] w0) :
    Calls Try.prog 24 #[.pointer (some ⟨B, 0, none⟩), .int .i64 i, .int .i64 q] w0 fun e w' => ∃ (pl' : Option Addr) (cl' : Nat) (pr : Option Addr) (cr : Nat), e = .returned (.slice pr ((rfr es i q es.length).map entD).length cr) ∧ MemOk X w0 [(1, .box B 41 [.int .i64 bi, .int .i64 bt, .slice pc cf.length cc, .slice pd d.length cd, .slice pl' (es.map entD).length cl']), (2, .seg (.slice pl' (es.map entD).length cl') 32 4 (es.map entD)), (3, .dat (.slice pc cf.length cc) (.ns .i64 cf)), (4, .dat (.slice pd d.length cd) (.ns .u8 d)), (5, .dat (.slice pr ((rfr es i q es.length).map entD).length cr) (.l 4 ((rfr es i q es.length).map entD)))] w' := by
  refine enter (fn := Try.f24) Try.func24 rfl Try.ntmps24 rfl (fun a0 ha0 => ?_)
  simp only [List.zipIdx_cons, List.zipIdx_nil, List.map_cons, List.map_nil, Nat.reduceAdd, Nat.zero_add] at ha0
  refine wp_seq_k (fun K0 hK0 => ?_)
  refine wp_region_lit ?_
  refine st_y ha0 rfl (y_assign ha0 rfl) ?_
  clear ha0 a0; intro a1 ha1
  refine wpList_nil ?_
  refine hK0 _ _ ?_; clear hK0; try clear K0
  refine wp_seq_k (fun K1 hK1 => ?_)
  refine wp_region_lit ?_
  have m2 := m0.nilR 6 32 4
  clear m0
  refine st_y ha1 rfl (y_assign ha1 rfl) ?_
  clear ha1 a1; intro a3 ha3
  refine wpList_nil ?_
  refine hK1 _ _ ?_; clear hK1; try clear K1
  refine wp_seq_k (fun K2 hK2 => ?_)
  refine wp_seq_k (fun K3 hK3 => ?_)
  refine wp_region_lit ?_
  refine st_y ha3 rfl (y_assign ha3 rfl) ?_
  clear ha3 a3; intro a4 ha4
  refine wpList_nil ?_
  refine hK3 _ _ ?_; clear hK3; try clear K3
  refine wp_block ?_
  refine wp_loop_ghost (fun g a w => ∃ (k : Nat) (pl pr : Option Addr) (cl cr : Nat), k ≤ es.length ∧ g = es.length - k ∧ (rfr es i q k).length ≤ k ∧ Has 45 [(0, .pointer (some ⟨B, 0, none⟩)), (1, .int .i64 i), (2, .int .i64 q), (7, .slice pr ((rfr es i q k).map entD).length cr), (8, .int .i64 k)] a ∧ MemOk X w0 [(1, .box B 41 [.int .i64 bi, .int .i64 bt, .slice pc cf.length cc, .slice pd d.length cd, .slice pl (es.map entD).length cl]), (2, .seg (.slice pl (es.map entD).length cl) 32 4 (es.map entD)), (3, .dat (.slice pc cf.length cc) (.ns .i64 cf)), (4, .dat (.slice pd d.length cd) (.ns .u8 d)), (5, .row (.slice pr ((rfr es i q k).map entD).length cr) 32 4 ((rfr es i q k).map entD))] w) (es.length) ?_ ?_
  · exact ⟨0, _, _, _, _, Nat.zero_le _, rfl, Nat.le_refl _, ha4.only [0, 1, 2, 7, 8], m2.ren [(1, 1), (2, 2), (3, 3), (4, 4), (5, 6)] (by decide)⟩
  · skip
    clear ha4 m2
    rintro g a5 w5 ⟨k, pl, pr, cl, cr, hkl, hg, hrl, ha5, m5⟩
    refine wp_seq_k (fun K4 hK4 => ?_)
    refine wp_seq_k (fun K5 hK5 => ?_)
    refine wp_region_lit ?_
    refine st_y ha5 rfl (y_move ha5 rfl) ?_
    clear ha5 a5; intro a6 ha6
    refine st_y ha6 rfl (y_move ha6 rfl) ?_
    clear ha6 a6; intro a7 ha7
    refine st_y ha7 rfl (y_nilCheck ha7 rfl) ?_
    clear ha7 a7; intro a8 ha8
    refine st_y ha8 rfl (y_fieldAddr ha8 (off := 4) rfl Try.underlying41 rfl (s := 0) (by kernel_rfl) rfl) ?_
    clear ha8 a8; intro a9 ha9
    refine st_y ha9 rfl (y_loadB1 ha9 m5 (i := 1) rfl rfl rfl Try.underlying29 rfl) ?_
    clear ha9 a9; intro a10 ha10
    refine st_y ha10 rfl (y_len ha10 rfl Try.underlying29) ?_
    clear ha10 a10; intro a11 ha11
    refine st_y ha11 rfl (y_lss ha11 rfl rfl) ?_
    clear ha11 a11; intro a12 ha12
    refine st_y ha12 rfl (y_move ha12 rfl) ?_
    clear ha12 a12; intro a13 ha13
    refine bool_cases ha13 (t := 16) rfl (fun hb14 ha14 => ?_) (fun hb14 ha14 => ?_)
    · skip
      clear ha13
      try simp only [decide_eq_true_eq, decide_eq_false_iff_not, Bool.not_eq_true, Bool.not_eq_false, Bool.not_eq_eq_eq_not, Bool.not_true, Bool.not_false, Bool.not_not, Int.not_lt, Int.not_le, ne_eq, Decidable.not_not] at hb14
      have hk : k < es.length := by rw [List.length_map] at hb14; omega
      obtain ⟨⟨ei, et, ek, ed⟩, hes⟩ : ∃ e, es[k]? = some e := ⟨_, List.getElem?_eq_getElem hk⟩
      refine st_g ha14 rfl rfl rfl rfl (y_move ha14 rfl) ?_
      clear ha14 a13; intro a15 ha15
      refine st_g ha15 rfl rfl rfl rfl (y_len ha15 rfl Try.underlying29) ?_
      clear ha15 a15; intro a16 ha16
      refine st_g ha16 rfl rfl rfl rfl (y_move ha16 rfl) ?_
      clear ha16 a16; intro a17 ha17
      refine st_g ha17 rfl rfl rfl rfl (y_lss ha17 rfl rfl) ?_
      clear ha17 a17; intro a18 ha18
      refine st_y ha18 rfl (y_pickT ha18 rfl rfl) ?_
      clear ha18 a18; intro a19 ha19
      refine wpList_nil ?_
      refine hK5 _ _ ?_; clear hK5; try clear K5
      refine bool_cases ha19 (t := 21) rfl (fun hb20 ha20 => ?_) (fun hb20 ha20 => ?_)
      · skip
        clear ha19
        try simp only [decide_eq_true_eq, decide_eq_false_iff_not, Bool.not_eq_true, Bool.not_eq_false, Bool.not_eq_eq_eq_not, Bool.not_true, Bool.not_false, Bool.not_not, Int.not_lt, Int.not_le, ne_eq, Decidable.not_not] at hb20
        have hqk := hb20
        refine wp_cond_true (ha20.ev (x := .tmp 21) rfl) ?_
        refine wp_skip ?_
        refine hK4 _ _ ?_; clear hK4; try clear K4
        refine wp_seq_k (fun K6 hK6 => ?_)
        refine wp_block ?_
        refine wp_seq_k (fun K7 hK7 => ?_)
        have ha21 : Has 45 [(0, _), (1, _), (2, _), (7, _), (8, _), (16, _), (21, _)] a19 := ha20.only [0, 1, 2, 7, 8, 16, 21]; clear ha20
        refine wp_region_lit ?_
        refine st_y ha21 rfl (y_move ha21 rfl) ?_
        clear ha21 a19; intro a22 ha22
        refine st_y ha22 rfl (y_nilCheck ha22 rfl) ?_
        clear ha22 a22; intro a23 ha23
        refine st_y ha23 rfl (y_fieldAddr ha23 (off := 4) rfl Try.underlying41 rfl (s := 0) (by kernel_rfl) rfl) ?_
        clear ha23 a23; intro a24 ha24
        refine st_y ha24 rfl (y_loadB1 ha24 m5 (i := 1) rfl rfl rfl Try.underlying29 rfl) ?_
        clear ha24 a24; intro a25 ha25
        refine st_y ha25 rfl (y_move ha25 rfl) ?_
        clear ha25 a25; intro a26 ha26
        obtain ⟨gs27, os27, vs27, hp27, hl27, hR27, hsg27⟩ := m5.openS (i := 2) rfl (k) (r := [.v (.int .i64 ei), .v (.int .i64 et), .v (.int .i64 ek), .ns .u8 ed]) (ent_get hes)
        cases hp27; clear hl27
        rcases hR27 with _ | ⟨hd27_0, _ | ⟨hd27_1, _ | ⟨hd27_2, _ | ⟨hd27_3, _ | _⟩⟩⟩⟩
        obtain rfl := hd27_0.v_out
        clear hd27_0
        obtain rfl := hd27_1.v_out
        clear hd27_1
        obtain rfl := hd27_2.v_out
        clear hd27_2
        obtain ⟨p28, c28, hv28, hw28⟩ := hd27_3.ns_shape; subst hv28
        have m28 := m5.dat 100 rfl (hd27_3.cast (fun _ h => h)); clear m5 hd27_3
        refine st_y ha26 rfl (y_idx ha26 rfl rfl Try.underlying29 sz32rf (k) rfl (by rw [List.length_map]; exact hk)) ?_
        clear ha26 a26; intro a29 ha29
        refine st_y ha29 rfl (y_fieldAddrQ ha29 0 rfl Try.underlying32 rfl (s := 0) (by kernel_rfl) rfl) ?_
        clear ha29 a29; intro a30 ha30
        refine st_y ha30 rfl (y_loadAt1 ha30 hsg27 (q := 0) rfl rfl rfl Try.underlying3 rfl) ?_
        clear ha30 a30; intro a31 ha31
        refine st_y ha31 rfl (y_move ha31 rfl) ?_
        clear ha31 a31; intro a32 ha32
        refine st_y ha32 rfl (y_geq ha32 rfl rfl) ?_
        clear ha32 a32; intro a33 ha33
        refine wpList_nil ?_
        refine hK7 _ _ ?_; clear hK7; try clear K7
        refine bool_cases ha33 (t := 33) rfl (fun hb34 ha34 => ?_) (fun hb34 ha34 => ?_)
        · skip
          clear ha33
          try simp only [decide_eq_true_eq, decide_eq_false_iff_not, Bool.not_eq_true, Bool.not_eq_false, Bool.not_eq_eq_eq_not, Bool.not_true, Bool.not_false, Bool.not_not, Int.not_lt, Int.not_le, ne_eq, Decidable.not_not] at hb34
          refine wp_cond_true (ha34.ev (x := .tmp 33) rfl) ?_
          have ha35 : Has 45 [(0, _), (1, _), (2, _), (7, _), (8, _), (16, _), (21, _), (33, _)] a33 := ha34.only [0, 1, 2, 7, 8, 16, 21, 33]; clear ha34
          refine wp_region_lit ?_
          refine st_y ha35 rfl (y_move ha35 rfl) ?_
          clear ha35 a33; intro a36 ha36
          refine st_y ha36 rfl (y_move ha36 rfl) ?_
          clear ha36 a36; intro a37 ha37
          refine st_y ha37 rfl (y_nilCheck ha37 rfl) ?_
          clear ha37 a37; intro a38 ha38
          refine st_y ha38 rfl (y_fieldAddr ha38 (off := 4) rfl Try.underlying41 rfl (s := 0) (by kernel_rfl) rfl) ?_
          clear ha38 a38; intro a39 ha39
          refine st_y ha39 rfl (y_loadB1 ha39 m28 (i := 1) rfl rfl rfl Try.underlying29 rfl) ?_
          clear ha39 a39; intro a40 ha40
          refine st_y ha40 rfl (y_move ha40 rfl) ?_
          clear ha40 a40; intro a41 ha41
          obtain ⟨gs42, os42, vs42, hp42, hl42, hR42, hsg42⟩ := m28.openS (i := 2) rfl (k) (r := [.v (.int .i64 ei), .v (.int .i64 et), .v (.int .i64 ek), .ns .u8 ed]) (ent_get hes)
          cases hp42; clear hl42
          rcases hR42 with _ | ⟨hd42_0, _ | ⟨hd42_1, _ | ⟨hd42_2, _ | ⟨hd42_3, _ | _⟩⟩⟩⟩
          obtain rfl := hd42_0.v_out
          clear hd42_0
          obtain rfl := hd42_1.v_out
          clear hd42_1
          obtain rfl := hd42_2.v_out
          clear hd42_2
          obtain ⟨p43, c43, hv43, hw43⟩ := hd42_3.ns_shape; subst hv43
          have m43 := m28.dat 101 rfl (hd42_3.cast (fun _ h => h)); clear m28 hd42_3
          refine st_y ha41 rfl (y_idx ha41 rfl rfl Try.underlying29 sz32rf (k) rfl (by rw [List.length_map]; exact hk)) ?_
          clear ha41 a41; intro a44 ha44
          refine st_y ha44 rfl (y_loadAt ha44 hsg42 rfl Try.underlying32 rfl sz32rf) ?_
          clear ha44 a44; intro a45 ha45
          refine wpList_plain rfl (fun K hK => ?_)
          refine e_litR ha45 m43 102 (mm := 4) rfl (.cons rfl rfl (.cons (.v _) (.cons (.v _) (.cons (.v _) (.cons (m43.rd (i := 101) rfl) .nil)))) <| .nil) Try.underlying29 inf32rf rfl rfl rfl rfl rfl ?_
          clear ha45 a45 m43; intro g46 a47 w47 ha47 m47 
          refine hK _ _ ?_; clear hK K
          have m49 := m47.freezeR 102 rfl; clear m47
          refine wpList_plain rfl (fun K hK => ?_)
          refine e_appR ha47 m49 5 rfl rfl rfl (m49.rd (i := 102) rfl) Try.underlying29 inf32rf rfl rfl (by decide) (by simp; omega) rfl ?_
          clear ha47 a47 m49; intro p48 c48 a50 w50 ha50 m50 
          refine hK _ _ ?_; clear hK K
          refine st_y ha50 rfl (y_assign ha50 rfl) ?_
          clear ha50 a50; intro a51 ha51
          refine wpList_nil ?_
          refine hK6 _ _ ?_; clear hK6; try clear K6
          have ha52 : Has 45 [(0, _), (1, _), (2, _), (7, _), (8, _), (16, _), (21, _), (33, _)] a51 := ha51.only [0, 1, 2, 7, 8, 16, 21, 33]; clear ha51
          refine wp_region_lit ?_
          refine st_y ha52 rfl (y_move ha52 rfl) ?_
          clear ha52 a51; intro a53 ha53
          refine st_y ha53 rfl (y_add ha53 rfl rfl (r := ((k + 1 : Nat) : Int)) (by rw [IntWalk.i64_in _ (by omega)]; omega)) ?_
          clear ha53 a53; intro a54 ha54
          refine st_y ha54 rfl (y_assign ha54 rfl) ?_
          clear ha54 a54; intro a55 ha55
          refine wpList_nil ?_
          show ∃ n', n' < _ ∧ _
          have hqk2 : ((rfr es i q k).length : Int) < q := by rw [List.length_map] at hqk; exact hqk
          have hE : (rfr es i q k).map entD ++ [[D.v (.int .i64 ei), .v (.int .i64 et), .v (.int .i64 ek), .ns .u8 ed]] = (rfr es i q (k + 1)).map entD := by rw [rfr_yes hes hqk2 hb34, List.map_append]; rfl
          rw [hE] at m50 ha55
          exact ⟨es.length - (k + 1), by omega, k + 1, _, _, _, _, by omega, rfl, rfr_len _, ha55.only [0, 1, 2, 7, 8], m50.ren [(1, 1), (2, 2), (3, 3), (4, 4), (5, 5)] (by decide)⟩
        · skip
          clear ha33
          try simp only [decide_eq_true_eq, decide_eq_false_iff_not, Bool.not_eq_true, Bool.not_eq_false, Bool.not_eq_eq_eq_not, Bool.not_true, Bool.not_false, Bool.not_not, Int.not_lt, Int.not_le, ne_eq, Decidable.not_not] at hb34
          refine wp_cond_false (ha34.ev (x := .tmp 33) rfl) ?_
          refine wp_skip ?_
          refine hK6 _ _ ?_; clear hK6; try clear K6
          have ha56 : Has 45 [(0, _), (1, _), (2, _), (7, _), (8, _), (16, _), (21, _), (33, _)] a33 := ha34.only [0, 1, 2, 7, 8, 16, 21, 33]; clear ha34
          refine wp_region_lit ?_
          refine st_y ha56 rfl (y_move ha56 rfl) ?_
          clear ha56 a33; intro a57 ha57
          refine st_y ha57 rfl (y_add ha57 rfl rfl (r := ((k + 1 : Nat) : Int)) (by rw [IntWalk.i64_in _ (by omega)]; omega)) ?_
          clear ha57 a57; intro a58 ha58
          refine st_y ha58 rfl (y_assign ha58 rfl) ?_
          clear ha58 a58; intro a59 ha59
          refine wpList_nil ?_
          show ∃ n', n' < _ ∧ _
          have hqk2 : ((rfr es i q k).length : Int) < q := by rw [List.length_map] at hqk; exact hqk
          rw [← rfr_no hes hqk2 hb34] at m28 ha59
          exact ⟨es.length - (k + 1), by omega, k + 1, _, _, _, _, by omega, rfl, rfr_len _, ha59.only [0, 1, 2, 7, 8], m28.ren [(1, 1), (2, 2), (3, 3), (4, 4), (5, 5)] (by decide)⟩
      · skip
        clear ha19
        try simp only [decide_eq_true_eq, decide_eq_false_iff_not, Bool.not_eq_true, Bool.not_eq_false, Bool.not_eq_eq_eq_not, Bool.not_true, Bool.not_false, Bool.not_not, Int.not_lt, Int.not_le, ne_eq, Decidable.not_not] at hb20
        refine wp_cond_false (ha20.ev (x := .tmp 21) rfl) ?_
        refine wp_exit ?_
        refine hK2 _ _ ?_; clear hK2; try clear K2
        refine wp_seq_k (fun K8 hK8 => ?_)
        have ha60 : Has 45 [(0, _), (1, _), (2, _), (7, _), (8, _), (16, _), (21, _)] a19 := ha20.only [0, 1, 2, 7, 8, 16, 21]; clear ha20
        refine wp_region_lit ?_
        refine st_y ha60 rfl (y_move ha60 rfl) ?_
        clear ha60 a19; intro a61 ha61
        refine st_y ha61 rfl (y_assign ha61 rfl) ?_
        clear ha61 a61; intro a62 ha62
        refine wpList_nil ?_
        refine hK8 _ _ ?_; clear hK8; try clear K8
        refine wp_ret ?_
        try dsimp only [Exit.then, Exit.inBlock]
        refine (ret1 (fn := Try.f24) ha62 rfl rfl ?_)
        have m63 := m5.freezeR 5 rfl; clear m5
        have hE9 := (rfr_end2 (es := es) (i := i) (q := q) hkl (by have := hb20; rw [List.length_map] at this; omega))
        rw [hE9] at m63
        rw [hE9]
        exact ⟨_, _, _, _, rfl, m63.ren [(1, 1), (2, 2), (3, 3), (4, 4), (5, 5)] (by decide)⟩
    · skip
      clear ha13
      try simp only [decide_eq_true_eq, decide_eq_false_iff_not, Bool.not_eq_true, Bool.not_eq_false, Bool.not_eq_eq_eq_not, Bool.not_true, Bool.not_false, Bool.not_not, Int.not_lt, Int.not_le, ne_eq, Decidable.not_not] at hb14
      refine st_skip ha14 rfl rfl rfl rfl ?_
      clear ha14 a13; intro a64 ha64
      refine st_skip ha64 rfl rfl rfl rfl ?_
      clear ha64 a64; intro a65 ha65
      refine st_skip ha65 rfl rfl rfl rfl ?_
      clear ha65 a65; intro a66 ha66
      refine st_skip ha66 rfl rfl rfl rfl ?_
      clear ha66 a66; intro a67 ha67
      refine st_y ha67 rfl (y_pickF ha67 rfl rfl) ?_
      clear ha67 a67; intro a68 ha68
      refine wpList_nil ?_
      refine hK5 _ _ ?_; clear hK5; try clear K5
      refine wp_cond_false (ha68.ev (x := .tmp 21) rfl) ?_
      refine wp_exit ?_
      refine hK2 _ _ ?_; clear hK2; try clear K2
      refine wp_seq_k (fun K9 hK9 => ?_)
      have ha69 : Has 45 [(0, _), (1, _), (2, _), (7, _), (8, _), (16, _), (21, _)] a68 := ha68.only [0, 1, 2, 7, 8, 16, 21]; clear ha68
      refine wp_region_lit ?_
      refine st_y ha69 rfl (y_move ha69 rfl) ?_
      clear ha69 a68; intro a70 ha70
      refine st_y ha70 rfl (y_assign ha70 rfl) ?_
      clear ha70 a70; intro a71 ha71
      refine wpList_nil ?_
      refine hK9 _ _ ?_; clear hK9; try clear K9
      refine wp_ret ?_
      try dsimp only [Exit.then, Exit.inBlock]
      refine (ret1 (fn := Try.f24) ha71 rfl rfl ?_)
      have m72 := m5.freezeR 5 rfl; clear m5
      have hE9 := (rfr_end1 (es := es) (i := i) (q := q) (k := k) (by have h9 := hb14; have h8 : (es.map entD).length = es.length := List.length_map _; omega))
      rw [hE9] at m72
      rw [hE9]
      exact ⟨_, _, _, _, rfl, m72.ren [(1, 1), (2, 2), (3, 3), (4, 4), (5, 5)] (by decide)⟩
theorem rnew_fr (X : Cx) (bi bt : Int) (cf d : List Int) (ls : List (Int × Int × Int × List Int)) (pc pd pa : Option Addr) (cc cd ca nn : Nat) (w0 : World) (hbi : -1000000000000000000 ≤ bi ∧ bi ≤ 1000000000000000000) (hn : ls.length ≤ 1000000) (m0 : MemOk X w0 [(5, .dat (.slice pc cf.length cc) (.ns .i64 cf)), (6, .dat (.slice pd d.length cd) (.ns .u8 d)), (7, .dat (.slice pa nn ca) (.l 4 (ls.map entD)))] w0) :
    Calls Try.prog 10 #[.agg #[.int .i64 bi, .int .i64 bt, .slice pc cf.length cc, .slice pd d.length cd], .slice pa nn ca] w0 fun e w' => ∃ (B : Nat) (pl' : Option Addr) (cl' : Nat), e = .returned (.pointer (some ⟨B, 0, none⟩)) ∧ MemOk X w0 [(1, .box B 41 [.int .i64 bi, .int .i64 bt, .slice pc cf.length cc, .slice pd d.length cd, .slice pl' ((ls.take (runN bi ls)).map entD).length cl']), (2, .seg (.slice pl' ((ls.take (runN bi ls)).map entD).length cl') 32 4 ((ls.take (runN bi ls)).map entD)), (3, .dat (.slice pc cf.length cc) (.ns .i64 cf)), (4, .dat (.slice pd d.length cd) (.ns .u8 d))] w' := by
  obtain rfl : nn = ls.length := by obtain ⟨pq, cq, hv, _⟩ := (m0.rd (i := 7) rfl).l_shape; injection hv with _ e2 _; rw [List.length_map] at e2; exact e2
  refine enter (fn := Try.f10) Try.func10 rfl Try.ntmps10 rfl (fun a0 ha0 => ?_)
  simp only [List.zipIdx_cons, List.zipIdx_nil, List.map_cons, List.map_nil, Nat.reduceAdd, Nat.zero_add] at ha0
  refine wp_seq_k (fun K0 hK0 => ?_)
  refine wp_region_lit ?_
  refine wpList_plain rfl (fun K hK => ?_)
  refine e_box ha0 m0 8 (cs := [_, _, _, _]) rfl rfl rfl ?_
  clear ha0 a0 m0; intro g1 a2 w2 ha2 m2 hB2 hg2
  clear hB2 hg2
  refine hK _ _ ?_; clear hK K
  refine st_y ha2 rfl (y_assign ha2 rfl) ?_
  clear ha2 a2; intro a3 ha3
  refine wpList_nil ?_
  refine hK0 _ _ ?_; clear hK0; try clear K0
  refine wp_seq_k (fun K1 hK1 => ?_)
  refine wp_region_lit ?_
  refine st_y ha3 rfl (y_loadBR ha3 m2 (i := 8) rfl rfl Try.underlying28 rfl sz28rn (by simp) (by dsimp only [List.drop, List.take] <;> rfl)) ?_
  clear ha3 a3; intro a4 ha4
  refine st_y ha4 rfl (y_buildG ha4 rfl zc41rn ps41rn rfl) ?_
  clear ha4 a4; intro a5 ha5
  refine wpList_plain rfl (fun K hK => ?_)
  refine e_box ha5 m2 9 (cs := [_, _, _, _, _]) rfl rfl rfl ?_
  clear ha5 a5 m2; intro g6 a7 w7 ha7 m7 hB7 hg7
  clear hB7 hg7
  refine hK _ _ ?_; clear hK K
  refine st_y ha7 rfl (y_assign ha7 rfl) ?_
  clear ha7 a7; intro a8 ha8
  refine wpList_nil ?_
  refine hK1 _ _ ?_; clear hK1; try clear K1
  refine wp_seq_k (fun K2 hK2 => ?_)
  refine wp_seq_k (fun K3 hK3 => ?_)
  refine wp_region_lit ?_
  refine st_y ha8 rfl (y_assign ha8 rfl) ?_
  clear ha8 a8; intro a9 ha9
  refine wpList_nil ?_
  refine hK3 _ _ ?_; clear hK3; try clear K3
  refine wp_block ?_
  have m10 := m7.nilS 2 32 4; clear m7
  refine wp_loop_ghost (fun g a w => ∃ (k B C : Nat) (pl pa : Option Addr) (cl ca : Nat), k ≤ ls.length ∧ g = ls.length - k ∧ (∀ j, j < k → (ls.getD j e0).1 = bi + 1 + j) ∧ Has 43 [(1, .slice pa ls.length ca), (2, .pointer (some ⟨C, 0, none⟩)), (5, .pointer (some ⟨B, 0, none⟩)), (6, .int .i64 k)] a ∧ MemOk X w0 [(1, .box B 41 [.int .i64 bi, .int .i64 bt, .slice pc cf.length cc, .slice pd d.length cd, .slice pl ((ls.take k).map entD).length cl]), (2, .seg (.slice pl ((ls.take k).map entD).length cl) 32 4 ((ls.take k).map entD)), (3, .dat (.slice pc cf.length cc) (.ns .i64 cf)), (4, .dat (.slice pd d.length cd) (.ns .u8 d)), (7, .dat (.slice pa ls.length ca) (.l 4 (ls.map entD))), (8, .box C 28 [.int .i64 bi, .int .i64 bt, .slice pc cf.length cc, .slice pd d.length cd])] w) (ls.length) ?_ ?_
  · exact ⟨0, _, _, none, _, 0, _, Nat.zero_le _, rfl, (fun j hj => by omega), ha9.only [1, 2, 5, 6], m10.ren [(1, 9), (2, 2), (3, 5), (4, 6), (7, 7), (8, 8)] (by decide)⟩
  · skip
    clear ha9 m10
    rintro g a11 w11 ⟨k, B, C, pl, pa, cl, ca, hkl, hg, hrun, ha11, m11⟩
    rcases Nat.lt_or_eq_of_le hkl with hlt | heq
    · skip
      obtain ⟨⟨ei, et, ek, ed⟩, hes⟩ : ∃ e, ls[k]? = some e := ⟨_, List.getElem?_eq_getElem hlt⟩
      refine wp_seq_k (fun K4 hK4 => ?_)
      refine wp_seq_k (fun K5 hK5 => ?_)
      obtain ⟨b12, o12, vs12, hp12, hR12, ho12, m12⟩ := m11.openR (i := 7) rfl (k) (r := [.v (.int .i64 ei), .v (.int .i64 et), .v (.int .i64 ek), .ns .u8 ed]) (ent_get hes) 100 rfl
      cases hp12; clear m11 ho12
      rcases hR12 with _ | ⟨hd12_0, _ | ⟨hd12_1, _ | ⟨hd12_2, _ | ⟨hd12_3, _ | _⟩⟩⟩⟩
      obtain rfl := hd12_0.v_out
      clear hd12_0
      obtain rfl := hd12_1.v_out
      clear hd12_1
      obtain rfl := hd12_2.v_out
      clear hd12_2
      obtain ⟨p13, c13, hv13, hc13⟩ := hd12_3.ns_shape; subst hv13
      have m13 := m12.dat 101 rfl (hd12_3.cast (fun _ h => (free_add rfl h))); clear m12 hd12_3
      have m14 : MemOk _ _ [(1, _), (2, _), (3, _), (4, _), (7, _), (8, _), (100, _), (101, _)] _ := m13.only [1, 2, 3, 4, 7, 8, 100, 101]; clear m13
      refine region_m 17 (B := [(1, _), (2, _), (3, _), (4, _), (7, _), (8, _), (100, _), (101, _)]) (m14.to ⟨.inl rfl, .inl rfl, .inl rfl, .inl rfl, .inl rfl, .inl rfl, .inl rfl, .inl rfl, trivial⟩) m14 (by kernel_rfl) (fun w15 mB15 m15 => ?_); clear m14 mB15
      refine d_y 0 ha11 rfl rfl (fun _ => (m15.to ⟨.inl rfl, .inl rfl, .inl rfl, .inl rfl, .inl rfl, .inl rfl, .inl rfl, .inl rfl, trivial⟩)) (by kernel_rfl) (by kernel_rfl) (by kernel_rfl) (by rfl) (fun _ _ _ h => h) (fun W => y_move ha11 rfl) ?_
      clear ha11 a11; intro a16 ha16
      refine d_y 1 ha16 rfl rfl (fun _ => (m15.to ⟨.inl rfl, .inl rfl, .inl rfl, .inl rfl, .inl rfl, .inl rfl, .inl rfl, .inl rfl, trivial⟩)) (by kernel_rfl) (by kernel_rfl) (by kernel_rfl) (by rfl) (fun _ _ _ h => h) (fun W => y_move ha16 rfl) ?_
      clear ha16 a16; intro a17 ha17
      refine d_y 2 ha17 rfl rfl (fun _ => (m15.to ⟨.inl rfl, .inl rfl, .inl rfl, .inl rfl, .inl rfl, .inl rfl, .inl rfl, .inl rfl, trivial⟩)) (by kernel_rfl) (by kernel_rfl) (by kernel_rfl) (by rfl) (fun _ _ _ h => h) (fun W => y_len ha17 rfl Try.underlying29) ?_
      clear ha17 a17; intro a18 ha18
      refine d_y 3 ha18 rfl rfl (fun _ => (m15.to ⟨.inl rfl, .inl rfl, .inl rfl, .inl rfl, .inl rfl, .inl rfl, .inl rfl, .inl rfl, trivial⟩)) (by kernel_rfl) (by kernel_rfl) (by kernel_rfl) (by rfl) (fun _ _ _ h => h) (fun W => y_lss ha18 rfl rfl) ?_
      clear ha18 a18; intro a19 ha19
      refine d_y 4 ha19 rfl rfl (fun _ => (m15.to ⟨.inl rfl, .inl rfl, .inl rfl, .inl rfl, .inl rfl, .inl rfl, .inl rfl, .inl rfl, trivial⟩)) (by kernel_rfl) (by kernel_rfl) (by kernel_rfl) (by rfl) (fun _ _ _ h => h) (fun W => y_move ha19 rfl) ?_
      clear ha19 a19; intro a20 ha20
      refine bool_cases ha20 (t := 14) rfl (fun hb21 ha21 => ?_) (fun hb21 ha21 => ?_)
      rotate_left
      · exact absurd hb21 (by simp; omega)
      clear ha20 hb21
      refine d_yg 5 ha21 rfl rfl rfl rfl rfl (fun _ => (m15.to ⟨.inl rfl, .inl rfl, .inl rfl, .inl rfl, .inl rfl, .inl rfl, .inl rfl, .inl rfl, trivial⟩)) (by kernel_rfl) (by kernel_rfl) (by kernel_rfl) (by rfl) (fun _ _ _ h => h) (fun W => y_move ha21 rfl) ?_
      clear ha21 a20; intro a22 ha22
      refine d_yg 6 ha22 rfl rfl rfl rfl rfl (fun _ => (m15.to ⟨.inl rfl, .inl rfl, .inl rfl, .inl rfl, .inl rfl, .inl rfl, .inl rfl, .inl rfl, trivial⟩)) (by kernel_rfl) (by kernel_rfl) (by kernel_rfl) (by rfl) (fun _ _ _ h => h) (fun W => y_move ha22 rfl) ?_
      clear ha22 a22; intro a23 ha23
      refine d_yg 7 ha23 rfl rfl rfl rfl rfl (fun _ => (m15.to ⟨.inl rfl, .inl rfl, .inl rfl, .inl rfl, .inl rfl, .inl rfl, .inl rfl, .inl rfl, trivial⟩)) (by kernel_rfl) (by kernel_rfl) (by kernel_rfl) (by rfl) (fun _ _ _ h => h) (fun W => y_idx ha23 rfl rfl Try.underlying29 sz32rn (k) rfl hlt) ?_
      clear ha23 a23; intro a24 ha24
      refine d_yg 8 ha24 rfl rfl rfl rfl rfl (fun _ => (m15.to ⟨.inl rfl, .inl rfl, .inl rfl, .inl rfl, .inl rfl, .inl rfl, .inl rfl, .inl rfl, trivial⟩)) (by kernel_rfl) (by kernel_rfl) (by kernel_rfl) (by rfl) (fun _ _ _ h => h) (fun W => y_fieldAddrQ ha24 0 rfl Try.underlying32 rfl (s := 0) (by kernel_rfl) rfl) ?_
      clear ha24 a24; intro a25 ha25
      refine d_hg 9 ha25 rfl rfl rfl rfl rfl (m15.to ⟨.inl rfl, .inl rfl, .inl rfl, .inl rfl, .inl rfl, .inl rfl, .inl rfl, .inl rfl, trivial⟩) (by kernel_rfl) (by kernel_rfl) (by kernel_rfl) (by kernel_rfl) (by kernel_rfl) (fun _ _ _ h => h) (fun W hW => y_loadC0 ha25 hW (i := 100) rfl rfl Try.underlying3 rfl) ?_
      clear ha25 a25; intro a26 ha26
      refine d_yg 10 ha26 rfl rfl rfl rfl rfl (fun _ => (m15.to ⟨.inl rfl, .inl rfl, .inl rfl, .inl rfl, .inl rfl, .inl rfl, .inl rfl, .inl rfl, trivial⟩)) (by kernel_rfl) (by kernel_rfl) (by kernel_rfl) (by rfl) (fun _ _ _ h => h) (fun W => y_fieldAddr ha26 (off := 0) rfl Try.underlying28 rfl (s := 0) (by kernel_rfl) rfl) ?_
      clear ha26 a26; intro a27 ha27
      refine d_hg 11 ha27 rfl rfl rfl rfl rfl (m15.to ⟨.inl rfl, .inl rfl, .inl rfl, .inl rfl, .inl rfl, .inl rfl, .inl rfl, .inl rfl, trivial⟩) (by kernel_rfl) (by kernel_rfl) (by kernel_rfl) (by kernel_rfl) (by kernel_rfl) (fun _ _ _ h => h) (fun W hW => y_loadB1 ha27 hW (i := 8) rfl rfl rfl Try.underlying3 rfl) ?_
      clear ha27 a27; intro a28 ha28
      refine d_yg 12 ha28 rfl rfl rfl rfl rfl (fun _ => (m15.to ⟨.inl rfl, .inl rfl, .inl rfl, .inl rfl, .inl rfl, .inl rfl, .inl rfl, .inl rfl, trivial⟩)) (by kernel_rfl) (by kernel_rfl) (by kernel_rfl) (by rfl) (fun _ _ _ h => h) (fun W => y_add ha28 rfl rfl (r := bi + 1) (IntWalk.i64_in _ (by omega))) ?_
      clear ha28 a28; intro a29 ha29
      refine d_yg 13 ha29 rfl rfl rfl rfl rfl (fun _ => (m15.to ⟨.inl rfl, .inl rfl, .inl rfl, .inl rfl, .inl rfl, .inl rfl, .inl rfl, .inl rfl, trivial⟩)) (by kernel_rfl) (by kernel_rfl) (by kernel_rfl) (by rfl) (fun _ _ _ h => h) (fun W => y_move ha29 rfl) ?_
      clear ha29 a29; intro a30 ha30
      refine d_yg 14 ha30 rfl rfl rfl rfl rfl (fun _ => (m15.to ⟨.inl rfl, .inl rfl, .inl rfl, .inl rfl, .inl rfl, .inl rfl, .inl rfl, .inl rfl, trivial⟩)) (by kernel_rfl) (by kernel_rfl) (by kernel_rfl) (by rfl) (fun _ _ _ h => h) (fun W => y_add ha30 rfl rfl (r := bi + 1 + k) (IntWalk.i64_in _ (by omega))) ?_
      clear ha30 a30; intro a31 ha31
      refine d_yg 15 ha31 rfl rfl rfl rfl rfl (fun _ => (m15.to ⟨.inl rfl, .inl rfl, .inl rfl, .inl rfl, .inl rfl, .inl rfl, .inl rfl, .inl rfl, trivial⟩)) (by kernel_rfl) (by kernel_rfl) (by kernel_rfl) (by rfl) (fun _ _ _ h => h) (fun W => y_eql ha31 rfl rfl) ?_
      clear ha31 a31; intro a32 ha32
      refine d_y 16 ha32 rfl rfl (fun _ => (m15.to ⟨.inl rfl, .inl rfl, .inl rfl, .inl rfl, .inl rfl, .inl rfl, .inl rfl, .inl rfl, trivial⟩)) (by kernel_rfl) (by kernel_rfl) (by kernel_rfl) (by rfl) (fun _ _ _ h => h) (fun W => y_pickT ha32 rfl rfl) ?_
      clear ha32 a32; intro a33 ha33
      refine wpAnyE_done (by kernel_rfl) ?_ _
      refine hK5 _ _ ?_; clear hK5; try clear K5
      refine bool_cases ha33 (t := 26) rfl (fun hb34 ha34 => ?_) (fun hb34 ha34 => ?_)
      · skip
        clear ha33
        try simp only [decide_eq_true_eq, decide_eq_false_iff_not, Bool.not_eq_true, Bool.not_eq_false, Bool.not_eq_eq_eq_not, Bool.not_true, Bool.not_false, Bool.not_not, Int.not_lt, Int.not_le, ne_eq, Decidable.not_not] at hb34
        refine wp_cond_true (ha34.ev (x := .tmp 26) rfl) ?_
        refine wp_skip ?_
        refine hK4 _ _ ?_; clear hK4; try clear K4
        refine wp_seq_k (fun K6 hK6 => ?_)
        refine wp_block ?_
        have ha35 : Has 43 [(1, _), (2, _), (5, _), (6, _), (25, _), (26, _)] a33 := ha34.only [1, 2, 5, 6, 25, 26]; clear ha34
        obtain ⟨b36, o36, vs36, hp36, hR36, ho36, m36⟩ := m15.openR (i := 7) rfl (k) (r := [.v (.int .i64 ei), .v (.int .i64 et), .v (.int .i64 ek), .ns .u8 ed]) (ent_get hes) 102 rfl
        cases hp36; clear m15 ho36
        rcases hR36 with _ | ⟨hd36_0, _ | ⟨hd36_1, _ | ⟨hd36_2, _ | ⟨hd36_3, _ | _⟩⟩⟩⟩
        obtain rfl := hd36_0.v_out
        clear hd36_0
        obtain rfl := hd36_1.v_out
        clear hd36_1
        obtain rfl := hd36_2.v_out
        clear hd36_2
        obtain ⟨p37, c37, hv37, hc37⟩ := hd36_3.ns_shape; subst hv37
        have m37 := m36.dat 103 rfl (hd36_3.cast (fun _ h => (free_add rfl h))); clear m36 hd36_3
        have m38 : MemOk _ _ [(1, _), (2, _), (3, _), (4, _), (7, _), (8, _), (100, _), (101, _), (102, _), (103, _)] _ := m37.only [1, 2, 3, 4, 7, 8, 100, 101, 102, 103]; clear m37
        refine region_m 10 (B := [(1, _), (2, _), (3, _), (4, _), (7, _), (8, _), (100, _), (101, _), (102, _), (103, _)]) (m38.to ⟨.inl rfl, .inl rfl, .inl rfl, .inl rfl, .inl rfl, .inl rfl, .inl rfl, .inl rfl, .inl rfl, .inl rfl, trivial⟩) m38 (by kernel_rfl) (fun w39 mB39 m39 => ?_); clear m38 mB39
        refine d_y 0 ha35 rfl rfl (fun _ => (m39.to ⟨.inl rfl, .inl rfl, .inl rfl, .inl rfl, .inl rfl, .inl rfl, .inl rfl, .inl rfl, .inl rfl, .inl rfl, trivial⟩)) (by kernel_rfl) (by kernel_rfl) (by kernel_rfl) (by rfl) (fun _ _ _ h => h) (fun W => y_move ha35 rfl) ?_
        clear ha35 a33; intro a40 ha40
        refine d_y 1 ha40 rfl rfl (fun _ => (m39.to ⟨.inl rfl, .inl rfl, .inl rfl, .inl rfl, .inl rfl, .inl rfl, .inl rfl, .inl rfl, .inl rfl, .inl rfl, trivial⟩)) (by kernel_rfl) (by kernel_rfl) (by kernel_rfl) (by rfl) (fun _ _ _ h => h) (fun W => y_move ha40 rfl) ?_
        clear ha40 a40; intro a41 ha41
        refine d_y 2 ha41 rfl rfl (fun _ => (m39.to ⟨.inl rfl, .inl rfl, .inl rfl, .inl rfl, .inl rfl, .inl rfl, .inl rfl, .inl rfl, .inl rfl, .inl rfl, trivial⟩)) (by kernel_rfl) (by kernel_rfl) (by kernel_rfl) (by rfl) (fun _ _ _ h => h) (fun W => y_nilCheck ha41 rfl) ?_
        clear ha41 a41; intro a42 ha42
        refine d_y 3 ha42 rfl rfl (fun _ => (m39.to ⟨.inl rfl, .inl rfl, .inl rfl, .inl rfl, .inl rfl, .inl rfl, .inl rfl, .inl rfl, .inl rfl, .inl rfl, trivial⟩)) (by kernel_rfl) (by kernel_rfl) (by kernel_rfl) (by rfl) (fun _ _ _ h => h) (fun W => y_fieldAddr ha42 (off := 4) rfl Try.underlying41 rfl (s := 0) (by kernel_rfl) rfl) ?_
        clear ha42 a42; intro a43 ha43
        refine d_r 4 ha43 rfl rfl (m39.to ⟨.inl rfl, .inl rfl, .inl rfl, .inl rfl, .inl rfl, .inl rfl, .inl rfl, .inl rfl, .inl rfl, .inl rfl, trivial⟩) (by kernel_rfl) (by kernel_rfl) (by kernel_rfl) (by kernel_rfl) (by kernel_rfl) (fun _ _ _ h => h) (fun W hW => y_loadB1 ha43 hW (i := 1) rfl rfl rfl Try.underlying29 rfl) ?_
        clear ha43 a43; intro a44 ha44
        refine d_y 5 ha44 rfl rfl (fun _ => (m39.to ⟨.inl rfl, .inl rfl, .inl rfl, .inl rfl, .inl rfl, .inl rfl, .inl rfl, .inl rfl, .inl rfl, .inl rfl, trivial⟩)) (by kernel_rfl) (by kernel_rfl) (by kernel_rfl) (by rfl) (fun _ _ _ h => h) (fun W => y_move ha44 rfl) ?_
        clear ha44 a44; intro a45 ha45
        refine d_y 6 ha45 rfl rfl (fun _ => (m39.to ⟨.inl rfl, .inl rfl, .inl rfl, .inl rfl, .inl rfl, .inl rfl, .inl rfl, .inl rfl, .inl rfl, .inl rfl, trivial⟩)) (by kernel_rfl) (by kernel_rfl) (by kernel_rfl) (by rfl) (fun _ _ _ h => h) (fun W => y_move ha45 rfl) ?_
        clear ha45 a45; intro a46 ha46
        refine d_y 7 ha46 rfl rfl (fun _ => (m39.to ⟨.inl rfl, .inl rfl, .inl rfl, .inl rfl, .inl rfl, .inl rfl, .inl rfl, .inl rfl, .inl rfl, .inl rfl, trivial⟩)) (by kernel_rfl) (by kernel_rfl) (by kernel_rfl) (by rfl) (fun _ _ _ h => h) (fun W => y_idx ha46 rfl rfl Try.underlying29 sz32rn (k) rfl hlt) ?_
        clear ha46 a46; intro a47 ha47
        refine d_r 8 ha47 rfl rfl (m39.to ⟨.inl rfl, .inl rfl, .inl rfl, .inl rfl, .inl rfl, .inl rfl, .inl rfl, .inl rfl, .inl rfl, .inl rfl, trivial⟩) (by kernel_rfl) (by kernel_rfl) (by kernel_rfl) (by kernel_rfl) (by kernel_rfl) (fun _ _ _ h => h) (fun W hW => y_loadCR ha47 hW (i := 102) rfl rfl Try.underlying32 rfl sz32rn) ?_
        clear ha47 a47; intro a48 ha48
        refine stepE_only 9 rfl (by kernel_rfl) rfl (fun K hK => ?_)
        refine e_litR ha48 m39 104 (mm := 4) rfl (.cons rfl rfl (.cons (.v _) (.cons (.v _) (.cons (.v _) (.cons (m39.rd (i := 103) rfl) .nil)))) <| .nil) Try.underlying29 inf32rn rfl rfl rfl rfl rfl ?_
        clear ha48 a48 m39; intro g49 a50 w50 ha50 m50 
        refine hK _ _ (m50.to ⟨.inl rfl, .inl rfl, .inl rfl, .inl rfl, .inl rfl, .inl rfl, .inl rfl, .inl rfl, .inl rfl, .inl rfl, trivial⟩) ?_; clear hK K
        have m52 := m50.freezeR 104 rfl; clear m50
        refine stepE_end 10 rfl (by kernel_rfl) rfl (by rfl) (fun K hK => ?_)
        refine e_appSA ha50 m52 2 rfl rfl rfl (m52.rd (i := 104) rfl).cells Try.underlying29 inf32rn rfl rfl (by decide) (by simp; omega) rfl ?_
        clear ha50 a50 m52; intro p51 c51 a53 w53 ha53 m53 
        refine hK _ _ ?_; clear hK K
        refine d_y 11 ha53 rfl rfl (fun h => (Bool.false_ne_true (h.symm.trans (by rfl))).elim) (by kernel_rfl) (by kernel_rfl) (by kernel_rfl) (by rfl) (fun _ _ _ h => h) (fun W => y_nilCheck ha53 rfl) ?_
        clear ha53 a53; intro a54 ha54
        refine d_y 12 ha54 rfl rfl (fun h => (Bool.false_ne_true (h.symm.trans (by rfl))).elim) (by kernel_rfl) (by kernel_rfl) (by kernel_rfl) (by rfl) (fun _ _ _ h => h) (fun W => y_fieldAddr ha54 (off := 4) rfl Try.underlying41 rfl (s := 0) (by kernel_rfl) rfl) ?_
        clear ha54 a54; intro a55 ha55
        refine stepE_end 13 rfl (by kernel_rfl) rfl (by rfl) (fun K hK => ?_)
        refine e_store1 ha55 m53 1 rfl rfl rfl rfl rfl sz29rn (by dsimp only [List.set] <;> rfl) ?_
        clear m53; intro w56 m56 hB56
        clear hB56
        refine hK _ _ ?_; clear hK K
        refine wpAnyE_done (by kernel_rfl) ?_ _
        refine hK6 _ _ ?_; clear hK6; try clear K6
        have ha57 : Has 43 [(1, _), (2, _), (5, _), (6, _), (25, _), (26, _)] a55 := ha55.only [1, 2, 5, 6, 25, 26]; clear ha55
        refine wp_region_lit ?_
        refine st_y ha57 rfl (y_move ha57 rfl) ?_
        clear ha57 a55; intro a58 ha58
        refine st_y ha58 rfl (y_add ha58 rfl rfl (r := ((k + 1 : Nat) : Int)) (by rw [IntWalk.i64_in _ (by omega)]; omega)) ?_
        clear ha58 a58; intro a59 ha59
        refine st_y ha59 rfl (y_assign ha59 rfl) ?_
        clear ha59 a59; intro a60 ha60
        refine wpList_nil ?_
        show ∃ n', n' < _ ∧ _
        have hE : (ls.take k).map entD ++ [[D.v (.int .i64 ei), .v (.int .i64 et), .v (.int .i64 ek), .ns .u8 ed]] = (ls.take (k + 1)).map entD := by rw [take_snoc hes, List.map_append]; rfl
        rw [hE] at m56
        exact ⟨ls.length - (k + 1), by omega, k + 1, _, _, _, _, _, _, by omega, rfl, run_snoc hrun hes hb34, ha60.only [1, 2, 5, 6], m56.only [1, 2, 3, 4, 7, 8]⟩
      · skip
        clear ha33
        try simp only [decide_eq_true_eq, decide_eq_false_iff_not, Bool.not_eq_true, Bool.not_eq_false, Bool.not_eq_eq_eq_not, Bool.not_true, Bool.not_false, Bool.not_not, Int.not_lt, Int.not_le, ne_eq, Decidable.not_not] at hb34
        refine wp_cond_false (ha34.ev (x := .tmp 26) rfl) ?_
        refine wp_exit ?_
        refine hK2 _ _ ?_; clear hK2; try clear K2
        refine wp_seq_k (fun K7 hK7 => ?_)
        have ha61 : Has 43 [(1, _), (2, _), (5, _), (6, _), (25, _), (26, _)] a33 := ha34.only [1, 2, 5, 6, 25, 26]; clear ha34
        refine wp_region_lit ?_
        refine st_y ha61 rfl (y_move ha61 rfl) ?_
        clear ha61 a33; intro a62 ha62
        refine st_y ha62 rfl (y_assign ha62 rfl) ?_
        clear ha62 a62; intro a63 ha63
        refine wpList_nil ?_
        refine hK7 _ _ ?_; clear hK7; try clear K7
        refine wp_ret ?_
        try dsimp only [Exit.then, Exit.inBlock]
        refine (ret1 (fn := Try.f10) ha63 rfl rfl ?_)
        have hR : Run bi ls k := ⟨hkl, hrun, .inr ⟨hlt, run_stop hes hb34⟩⟩
        have hE9 := hR.eq
        rw [hE9] at m15
        exact ⟨_, _, _, rfl, m15.only [1, 2, 3, 4]⟩
    · skip
      subst heq
      refine wp_seq_k (fun K8 hK8 => ?_)
      refine wp_seq_k (fun K9 hK9 => ?_)
      have m64 : MemOk _ _ [(1, _), (2, _), (3, _), (4, _), (7, _), (8, _)] _ := m11.only [1, 2, 3, 4, 7, 8]; clear m11
      refine region_m 17 (B := [(1, _), (2, _), (3, _), (4, _), (7, _), (8, _)]) (m64.to ⟨.inl rfl, .inl rfl, .inl rfl, .inl rfl, .inl rfl, .inl rfl, trivial⟩) m64 (by kernel_rfl) (fun w65 mB65 m65 => ?_); clear m64 mB65
      refine d_y 0 ha11 rfl rfl (fun _ => (m65.to ⟨.inl rfl, .inl rfl, .inl rfl, .inl rfl, .inl rfl, .inl rfl, trivial⟩)) (by kernel_rfl) (by kernel_rfl) (by kernel_rfl) (by rfl) (fun _ _ _ h => h) (fun W => y_move ha11 rfl) ?_
      clear ha11 a11; intro a66 ha66
      refine d_y 1 ha66 rfl rfl (fun _ => (m65.to ⟨.inl rfl, .inl rfl, .inl rfl, .inl rfl, .inl rfl, .inl rfl, trivial⟩)) (by kernel_rfl) (by kernel_rfl) (by kernel_rfl) (by rfl) (fun _ _ _ h => h) (fun W => y_move ha66 rfl) ?_
      clear ha66 a66; intro a67 ha67
      refine d_y 2 ha67 rfl rfl (fun _ => (m65.to ⟨.inl rfl, .inl rfl, .inl rfl, .inl rfl, .inl rfl, .inl rfl, trivial⟩)) (by kernel_rfl) (by kernel_rfl) (by kernel_rfl) (by rfl) (fun _ _ _ h => h) (fun W => y_len ha67 rfl Try.underlying29) ?_
      clear ha67 a67; intro a68 ha68
      refine d_y 3 ha68 rfl rfl (fun _ => (m65.to ⟨.inl rfl, .inl rfl, .inl rfl, .inl rfl, .inl rfl, .inl rfl, trivial⟩)) (by kernel_rfl) (by kernel_rfl) (by kernel_rfl) (by rfl) (fun _ _ _ h => h) (fun W => y_lss ha68 rfl rfl) ?_
      clear ha68 a68; intro a69 ha69
      refine d_y 4 ha69 rfl rfl (fun _ => (m65.to ⟨.inl rfl, .inl rfl, .inl rfl, .inl rfl, .inl rfl, .inl rfl, trivial⟩)) (by kernel_rfl) (by kernel_rfl) (by kernel_rfl) (by rfl) (fun _ _ _ h => h) (fun W => y_move ha69 rfl) ?_
      clear ha69 a69; intro a70 ha70
      refine bool_cases ha70 (t := 14) rfl (fun hb71 ha71 => ?_) (fun hb71 ha71 => ?_)
      · exact absurd hb71 (by simp)
      clear ha70 hb71
      refine d_skip 5 ha71 rfl rfl rfl rfl rfl (fun _ => (m65.to ⟨.inl rfl, .inl rfl, .inl rfl, .inl rfl, .inl rfl, .inl rfl, trivial⟩)) (by kernel_rfl) (by kernel_rfl) (by kernel_rfl) (by rfl) (fun _ _ _ h => h) ?_
      clear ha71 a70; intro a72 ha72
      refine d_skip 6 ha72 rfl rfl rfl rfl rfl (fun _ => (m65.to ⟨.inl rfl, .inl rfl, .inl rfl, .inl rfl, .inl rfl, .inl rfl, trivial⟩)) (by kernel_rfl) (by kernel_rfl) (by kernel_rfl) (by rfl) (fun _ _ _ h => h) ?_
      clear ha72 a72; intro a73 ha73
      refine d_skip 7 ha73 rfl rfl rfl rfl rfl (fun _ => (m65.to ⟨.inl rfl, .inl rfl, .inl rfl, .inl rfl, .inl rfl, .inl rfl, trivial⟩)) (by kernel_rfl) (by kernel_rfl) (by kernel_rfl) (by rfl) (fun _ _ _ h => h) ?_
      clear ha73 a73; intro a74 ha74
      refine d_skip 8 ha74 rfl rfl rfl rfl rfl (fun _ => (m65.to ⟨.inl rfl, .inl rfl, .inl rfl, .inl rfl, .inl rfl, .inl rfl, trivial⟩)) (by kernel_rfl) (by kernel_rfl) (by kernel_rfl) (by rfl) (fun _ _ _ h => h) ?_
      clear ha74 a74; intro a75 ha75
      refine d_skip 9 ha75 rfl rfl rfl rfl rfl (fun _ => (m65.to ⟨.inl rfl, .inl rfl, .inl rfl, .inl rfl, .inl rfl, .inl rfl, trivial⟩)) (by kernel_rfl) (by kernel_rfl) (by kernel_rfl) (by rfl) (fun _ _ _ h => h) ?_
      clear ha75 a75; intro a76 ha76
      refine d_skip 10 ha76 rfl rfl rfl rfl rfl (fun _ => (m65.to ⟨.inl rfl, .inl rfl, .inl rfl, .inl rfl, .inl rfl, .inl rfl, trivial⟩)) (by kernel_rfl) (by kernel_rfl) (by kernel_rfl) (by rfl) (fun _ _ _ h => h) ?_
      clear ha76 a76; intro a77 ha77
      refine d_skip 11 ha77 rfl rfl rfl rfl rfl (fun _ => (m65.to ⟨.inl rfl, .inl rfl, .inl rfl, .inl rfl, .inl rfl, .inl rfl, trivial⟩)) (by kernel_rfl) (by kernel_rfl) (by kernel_rfl) (by rfl) (fun _ _ _ h => h) ?_
      clear ha77 a77; intro a78 ha78
      refine d_skip 12 ha78 rfl rfl rfl rfl rfl (fun _ => (m65.to ⟨.inl rfl, .inl rfl, .inl rfl, .inl rfl, .inl rfl, .inl rfl, trivial⟩)) (by kernel_rfl) (by kernel_rfl) (by kernel_rfl) (by rfl) (fun _ _ _ h => h) ?_
      clear ha78 a78; intro a79 ha79
      refine d_skip 13 ha79 rfl rfl rfl rfl rfl (fun _ => (m65.to ⟨.inl rfl, .inl rfl, .inl rfl, .inl rfl, .inl rfl, .inl rfl, trivial⟩)) (by kernel_rfl) (by kernel_rfl) (by kernel_rfl) (by rfl) (fun _ _ _ h => h) ?_
      clear ha79 a79; intro a80 ha80
      refine d_skip 14 ha80 rfl rfl rfl rfl rfl (fun _ => (m65.to ⟨.inl rfl, .inl rfl, .inl rfl, .inl rfl, .inl rfl, .inl rfl, trivial⟩)) (by kernel_rfl) (by kernel_rfl) (by kernel_rfl) (by rfl) (fun _ _ _ h => h) ?_
      clear ha80 a80; intro a81 ha81
      refine d_skip 15 ha81 rfl rfl rfl rfl rfl (fun _ => (m65.to ⟨.inl rfl, .inl rfl, .inl rfl, .inl rfl, .inl rfl, .inl rfl, trivial⟩)) (by kernel_rfl) (by kernel_rfl) (by kernel_rfl) (by rfl) (fun _ _ _ h => h) ?_
      clear ha81 a81; intro a82 ha82
      refine d_y 16 ha82 rfl rfl (fun _ => (m65.to ⟨.inl rfl, .inl rfl, .inl rfl, .inl rfl, .inl rfl, .inl rfl, trivial⟩)) (by kernel_rfl) (by kernel_rfl) (by kernel_rfl) (by rfl) (fun _ _ _ h => h) (fun W => y_pickF ha82 rfl rfl) ?_
      clear ha82 a82; intro a83 ha83
      refine wpAnyE_done (by kernel_rfl) ?_ _
      refine hK9 _ _ ?_; clear hK9; try clear K9
      refine wp_cond_false (ha83.ev (x := .tmp 26) rfl) ?_
      refine wp_exit ?_
      refine hK2 _ _ ?_; clear hK2; try clear K2
      refine wp_seq_k (fun K10 hK10 => ?_)
      have ha84 : Has 43 [(1, _), (2, _), (5, _), (6, _), (25, _), (26, _)] a83 := ha83.only [1, 2, 5, 6, 25, 26]; clear ha83
      refine wp_region_lit ?_
      refine st_y ha84 rfl (y_move ha84 rfl) ?_
      clear ha84 a83; intro a85 ha85
      refine st_y ha85 rfl (y_assign ha85 rfl) ?_
      clear ha85 a85; intro a86 ha86
      refine wpList_nil ?_
      refine hK10 _ _ ?_; clear hK10; try clear K10
      refine wp_ret ?_
      try dsimp only [Exit.then, Exit.inBlock]
      refine (ret1 (fn := Try.f10) ha86 rfl rfl ?_)
      have hR : Run bi ls ls.length := ⟨Nat.le_refl _, hrun, .inl rfl⟩
      have hE9 := hR.eq
      rw [hE9] at m65
      exact ⟨_, _, _, rfl, m65.only [1, 2, 3, 4]⟩
end Go.Proofs.Ytmdckdhogbbhlaa.K
