/- EntryReads' walk. -/
import Derived.Test.YtkfcpnmdmoeioaaReads1
namespace Go.Proofs.Ytkfcpnmdmoeioaa.K
open Go.ChangeShapes Go.WideShapes Go.ChangeAt Go.RowKit
set_option linter.unusedVariables false
set_option linter.unusedSimpArgs false

theorem fl27r : flatS Try.prog 27 [.int .i64 0, .int .i64 0, .slice none 0 0, .slice none 0 0] = true := by kernel_rfl
theorem fl52r : flatS Try.prog 52 [.slice none 0 0, .int .i64 0] = true := by kernel_rfl
theorem inf3r : (Try.prog.info? 3).map (fun i => (i.zero, i.size, i.bytes)) = some (some (.int .i64 0), 1, 8) := by kernel_rfl
theorem inf5r : (Try.prog.info? 5).map (fun i => (i.zero, i.size, i.bytes)) = some (some (.int .u8 0), 1, 1) := by kernel_rfl
theorem inf22r : (Try.prog.info? 22).map (fun i => (i.zero, i.size, i.bytes)) = some (some (.slice none 0 0), 1, 24) := by kernel_rfl
theorem sz5r : (Try.prog.info? 5).map (·.size) = some 1 := by kernel_rfl
theorem sz22r : (Try.prog.info? 22).map (·.size) = some 1 := by kernel_rfl
theorem sz24r : (Try.prog.info? 24).map (·.size) = some 4 := by kernel_rfl
theorem sz27r : (Try.prog.info? 27).map (·.size) = some 4 := by kernel_rfl
theorem zc24r : ((Try.prog.info? 24).bind (·.zero)).map (·.cells.toList) = some [.int .i64 0, .int .i64 0, .int .i64 0, .slice none 0 0] := by kernel_rfl
theorem zc27r : ((Try.prog.info? 27).bind (·.zero)).map (·.cells.toList) = some [.int .i64 0, .int .i64 0, .slice none 0 0, .slice none 0 0] := by kernel_rfl
theorem zc52r : ((Try.prog.info? 52).bind (·.zero)).map (·.cells.toList) = some [.slice none 0 0, .int .i64 0] := by kernel_rfl

theorem encs_byte (ns : List Int) (h : ∀ n ∈ ns, n ≤ 18446744073709551615) : ByteL (encs ns) := by
  intro x hx
  obtain ⟨n, hn, hx⟩ := List.mem_flatMap.1 hx
  exact enc_bytes n (h n hn) x hx
theorem encs_len' (ns : List Int) : (encs ns).length ≤ 10 * ns.length := by
  induction ns with
  | nil => simp [encs]
  | cons n ns ih =>
    have := (enc_len n).1
    simp only [encs, List.flatMap_cons, List.length_append, List.length_cons] at ih ⊢
    omega
theorem entP_len (i t k : Int) (d : List Int) : (entP i t k d).length ≤ 40 + d.length := by
  unfold entP
  split
  · have h1 := encs_len' [i, t, k]
    have h2 := (enc_len (d.length : Int)).1
    simp only [entB, List.length_append, List.length_cons, List.length_nil] at h1 ⊢
    omega
  · simp
theorem entA_data (l : List Int) (k : Nat) : (entA l k).2.2.2.length ≤ 2 := by
  unfold entA entOf
  simp only
  split
  · simp
  · split <;> simp
theorem entY_len (l : List Int) (hb : ∀ j, j < l.length → 0 ≤ l.getD j 0 ∧ l.getD j 0 ≤ 255) (hl : l.length ≤ 6) (k : Nat) (hk : k < l.length) : (entY l k).length ≤ 45 := by
  have h1 := entP_len (entA l k).1 (entA l k).2.1 (entA l k).2.2.1 (entA l k).2.2.2
  have h2 := entA_data l k
  unfold entY; omega
theorem allN_len (l : List Int) (at' : Nat) (x : Int) : ∀ k, (allN l at' x k).length ≤ 3 * k
  | 0 => by simp [allN]
  | k + 1 => by
    have := allN_len l at' x k
    rw [allN]
    split <;> simp <;> omega
/-- The base's bytes. -/
def basY (l : List Int) (x : Int) : List Int := baseP 5 x [0, 1, 4] l
theorem basY_ok (l : List Int) (x : Int) (hx : 0 ≤ x ∧ x ≤ 255) (hl : l.length ≤ 6) : 0 < (basY l x).length ∧ (basY l x).length ≤ 90 := by
  have hok : baseOk 5 x [0, 1, 4] l = true := by
    unfold baseOk
    rw [show timeOk 5 0 = true from by decide, show rightB [0, 1, 4] = true from by decide, decide_eq_true (show l.length ≤ 32767 by omega)]
    simp [timeOk]; omega
  unfold basY baseP
  rw [if_pos hok]
  have h1 := encs_len' [5, x, (([0, 1, 4] : List Int).length : Int)]
  have h2 := encs_len' [0, 1, 4]
  have h3 := enc_len (l.length : Int)
  simp only [baseB, List.length_append, List.length_cons, List.length_nil] at h1 h2 ⊢
  omega
theorem lsD_len (A : List (List Int)) : (lsD A).length = A.length := by simp [lsD]
theorem lsD_get {A : List (List Int)} {k : Nat} {bs : List Int} (h : A[k]? = some bs) : (lsD A)[k]? = some [.ns .u8 bs] := by simp [lsD, h]
theorem entRV_ok (bs : List Int) (e : Int) (h : ByteL bs) : ByteL (entRV bs e).2.2.2 := by
  unfold entRV
  split
  · intro y hy
    unfold entR at hy
    exact h y (numR_sub _ _ _ y (numR_sub _ _ _ y (numR_sub _ _ _ y (lumpR_sub _ _ _ y hy))))
  · intro y hy; cases hy
theorem lumpR_len (bs : List Int) (e most : Int) : (lumpR bs e most).1.length ≤ bs.length := by
  unfold lumpR
  split
  · split
    · exact Nat.zero_le _
    · have := numR_len bs e (max most 0)
      simp only [List.length_take]; omega
  · exact Nat.zero_le _
theorem entRV_len (bs : List Int) (e : Int) : (entRV bs e).2.2.2.length ≤ bs.length := by
  unfold entRV
  split
  · unfold entR
    exact Nat.le_trans (lumpR_len _ _ _) (Nat.le_trans (numR_len _ _ _) (Nat.le_trans (numR_len _ _ _) (numR_len _ _ _)))
  · exact Nat.zero_le _
theorem confN_sub (bs : List Int) (e : Int) : ∀ k, ∀ y ∈ (confN bs e k).2.1, y ∈ bs
  | 0, y, hy => hy
  | k + 1, y, hy => confN_sub bs e k y (numR_sub _ _ _ y hy)
theorem baseRV_len (bs : List Int) (e : Int) : (baseRV bs e).2.2.2.length ≤ bs.length := by
  unfold baseRV
  split
  · exact Nat.le_trans (lumpR_len _ _ _) (Nat.le_trans (confN_rest _ _ _) (Nat.le_trans (numR_len _ _ _) (Nat.le_trans (numR_len _ _ _) (numR_len _ _ _))))
  · exact Nat.zero_le _
theorem baseRV_ok (bs : List Int) (e : Int) (h : ByteL bs) : ByteL (baseRV bs e).2.2.2 := by
  unfold baseRV
  split
  · intro y hy
    exact h y (numR_sub _ _ _ y (numR_sub _ _ _ y (numR_sub _ _ _ y (confN_sub _ _ _ y (lumpR_sub _ _ _ y hy)))))
  · intro y hy; cases hy
theorem baseRV_cf (bs : List Int) (e : Int) : (baseRV bs e).2.2.1.length ≤ 1000000 := by
  unfold baseRV
  split
  · rename_i h
    unfold baseROk at h
    simp only [Bool.and_eq_true] at h
    have := (right_bd (baseOk_bd h.2).2.2.1).1
    omega
  · exact Nat.zero_le _
theorem numsLt_shape {N : Nat} {k : IntKind} {w : World} {v : Value} {zs : List Int} (h : NumsLt N k w v zs) : ∃ p c, v = .slice p zs.length c ∧ zs.length ≤ c := by
  obtain ⟨a, c, rfl, h1, h2, _⟩ := h; exact ⟨a, c, rfl, h1⟩
theorem MemOk.box_new {S : Nat → Prop} {w0 w : World} {M : Mm} (m : MemOk (cx S w0) w0 M w) {i g : Nat} {e : TypeId} {cs : List Value} (h : lk M i = some (.box g e cs)) : w0.heap.size ≤ g := by
  rcases (m.ok i _ h).2 with h | h
  · exact h
  · cases h
theorem free_any {X : Cx} {M : Mm} {i g b : Nat} {e : TypeId} {cs : List Value} (h : lk M i = some (.box g e cs)) (hF : Free X M b) : Free X ((i, .any g) :: M) b := by
  refine ⟨hF.1, ?_⟩
  rintro ⟨j, s, hj, hs⟩
  rw [lk_cons] at hj
  split at hj
  · cases hj; injection hs with hs; exact hF.2 ⟨i, _, h, by rw [← hs]; rfl⟩
  · exact hF.2 ⟨j, s, hj, hs⟩
theorem encs_ok (l : List Int) (hb : ∀ j, j < l.length → 0 ≤ l.getD j 0 ∧ l.getD j 0 ≤ 255) : ByteL l := by
  intro y hy
  obtain ⟨j, hj, e⟩ := List.getElem_of_mem hy
  have := hb j hj
  simp [List.getD, hj, e] at this
  exact this
theorem entP_byte (i t k : Int) (d : List Int) (hi : i ≤ 18446744073709551615) (ht : t ≤ 18446744073709551615) (hk : k ≤ 18446744073709551615) (hd : ByteL d) (hl : d.length ≤ 100) : ByteL (entP i t k d) := by
  unfold entP
  split
  · intro y hy
    simp only [entB, List.mem_append] at hy
    rcases hy with hy | hy | hy
    · exact encs_byte _ (by intro n hn; simp at hn; rcases hn with rfl | rfl | rfl <;> assumption) y hy
    · exact enc_bytes _ (by omega) y hy
    · exact hd y hy
  · intro y hy; cases hy
theorem entY_byte (l : List Int) (hb : ∀ j, j < l.length → 0 ≤ l.getD j 0 ∧ l.getD j 0 ≤ 255) (hl : l.length ≤ 6) (k : Nat) (hk : k < l.length) : ByteL (entY l k) := by
  have h1 := hb k hk
  have h2 := termN_bd l hb (k + 1) hk
  have h3 := entA_data l k
  unfold entY
  refine entP_byte _ _ _ _ ?_ ?_ ?_ ?_ (by omega)
  · simp only [entA, entOf]; omega
  · simp only [entA, entOf]; omega
  · simp only [entA, entOf]; split <;> omega
  · simp only [entA, entOf]
    intro y hy
    split at hy
    · simp only [List.mem_cons, List.not_mem_nil, or_false] at hy; omega
    · split at hy
      · simp only [List.mem_cons, List.not_mem_nil, or_false] at hy; omega
      · cases hy
theorem allN_ok (l : List Int) (at' : Nat) (x : Int) (hb : ∀ j, j < l.length → 0 ≤ l.getD j 0 ∧ l.getD j 0 ≤ 255) (hl : l.length ≤ 6) : ∀ k, k ≤ l.length → ∀ b ∈ allN l at' x k, ByteL b ∧ b.length ≤ 100
  | 0, _, b, hm => by cases hm
  | k + 1, hk, b, hm => by
    have h1 := entY_byte l hb hl k hk
    have h2 := entY_len l hb hl k hk
    rw [allN] at hm
    rcases List.mem_append.1 hm with hm | hm
    · exact allN_ok l at' x hb hl k (by omega) b hm
    · split at hm
      · cases hm
      · simp only [List.mem_cons, List.not_mem_nil, or_false] at hm
        rcases hm with rfl | rfl | rfl
        · exact ⟨h1, by omega⟩
        · exact ⟨bentB_ok h1 _ _, by simp only [bentB, List.length_set]; omega⟩
        · exact ⟨h1.take _, by rw [List.length_take]; omega⟩
theorem basY_byte (l : List Int) (x : Int) (hx : 0 ≤ x ∧ x ≤ 255) (hl : l.length ≤ 6) (hb : ByteL l) : ByteL (basY l x) := by
  unfold basY baseP
  split
  · intro y hy
    simp only [baseB, List.mem_append] at hy
    rcases hy with hy | hy | hy | hy
    · exact encs_byte _ (by intro n hn; simp at hn; rcases hn with rfl | rfl | rfl <;> omega) y hy
    · exact encs_byte _ (by intro n hn; simp at hn; rcases hn with rfl | rfl | rfl <;> omega) y hy
    · exact enc_bytes _ (by omega) y hy
    · exact hb y hy
  · intro y hy; cases hy
theorem all_ok {raw l : List Int} {at' : Nat} {x : Int} (hraw : ByteL raw) (hr : raw.length ≤ 60) (hb : ∀ j, j < l.length → 0 ≤ l.getD j 0 ∧ l.getD j 0 ≤ 255) (hl : l.length ≤ 6) (hx : 0 ≤ x ∧ x ≤ 255) : ∀ b ∈ allN l at' x l.length ++ [raw, basY l x, bentB (basY l x) at' x], ByteL b ∧ b.length ≤ 100 := by
  intro b hm
  have h1 := basY_byte l x hx hl (encs_ok l hb)
  have h2 := basY_ok l x hx hl
  rcases List.mem_append.1 hm with hm | hm
  · exact allN_ok l at' x hb hl _ (Nat.le_refl _) b hm
  · simp only [List.mem_cons, List.not_mem_nil, or_false] at hm
    rcases hm with rfl | rfl | rfl
    · exact ⟨hraw, by omega⟩
    · exact ⟨h1, by omega⟩
    · exact ⟨bentB_ok h1 _ _, by simp only [bentB, List.length_set]; omega⟩
set_option maxRecDepth 100000 in
set_option maxHeartbeats 8000000 in
theorem reads_walk (raw l : List Int) (p0 p1 : Option Addr) (c0 c1 at' : Nat) (x : Int) (w0 : World) (h0 : Rd (fun _ => True) w0 (.slice p0 raw.length c0) (.ns .u8 raw)) (h1 : Rd (fun _ => True) w0 (.slice p1 l.length c1) (.ns .u8 l)) (hraw : ByteL raw) (hbl : ∀ j, j < l.length → 0 ≤ l.getD j 0 ∧ l.getD j 0 ≤ 255) (hat : at' ≤ 65535) (hx : 0 ≤ x ∧ x ≤ 255) :
    Calls Try.prog 4 #[.slice p0 raw.length c0, .slice p1 l.length c1, .int .u16 (at' : Int), .int .u8 x] w0 fun e w' => e = .returned (.bool true) ∧ Below w0.heap.size w0 w' := by
  refine enter (fn := Try.f4) Try.func4 rfl Try.ntmps4 rfl (fun a0 ha0 => ?_)
  simp only [List.zipIdx_cons, List.zipIdx_nil, List.map_cons, List.map_nil, Nat.reduceAdd, Nat.zero_add] at ha0
  have m0 := ((MemOk.start (fun _ => True) w0).dat 1 rfl (h0.cast (fun _ _ => free_nil (fun _ => trivial)))).dat 2 rfl (h1.cast (fun _ _ => free_add rfl (free_nil (fun _ => trivial))))
  refine wp_seq_k (fun K0 hK0 => ?_)
  refine wp_region_lit ?_
  refine st_y ha0 rfl (y_assign ha0 rfl) ?_
  clear ha0 a0; intro a1 ha1
  refine wpList_nil ?_
  refine hK0 _ _ ?_; clear hK0; try clear K0
  refine wp_seq_k (fun K1 hK1 => ?_)
  refine wp_seq_k (fun K2 hK2 => ?_)
  refine wp_region_lit ?_
  refine wpList_plain rfl (fun K hK => ?_)
  refine e_call ha1 Try.func6 rfl rfl rfl rfl (eknown_any _) ?_
  rintro e w2 ⟨rfl, hb2⟩
  have m3 := m0.later hb2
  clear m0
  clear hb2
  refine ⟨_, rfl, fun a4 ha4 => ?_⟩; clear ha1 a1
  refine hK _ _ ?_; clear hK K
  refine st_y ha4 rfl (y_not ha4 rfl) ?_
  clear ha4 a4; intro a5 ha5
  refine wpList_nil ?_
  refine hK2 _ _ ?_; clear hK2; try clear K2
  refine wp_cond_false (ha5.ev (x := .tmp 28) rfl) ?_
  refine wp_skip ?_
  refine hK1 _ _ ?_; clear hK1; try clear K1
  refine wp_seq_k (fun K3 hK3 => ?_)
  refine wp_seq_k (fun K4 hK4 => ?_)
  refine wp_region_lit ?_
  refine st_y ha5 rfl (y_move ha5 rfl) ?_
  clear ha5 a5; intro a6 ha6
  refine st_y ha6 rfl (y_len ha6 rfl Try.underlying22) ?_
  clear ha6 a6; intro a7 ha7
  refine st_y ha7 rfl (y_gtr ha7 rfl rfl) ?_
  clear ha7 a7; intro a8 ha8
  refine st_y ha8 rfl (y_move ha8 rfl) ?_
  clear ha8 a8; intro a9 ha9
  refine bool_cases ha9 (t := 32) rfl (fun hb10 ha10 => ?_) (fun hb10 ha10 => ?_)
  · skip
    clear ha9
    try simp only [decide_eq_true_eq, decide_eq_false_iff_not, Bool.not_eq_true, Bool.not_eq_false, Bool.not_eq_eq_eq_not, Bool.not_true, Bool.not_false, Bool.not_not, Int.not_lt, Int.not_le, ne_eq, Decidable.not_not] at hb10
    refine st_skip ha10 rfl rfl rfl rfl ?_
    clear ha10 a9; intro a11 ha11
    refine st_skip ha11 rfl rfl rfl rfl ?_
    clear ha11 a11; intro a12 ha12
    refine st_skip ha12 rfl rfl rfl rfl ?_
    clear ha12 a12; intro a13 ha13
    refine st_y ha13 rfl (y_pickT ha13 rfl rfl) ?_
    clear ha13 a13; intro a14 ha14
    refine wpList_nil ?_
    refine hK4 _ _ ?_; clear hK4; try clear K4
    refine wp_cond_true (ha14.ev (x := .tmp 36) rfl) ?_
    refine wp_seq_k (fun K5 hK5 => ?_)
    have ha15 : Has 195 [(0, _), (1, _), (2, _), (3, _), (8, _)] a14 := ha14.only [0, 1, 2, 3, 8]; clear ha14
    refine wp_region_lit ?_
    refine st_y ha15 rfl (y_assign ha15 rfl) ?_
    clear ha15 a14; intro a16 ha16
    refine wpList_nil ?_
    refine hK5 _ _ ?_; clear hK5; try clear K5
    refine wp_ret ?_
    try dsimp only [Exit.then, Exit.inBlock]
    refine (ret1 (fn := Try.f4) ha16 rfl rfl ?_)
    exact ⟨rfl, m3.below⟩
  · skip
    clear ha9
    try simp only [decide_eq_true_eq, decide_eq_false_iff_not, Bool.not_eq_true, Bool.not_eq_false, Bool.not_eq_eq_eq_not, Bool.not_true, Bool.not_false, Bool.not_not, Int.not_lt, Int.not_le, ne_eq, Decidable.not_not] at hb10
    refine st_g ha10 rfl rfl rfl rfl (y_move ha10 rfl) ?_
    clear ha10 a9; intro a17 ha17
    refine st_g ha17 rfl rfl rfl rfl (y_len ha17 rfl Try.underlying22) ?_
    clear ha17 a17; intro a18 ha18
    refine st_g ha18 rfl rfl rfl rfl (y_gtr ha18 rfl rfl) ?_
    clear ha18 a18; intro a19 ha19
    refine st_y ha19 rfl (y_pickF ha19 rfl rfl) ?_
    clear ha19 a19; intro a20 ha20
    refine wpList_nil ?_
    refine hK4 _ _ ?_; clear hK4; try clear K4
    refine bool_cases ha20 (t := 36) rfl (fun hb21 ha21 => ?_) (fun hb21 ha21 => ?_)
    · skip
      clear ha20
      try simp only [decide_eq_true_eq, decide_eq_false_iff_not, Bool.not_eq_true, Bool.not_eq_false, Bool.not_eq_eq_eq_not, Bool.not_true, Bool.not_false, Bool.not_not, Int.not_lt, Int.not_le, ne_eq, Decidable.not_not] at hb21
      refine wp_cond_true (ha21.ev (x := .tmp 36) rfl) ?_
      refine wp_seq_k (fun K6 hK6 => ?_)
      have ha22 : Has 195 [(0, _), (1, _), (2, _), (3, _), (8, _)] a20 := ha21.only [0, 1, 2, 3, 8]; clear ha21
      refine wp_region_lit ?_
      refine st_y ha22 rfl (y_assign ha22 rfl) ?_
      clear ha22 a20; intro a23 ha23
      refine wpList_nil ?_
      refine hK6 _ _ ?_; clear hK6; try clear K6
      refine wp_ret ?_
      try dsimp only [Exit.then, Exit.inBlock]
      refine (ret1 (fn := Try.f4) ha23 rfl rfl ?_)
      exact ⟨rfl, m3.below⟩
    · skip
      clear ha20
      try simp only [decide_eq_true_eq, decide_eq_false_iff_not, Bool.not_eq_true, Bool.not_eq_false, Bool.not_eq_eq_eq_not, Bool.not_true, Bool.not_false, Bool.not_not, Int.not_lt, Int.not_le, ne_eq, Decidable.not_not] at hb21
      have hB9 := basY_ok l x hx (by omega)
      have hB0 := hB9.1
      refine wp_cond_false (ha21.ev (x := .tmp 36) rfl) ?_
      refine wp_skip ?_
      refine hK3 _ _ ?_; clear hK3; try clear K3
      refine wp_seq_k (fun K7 hK7 => ?_)
      have ha24 : Has 195 [(0, _), (1, _), (2, _), (3, _), (8, _)] a20 := ha21.only [0, 1, 2, 3, 8]; clear ha21
      refine wp_region_lit ?_
      have m25 := m3.nilR 3 22 1
      clear m3
      refine st_y ha24 rfl (y_assign ha24 rfl) ?_
      clear ha24 a20; intro a26 ha26
      refine wpList_nil ?_
      refine hK7 _ _ ?_; clear hK7; try clear K7
      refine wp_seq_k (fun K8 hK8 => ?_)
      refine wp_region_lit ?_
      refine st_y ha26 rfl (y_move ha26 rfl) ?_
      clear ha26 a26; intro a27 ha27
      refine wpList_plain rfl (fun K hK => ?_)
      refine e_call ha27 Try.func7 rfl rfl rfl rfl (ents_any _ 1 l _ _ _ (m25.rd (i := 2) rfl) (by omega) (by omega) hbl) ?_
      rintro e w28 ⟨po28, co28, rfl, hR28, hb28⟩
      have m29 := m25.callR 4 hb28 hR28
      clear m25
      clear hb28 hR28
      refine ⟨_, rfl, fun a30 ha30 => ?_⟩; clear ha27 a27
      refine hK _ _ ?_; clear hK K
      have m31 := m29.freezeR 4 rfl; clear m29
      refine st_y ha30 rfl (y_assign ha30 rfl) ?_
      clear ha30 a30; intro a32 ha32
      refine wpList_nil ?_
      refine hK8 _ _ ?_; clear hK8; try clear K8
      refine wp_seq_k (fun K9 hK9 => ?_)
      refine wp_seq_k (fun K10 hK10 => ?_)
      refine wp_region_lit ?_
      refine st_y ha32 rfl (y_assign ha32 rfl) ?_
      clear ha32 a32; intro a33 ha33
      refine wpList_nil ?_
      refine hK10 _ _ ?_; clear hK10; try clear K10
      refine wp_block ?_
      refine wp_loop_ghost (fun g a w => ∃ (k : Nat) (pa pe : Option Addr) (ca ce : Nat), k ≤ l.length ∧ g = l.length - k ∧ Has 195 [(0, .slice p0 raw.length c0), (1, .slice p1 l.length c1), (2, .int .u16 (at' : Int)), (3, .int .u8 x), (9, .slice pa (lsD (allN l at' x k)).length ca), (10, .slice pe l.length ce), (11, .int .i64 k)] a ∧ MemOk (cx (fun _ => True) w0) w0 [(1, .dat (.slice p0 raw.length c0) (.ns .u8 raw)), (2, .dat (.slice p1 l.length c1) (.ns .u8 l)), (3, .row (.slice pa (lsD (allN l at' x k)).length ca) 22 1 (lsD (allN l at' x k))), (4, .dat (.slice pe l.length ce) (.l 4 ((entsN 1 l l.length).map entD)))] w) (l.length) ?_ ?_
      · exact ⟨0, _, _, _, _, Nat.zero_le _, rfl, ha33.only [0, 1, 2, 3, 9, 10, 11], m31.only [1, 2, 3, 4]⟩
      · skip
        clear ha33 m31
        rintro g a34 w34 ⟨k, pa, pe, ca, ce, hkl, hg, ha34, m34⟩
        refine wp_seq_k (fun K11 hK11 => ?_)
        refine wp_seq_k (fun K12 hK12 => ?_)
        refine wp_region_lit ?_
        refine st_y ha34 rfl (y_move ha34 rfl) ?_
        clear ha34 a34; intro a35 ha35
        refine st_y ha35 rfl (y_move ha35 rfl) ?_
        clear ha35 a35; intro a36 ha36
        refine st_y ha36 rfl (y_len ha36 rfl Try.underlying29) ?_
        clear ha36 a36; intro a37 ha37
        refine st_y ha37 rfl (y_lss ha37 rfl rfl) ?_
        clear ha37 a37; intro a38 ha38
        refine wpList_nil ?_
        refine hK12 _ _ ?_; clear hK12; try clear K12
        refine bool_cases ha38 (t := 42) rfl (fun hb39 ha39 => ?_) (fun hb39 ha39 => ?_)
        · skip
          clear ha38
          try simp only [decide_eq_true_eq, decide_eq_false_iff_not, Bool.not_eq_true, Bool.not_eq_false, Bool.not_eq_eq_eq_not, Bool.not_true, Bool.not_false, Bool.not_not, Int.not_lt, Int.not_le, ne_eq, Decidable.not_not] at hb39
          have hk : k < l.length := by omega
          have hYl : (entY l k).length ≤ 45 := entY_len l hbl (by omega) k hk
          refine wp_cond_true (ha39.ev (x := .tmp 42) rfl) ?_
          refine wp_skip ?_
          refine hK11 _ _ ?_; clear hK11; try clear K11
          refine wp_seq_k (fun K13 hK13 => ?_)
          refine wp_block ?_
          refine wp_seq_k (fun K14 hK14 => ?_)
          refine wp_region_lit ?_
          refine st_y ha39 rfl (y_move ha39 rfl) ?_
          clear ha39 a38; intro a40 ha40
          refine st_y ha40 rfl (y_move ha40 rfl) ?_
          clear ha40 a40; intro a41 ha41
          obtain ⟨b42, o42, vs42, hp42, hR42, ho42, m42⟩ := m34.openR (i := 4) rfl (k) (r := [.v (.int .i64 (entA l k).1), .v (.int .i64 (entA l k).2.1), .v (.int .i64 (entA l k).2.2.1), .ns .u8 (entA l k).2.2.2]) (ents_row l l.length k hk) 100 rfl
          cases hp42; clear m34 ho42
          rcases hR42 with _ | ⟨hd42_0, _ | ⟨hd42_1, _ | ⟨hd42_2, _ | ⟨hd42_3, _ | _⟩⟩⟩⟩
          obtain rfl := hd42_0.v_out
          clear hd42_0
          obtain rfl := hd42_1.v_out
          clear hd42_1
          obtain rfl := hd42_2.v_out
          clear hd42_2
          obtain ⟨p43, c43, hv43, hc43⟩ := hd42_3.ns_shape; subst hv43
          have m43 := m42.dat 101 rfl (hd42_3.cast (fun _ h => (free_add rfl h))); clear m42 hd42_3
          refine st_y ha41 rfl (y_idx ha41 rfl rfl Try.underlying29 sz24r (k) rfl hk) ?_
          clear ha41 a41; intro a44 ha44
          refine st_y ha44 rfl (y_loadCR ha44 m43 (i := 100) rfl rfl Try.underlying24 rfl sz24r) ?_
          clear ha44 a44; intro a45 ha45
          refine wpList_plain rfl (fun K hK => ?_)
          refine e_call ha45 Try.func10 rfl rfl rfl rfl (rentPut_any _ _ _ _ _ _ (m43.nums (i := 101) rfl)) ?_
          rintro e w46 ⟨u46, rfl, ho46, hb46⟩
          replace ho46 : World.ownsRow w46 _ _ _ _ (entY l k).length ((entY l k).map (Value.int .u8)) := ho46
          obtain ⟨pu46, cu46, hu46⟩ := ownsRow_shape ho46; subst hu46
          have m47 := m43.newN 102 hb46 ho46
          clear m43
          clear hb46 ho46
          refine ⟨_, rfl, fun a48 ha48 => ?_⟩; clear ha45 a45
          refine hK _ _ ?_; clear hK K
          have m49 := m47.freezeN 102 rfl; clear m47
          refine st_y ha48 rfl (y_assign ha48 rfl) ?_
          clear ha48 a48; intro a50 ha50
          refine wpList_nil ?_
          refine hK14 _ _ ?_; clear hK14; try clear K14
          refine wp_seq_k (fun K15 hK15 => ?_)
          have ha51 : Has 195 [(0, _), (1, _), (2, _), (3, _), (9, _), (10, _), (11, _), (12, _)] a50 := ha50.only [0, 1, 2, 3, 9, 10, 11, 12]; clear ha50
          refine wp_region_lit ?_
          refine st_y ha51 rfl (y_move ha51 rfl) ?_
          clear ha51 a50; intro a52 ha52
          refine st_y ha52 rfl (y_len ha52 rfl Try.underlying22) ?_
          clear ha52 a52; intro a53 ha53
          refine st_y ha53 rfl (y_gtr ha53 rfl rfl) ?_
          clear ha53 a53; intro a54 ha54
          refine wpList_nil ?_
          refine hK15 _ _ ?_; clear hK15; try clear K15
          refine bool_cases ha54 (t := 52) rfl (fun hb55 ha55 => ?_) (fun hb55 ha55 => ?_)
          · skip
            clear ha54
            try simp only [decide_eq_true_eq, decide_eq_false_iff_not, Bool.not_eq_true, Bool.not_eq_false, Bool.not_eq_eq_eq_not, Bool.not_true, Bool.not_false, Bool.not_not, Int.not_lt, Int.not_le, ne_eq, Decidable.not_not] at hb55
            have hY0 : 0 < (entY l k).length := by omega
            refine wp_cond_true (ha55.ev (x := .tmp 52) rfl) ?_
            refine wp_seq_k (fun K16 hK16 => ?_)
            refine wp_region_lit ?_
            refine st_y ha55 rfl (y_move ha55 rfl) ?_
            clear ha55 a54; intro a56 ha56
            refine wpList_plain rfl (fun K hK => ?_)
            refine e_app0N ha56 m49 103 rfl rfl (m49.nums (i := 102) rfl) Try.underlying22 inf5r (by decide) (by omega) rfl ?_
            clear ha56 a56 m49; intro p57 c57 a58 w58 ha58 m58 
            refine hK _ _ ?_; clear hK K
            refine st_y ha58 rfl (y_assign ha58 rfl) ?_
            clear ha58 a58; intro a59 ha59
            refine wpList_nil ?_
            refine hK16 _ _ ?_; clear hK16; try clear K16
            refine wp_seq_k (fun K17 hK17 => ?_)
            refine wp_region_lit ?_
            refine st_y ha59 rfl (y_move ha59 rfl) ?_
            clear ha59 a59; intro a60 ha60
            refine st_y ha60 rfl (y_move ha60 rfl) ?_
            clear ha60 a60; intro a61 ha61
            refine st_y ha61 rfl (y_conv ha61 rfl Try.underlying48 Try.underlying3 (IntWalk.i64_in _ (by omega))) ?_
            clear ha61 a61; intro a62 ha62
            refine st_y ha62 rfl (y_move ha62 rfl) ?_
            clear ha62 a62; intro a63 ha63
            refine st_y ha63 rfl (y_len ha63 rfl Try.underlying22) ?_
            clear ha63 a63; intro a64 ha64
            refine st_y ha64 rfl (y_rem ha64 rfl rfl (by omega) (tmod_nat _ _)) ?_
            clear ha64 a64; intro a65 ha65
            obtain ⟨g66, hpg66⟩ := m58.openO (i := 103) rfl (Nat.lt_of_le_of_lt (Nat.zero_le _) (Nat.mod_lt at' hY0))
            cases hpg66
            refine st_y ha65 rfl (y_idxO ha65 rfl rfl Try.underlying22 sz5r (at' % (entY l k).length) rfl (Nat.mod_lt at' hY0)) ?_
            clear ha65 a65; intro a67 ha67
            refine st_y ha67 rfl (y_loadO ha67 m58 (i := 103) rfl rfl rfl (Nat.mod_lt at' hY0) Try.underlying5 rfl) ?_
            clear ha67 a67; intro a68 ha68
            refine st_y ha68 rfl (y_move ha68 rfl) ?_
            clear ha68 a68; intro a69 ha69
            refine st_y ha69 rfl (y_xor ha69 rfl rfl (r := xor8 ((entY l k).getD (at' % (entY l k).length) 0) x) rfl) ?_
            clear ha69 a69; intro a70 ha70
            obtain ⟨g71, hpg71⟩ := m58.openO (i := 103) rfl (Nat.lt_of_le_of_lt (Nat.zero_le _) (Nat.mod_lt at' hY0))
            cases hpg71
            refine st_y ha70 rfl (y_idxO ha70 rfl rfl Try.underlying22 sz5r (at' % (entY l k).length) rfl (Nat.mod_lt at' hY0)) ?_
            clear ha70 a70; intro a72 ha72
            refine wpList_plain rfl (fun K hK => ?_)
            refine e_storeO ha72 m58 103 rfl rfl rfl rfl (Nat.mod_lt at' hY0) sz5r ?_
            clear m58; intro w73 m73 
            refine hK _ _ ?_; clear hK K
            refine wpList_nil ?_
            refine hK17 _ _ ?_; clear hK17; try clear K17
            have ha74 : Has 195 [(0, _), (1, _), (2, _), (3, _), (9, _), (10, _), (11, _), (12, _), (52, _), (13, _)] a72 := ha72.only [0, 1, 2, 3, 9, 10, 11, 12, 52, 13]; clear ha72
            refine wp_region_lit ?_
            refine st_y ha74 rfl (y_move ha74 rfl) ?_
            clear ha74 a72; intro a75 ha75
            refine st_y ha75 rfl (y_move ha75 rfl) ?_
            clear ha75 a75; intro a76 ha76
            refine st_y ha76 rfl (y_move ha76 rfl) ?_
            clear ha76 a76; intro a77 ha77
            refine st_y ha77 rfl (y_move ha77 rfl) ?_
            clear ha77 a77; intro a78 ha78
            refine st_y ha78 rfl (y_move ha78 rfl) ?_
            clear ha78 a78; intro a79 ha79
            refine st_y ha79 rfl (y_conv ha79 rfl Try.underlying48 Try.underlying3 (IntWalk.i64_in _ (by omega))) ?_
            clear ha79 a79; intro a80 ha80
            refine st_y ha80 rfl (y_move ha80 rfl) ?_
            clear ha80 a80; intro a81 ha81
            refine st_y ha81 rfl (y_len ha81 rfl Try.underlying22) ?_
            clear ha81 a81; intro a82 ha82
            refine st_y ha82 rfl (y_rem ha82 rfl rfl (by omega) (tmod_nat _ _)) ?_
            clear ha82 a82; intro a83 ha83
            have m84 := m73.takeN (i := 102) rfl (at' % (entY l k).length) (Nat.le_of_lt (Nat.mod_lt at' hY0)) 104 rfl
            have hcap84 := (m73.rd (i := 102) rfl).ns_out.cap; clear m73
            refine st_y ha83 rfl (y_sliceHn ha83 (at' % (entY l k).length) rfl rfl Try.underlying22 sz5r rfl (Nat.le_trans (Nat.le_of_lt (Nat.mod_lt at' hY0)) hcap84.1)) ?_
            clear ha83 a83; intro a85 ha85
            have m87 := m84.freezeN 103 rfl; clear m84
            refine wpList_plain rfl (fun K hK => ?_)
            refine e_litR ha85 m87 105 (mm := 1) rfl (.cons rfl rfl (.cons (m87.rd (i := 102) rfl) .nil) <| .cons rfl rfl (.cons (m87.rd (i := 103) rfl) .nil) <| .cons rfl rfl (.cons (m87.rd (i := 104) rfl) .nil) <| .nil) Try.underlying49 inf22r rfl rfl rfl rfl rfl ?_
            clear ha85 a85 m87; intro g86 a88 w88 ha88 m88 
            refine hK _ _ ?_; clear hK K
            have m90 := m88.freezeR 105 rfl; clear m88
            refine wpList_plain rfl (fun K hK => ?_)
            refine e_appR ha88 m90 3 rfl rfl rfl (m90.rd (i := 105) rfl) Try.underlying49 inf22r rfl rfl (by decide) (by have := allN_len l at' x k; simp [lsD]; omega) rfl ?_
            clear ha88 a88 m90; intro p89 c89 a91 w91 ha91 m91 
            refine hK _ _ ?_; clear hK K
            refine st_y ha91 rfl (y_assign ha91 rfl) ?_
            clear ha91 a91; intro a92 ha92
            refine wpList_nil ?_
            refine hK13 _ _ ?_; clear hK13; try clear K13
            have ha93 : Has 195 [(0, _), (1, _), (2, _), (3, _), (9, _), (10, _), (11, _), (52, _)] a92 := ha92.only [0, 1, 2, 3, 9, 10, 11, 52]; clear ha92
            refine wp_region_lit ?_
            refine st_y ha93 rfl (y_move ha93 rfl) ?_
            clear ha93 a92; intro a94 ha94
            refine st_y ha94 rfl (y_add ha94 rfl rfl (r := ((k + 1 : Nat) : Int)) (by rw [IntWalk.i64_in _ (by omega)]; omega)) ?_
            clear ha94 a94; intro a95 ha95
            refine st_y ha95 rfl (y_assign ha95 rfl) ?_
            clear ha95 a95; intro a96 ha96
            refine wpList_nil ?_
            show ∃ n', n' < _ ∧ _
            have hE : lsD (allN l at' x k) ++ [[D.ns .u8 (entY l k)], [D.ns .u8 ((entY l k).set (at' % (entY l k).length) (xor8 ((entY l k).getD (at' % (entY l k).length) 0) x))], [D.ns .u8 ((entY l k).take (at' % (entY l k).length))]] = lsD (allN l at' x (k + 1)) := by
              rw [allN, if_neg (by omega), lsD, lsD, List.map_append]; rfl
            rw [hE] at m91 ha96
            exact ⟨l.length - (k + 1), by omega, k + 1, _, _, _, _, by omega, rfl, ha96.only [0, 1, 2, 3, 9, 10, 11], m91.only [1, 2, 3, 4]⟩
          · skip
            clear ha54
            try simp only [decide_eq_true_eq, decide_eq_false_iff_not, Bool.not_eq_true, Bool.not_eq_false, Bool.not_eq_eq_eq_not, Bool.not_true, Bool.not_false, Bool.not_not, Int.not_lt, Int.not_le, ne_eq, Decidable.not_not] at hb55
            refine wp_cond_false (ha55.ev (x := .tmp 52) rfl) ?_
            refine wp_skip ?_
            refine hK13 _ _ ?_; clear hK13; try clear K13
            refine wp_region_lit ?_
            refine st_y ha55 rfl (y_move ha55 rfl) ?_
            clear ha55 a54; intro a97 ha97
            refine st_y ha97 rfl (y_add ha97 rfl rfl (r := ((k + 1 : Nat) : Int)) (by rw [IntWalk.i64_in _ (by omega)]; omega)) ?_
            clear ha97 a97; intro a98 ha98
            refine st_y ha98 rfl (y_assign ha98 rfl) ?_
            clear ha98 a98; intro a99 ha99
            refine wpList_nil ?_
            show ∃ n', n' < _ ∧ _
            have hE : lsD (allN l at' x k) = lsD (allN l at' x (k + 1)) := by
              rw [allN, if_pos (by omega), List.append_nil]
            rw [hE] at m49 ha99
            exact ⟨l.length - (k + 1), by omega, k + 1, _, _, _, _, by omega, rfl, ha99.only [0, 1, 2, 3, 9, 10, 11], m49.only [1, 2, 3, 4]⟩
        · skip
          clear ha38
          try simp only [decide_eq_true_eq, decide_eq_false_iff_not, Bool.not_eq_true, Bool.not_eq_false, Bool.not_eq_eq_eq_not, Bool.not_true, Bool.not_false, Bool.not_not, Int.not_lt, Int.not_le, ne_eq, Decidable.not_not] at hb39
          obtain rfl : k = l.length := by omega
          refine wp_cond_false (ha39.ev (x := .tmp 42) rfl) ?_
          refine wp_exit ?_
          refine hK9 _ _ ?_; clear hK9; try clear K9
          refine wp_seq_k (fun K18 hK18 => ?_)
          refine wp_region_lit ?_
          refine st_y ha39 rfl (y_move ha39 rfl) ?_
          clear ha39 a38; intro a100 ha100
          refine st_y ha100 rfl (y_conv ha100 rfl Try.underlying5 Try.underlying3 (IntWalk.i64_in _ (by omega))) ?_
          clear ha100 a100; intro a101 ha101
          refine wpList_plain rfl (fun K hK => ?_)
          refine e_litN ha101 m34 100 (k := .i64) rfl rfl Try.underlying25 inf3r rfl rfl rfl rfl ?_
          clear ha101 a101 m34; intro g102 a103 w103 ha103 m103 
          refine hK _ _ ?_; clear hK K
          refine st_y ha103 rfl (y_move ha103 rfl) ?_
          clear ha103 a103; intro a104 ha104
          refine st_y ha104 rfl (y_build ha104 rfl zc27r fl27r rfl (by dsimp only [setL, List.set] <;> rfl)) ?_
          clear ha104 a104; intro a105 ha105
          refine wpList_plain rfl (fun K hK => ?_)
          refine e_call ha105 Try.func20 rfl rfl rfl rfl (rbasePut_any _ _ _ _ _ _ _ (m103.numsO (i := 100) rfl) (m103.nums (i := 2) rfl) (by decide)) ?_
          rintro e w106 ⟨u106, rfl, ho106, hb106⟩
          replace ho106 : World.ownsRow w106 _ _ _ _ (basY l x).length ((basY l x).map (Value.int .u8)) := ho106
          obtain ⟨pu106, cu106, hu106⟩ := ownsRow_shape ho106; subst hu106
          have m107 := m103.newN 101 hb106 ho106
          clear m103
          clear hb106 ho106
          refine ⟨_, rfl, fun a108 ha108 => ?_⟩; clear ha105 a105
          refine hK _ _ ?_; clear hK K
          have m109 := m107.freezeN 101 rfl; clear m107
          refine st_y ha108 rfl (y_assign ha108 rfl) ?_
          clear ha108 a108; intro a110 ha110
          refine wpList_nil ?_
          refine hK18 _ _ ?_; clear hK18; try clear K18
          refine wp_seq_k (fun K19 hK19 => ?_)
          have ha111 : Has 195 [(0, _), (1, _), (2, _), (3, _), (9, _), (10, _), (11, _), (14, _)] a110 := ha110.only [0, 1, 2, 3, 9, 10, 11, 14]; clear ha110
          refine wp_region_lit ?_
          refine st_y ha111 rfl (y_move ha111 rfl) ?_
          clear ha111 a110; intro a112 ha112
          refine wpList_plain rfl (fun K hK => ?_)
          refine e_app0N ha112 m109 102 rfl rfl (m109.nums (i := 101) rfl) Try.underlying22 inf5r (by decide) (by omega) rfl ?_
          clear ha112 a112 m109; intro p113 c113 a114 w114 ha114 m114 
          refine hK _ _ ?_; clear hK K
          refine st_y ha114 rfl (y_assign ha114 rfl) ?_
          clear ha114 a114; intro a115 ha115
          refine wpList_nil ?_
          refine hK19 _ _ ?_; clear hK19; try clear K19
          refine wp_seq_k (fun K20 hK20 => ?_)
          refine wp_region_lit ?_
          refine st_y ha115 rfl (y_move ha115 rfl) ?_
          clear ha115 a115; intro a116 ha116
          refine st_y ha116 rfl (y_move ha116 rfl) ?_
          clear ha116 a116; intro a117 ha117
          refine st_y ha117 rfl (y_conv ha117 rfl Try.underlying48 Try.underlying3 (IntWalk.i64_in _ (by omega))) ?_
          clear ha117 a117; intro a118 ha118
          refine st_y ha118 rfl (y_move ha118 rfl) ?_
          clear ha118 a118; intro a119 ha119
          refine st_y ha119 rfl (y_len ha119 rfl Try.underlying22) ?_
          clear ha119 a119; intro a120 ha120
          refine st_y ha120 rfl (y_rem ha120 rfl rfl (by omega) (tmod_nat _ _)) ?_
          clear ha120 a120; intro a121 ha121
          obtain ⟨g122, hpg122⟩ := m114.openO (i := 102) rfl (Nat.lt_of_le_of_lt (Nat.zero_le _) (Nat.mod_lt at' hB0))
          cases hpg122
          refine st_y ha121 rfl (y_idxO ha121 rfl rfl Try.underlying22 sz5r (at' % (basY l x).length) rfl (Nat.mod_lt at' hB0)) ?_
          clear ha121 a121; intro a123 ha123
          refine st_y ha123 rfl (y_loadO ha123 m114 (i := 102) rfl rfl rfl (Nat.mod_lt at' hB0) Try.underlying5 rfl) ?_
          clear ha123 a123; intro a124 ha124
          refine st_y ha124 rfl (y_move ha124 rfl) ?_
          clear ha124 a124; intro a125 ha125
          refine st_y ha125 rfl (y_xor ha125 rfl rfl (r := xor8 ((basY l x).getD (at' % (basY l x).length) 0) x) rfl) ?_
          clear ha125 a125; intro a126 ha126
          obtain ⟨g127, hpg127⟩ := m114.openO (i := 102) rfl (Nat.lt_of_le_of_lt (Nat.zero_le _) (Nat.mod_lt at' hB0))
          cases hpg127
          refine st_y ha126 rfl (y_idxO ha126 rfl rfl Try.underlying22 sz5r (at' % (basY l x).length) rfl (Nat.mod_lt at' hB0)) ?_
          clear ha126 a126; intro a128 ha128
          refine wpList_plain rfl (fun K hK => ?_)
          refine e_storeO ha128 m114 102 rfl rfl rfl rfl (Nat.mod_lt at' hB0) sz5r ?_
          clear m114; intro w129 m129 
          refine hK _ _ ?_; clear hK K
          refine wpList_nil ?_
          refine hK20 _ _ ?_; clear hK20; try clear K20
          refine wp_seq_k (fun K21 hK21 => ?_)
          have ha130 : Has 195 [(0, _), (1, _), (2, _), (3, _), (9, _), (10, _), (11, _), (14, _), (15, _)] a128 := ha128.only [0, 1, 2, 3, 9, 10, 11, 14, 15]; clear ha128
          refine wp_region_lit ?_
          refine st_y ha130 rfl (y_move ha130 rfl) ?_
          clear ha130 a128; intro a131 ha131
          refine st_y ha131 rfl (y_move ha131 rfl) ?_
          clear ha131 a131; intro a132 ha132
          refine st_y ha132 rfl (y_move ha132 rfl) ?_
          clear ha132 a132; intro a133 ha133
          refine st_y ha133 rfl (y_move ha133 rfl) ?_
          clear ha133 a133; intro a134 ha134
          have m136 := m129.freezeN 102 rfl; clear m129
          refine wpList_plain rfl (fun K hK => ?_)
          refine e_litR ha134 m136 103 (mm := 1) rfl (.cons rfl rfl (.cons (m136.rd (i := 1) rfl) .nil) <| .cons rfl rfl (.cons (m136.rd (i := 101) rfl) .nil) <| .cons rfl rfl (.cons (m136.rd (i := 102) rfl) .nil) <| .nil) Try.underlying49 inf22r rfl rfl rfl rfl rfl ?_
          clear ha134 a134 m136; intro g135 a137 w137 ha137 m137 
          refine hK _ _ ?_; clear hK K
          have m139 := m137.freezeR 103 rfl; clear m137
          refine wpList_plain rfl (fun K hK => ?_)
          refine e_appR ha137 m139 3 rfl rfl rfl (m139.rd (i := 103) rfl) Try.underlying49 inf22r rfl rfl (by decide) (by have := allN_len l at' x l.length; simp [lsD]; omega) rfl ?_
          clear ha137 a137 m139; intro p138 c138 a140 w140 ha140 m140 
          refine hK _ _ ?_; clear hK K
          refine st_y ha140 rfl (y_assign ha140 rfl) ?_
          clear ha140 a140; intro a141 ha141
          refine wpList_nil ?_
          refine hK21 _ _ ?_; clear hK21; try clear K21
          refine wp_seq_k (fun K22 hK22 => ?_)
          refine wp_seq_k (fun K23 hK23 => ?_)
          have ha142 : Has 195 [(0, _), (1, _), (2, _), (3, _), (9, _), (10, _), (11, _)] a141 := ha141.only [0, 1, 2, 3, 9, 10, 11]; clear ha141
          refine wp_region_lit ?_
          refine st_y ha142 rfl (y_assign ha142 rfl) ?_
          clear ha142 a141; intro a143 ha143
          refine wpList_nil ?_
          refine hK23 _ _ ?_; clear hK23; try clear K23
          refine wp_block ?_
          obtain ⟨A, hA, hAl, hEA⟩ : ∃ A : List (List Int), (∀ b ∈ A, ByteL b ∧ b.length ≤ 100) ∧ A.length ≤ 100 ∧ lsD (allN l at' x l.length) ++ [[D.ns .u8 raw], [D.ns .u8 (basY l x)], [D.ns .u8 ((basY l x).set (at' % (basY l x).length) (xor8 ((basY l x).getD (at' % (basY l x).length) 0) x))]] = lsD A := ⟨allN l at' x l.length ++ [raw, basY l x, bentB (basY l x) at' x], all_ok hraw (by omega) hbl (by omega) hx, by have := allN_len l at' x l.length; simp; omega, by simp [lsD, bentB]⟩
          rw [hEA] at m140 ha143
          have m144 := m140.freezeR 3 rfl; clear m140
          refine wp_loop_ghost (fun g a w => ∃ (k : Nat) (pa : Option Addr) (ca : Nat), k ≤ A.length ∧ g = A.length - k ∧ Has 195 [(9, .slice pa (lsD A).length ca), (16, .int .i64 k)] a ∧ MemOk (cx (fun _ => True) w0) w0 [(3, .dat (.slice pa (lsD A).length ca) (.l 1 (lsD A)))] w) (A.length) ?_ ?_
          · exact ⟨0, _, _, Nat.zero_le _, rfl, ha143.only [9, 16], m144.only [3]⟩
          · skip
            clear ha143 m144
            rintro g a145 w145 ⟨k, pa, ca, hkl, hg, ha145, m145⟩
            refine wp_seq_k (fun K24 hK24 => ?_)
            refine wp_seq_k (fun K25 hK25 => ?_)
            refine wp_region_lit ?_
            refine st_y ha145 rfl (y_move ha145 rfl) ?_
            clear ha145 a145; intro a146 ha146
            refine st_y ha146 rfl (y_move ha146 rfl) ?_
            clear ha146 a146; intro a147 ha147
            refine st_y ha147 rfl (y_len ha147 rfl Try.underlying49) ?_
            clear ha147 a147; intro a148 ha148
            refine st_y ha148 rfl (y_lss ha148 rfl rfl) ?_
            clear ha148 a148; intro a149 ha149
            refine wpList_nil ?_
            refine hK25 _ _ ?_; clear hK25; try clear K25
            refine bool_cases ha149 (t := 106) rfl (fun hb150 ha150 => ?_) (fun hb150 ha150 => ?_)
            · skip
              clear ha149
              try simp only [decide_eq_true_eq, decide_eq_false_iff_not, Bool.not_eq_true, Bool.not_eq_false, Bool.not_eq_eq_eq_not, Bool.not_true, Bool.not_false, Bool.not_not, Int.not_lt, Int.not_le, ne_eq, Decidable.not_not] at hb150
              have hk : k < A.length := by rw [lsD_len] at hb150; omega
              obtain ⟨bs, hbs⟩ : ∃ bs, A[k]? = some bs := ⟨_, List.getElem?_eq_getElem hk⟩
              have hbk := hA bs (List.mem_of_getElem? hbs)
              refine wp_cond_true (ha150.ev (x := .tmp 106) rfl) ?_
              refine wp_skip ?_
              refine hK24 _ _ ?_; clear hK24; try clear K24
              refine wp_seq_k (fun K26 hK26 => ?_)
              refine wp_block ?_
              refine wp_seq_k (fun K27 hK27 => ?_)
              obtain ⟨b151, o151, vs151, hp151, hR151, ho151, m151⟩ := m145.openR (i := 3) rfl (k) (r := [.ns .u8 bs]) (lsD_get hbs) 200 rfl
              cases hp151; clear m145 ho151
              rcases hR151 with _ | ⟨hd151_0, _ | _⟩
              obtain ⟨p152, c152, hv152, hc152⟩ := hd151_0.ns_shape; subst hv152
              have m152 := m151.dat 201 rfl (hd151_0.cast (fun _ h => (free_add rfl h))); clear m151 hd151_0
              obtain ⟨b153, o153, vs153, hp153, hR153, ho153, m153⟩ := m152.openR (i := 3) rfl (k) (r := [.ns .u8 bs]) (lsD_get hbs) 202 rfl
              cases hp153; clear m152 ho153
              rcases hR153 with _ | ⟨hd153_0, _ | _⟩
              obtain ⟨p154, c154, hv154, hc154⟩ := hd153_0.ns_shape; subst hv154
              have m154 := m153.dat 203 rfl (hd153_0.cast (fun _ h => (free_add rfl h))); clear m153 hd153_0
              have m155 : MemOk _ _ [(3, _), (200, _), (201, _), (202, _), (203, _)] _ := m154.only [3, 200, 201, 202, 203]; clear m154
              refine region_m 13 (B := [(3, _), (200, _), (201, _), (202, _), (203, _)]) (m155.to ⟨.inl rfl, .inl rfl, .inl rfl, .inl rfl, .inl rfl, trivial⟩) m155 (by kernel_rfl) (fun w156 mB156 m156 => ?_); clear m155 mB156
              refine d_y 0 ha150 rfl rfl (fun _ => (m156.to ⟨.inl rfl, .inl rfl, .inl rfl, .inl rfl, .inl rfl, trivial⟩)) (by kernel_rfl) (by kernel_rfl) (by kernel_rfl) (by rfl) (fun _ _ _ h => h) (fun W => y_move ha150 rfl) ?_
              clear ha150 a149; intro a157 ha157
              refine d_y 1 ha157 rfl rfl (fun _ => (m156.to ⟨.inl rfl, .inl rfl, .inl rfl, .inl rfl, .inl rfl, trivial⟩)) (by kernel_rfl) (by kernel_rfl) (by kernel_rfl) (by rfl) (fun _ _ _ h => h) (fun W => y_move ha157 rfl) ?_
              clear ha157 a157; intro a158 ha158
              refine d_y 2 ha158 rfl rfl (fun _ => (m156.to ⟨.inl rfl, .inl rfl, .inl rfl, .inl rfl, .inl rfl, trivial⟩)) (by kernel_rfl) (by kernel_rfl) (by kernel_rfl) (by rfl) (fun _ _ _ h => h) (fun W => y_idx ha158 rfl rfl Try.underlying49 sz22r (k) rfl (by rw [lsD_len]; exact hk)) ?_
              clear ha158 a158; intro a159 ha159
              refine d_h 3 ha159 rfl rfl (m156.to ⟨.inl rfl, .inl rfl, .inl rfl, .inl rfl, .inl rfl, trivial⟩) (by kernel_rfl) (by kernel_rfl) (by kernel_rfl) (by kernel_rfl) (by kernel_rfl) (fun _ _ _ h => h) (fun W hW => y_loadC0 ha159 hW (i := 200) rfl rfl Try.underlying22 rfl) ?_
              clear ha159 a159; intro a160 ha160
              refine d_y 5 ha160 rfl rfl (fun _ => (m156.to ⟨.inl rfl, .inl rfl, .inl rfl, .inl rfl, .inl rfl, trivial⟩)) (by kernel_rfl) (by kernel_rfl) (by kernel_rfl) (by rfl) (fun _ _ _ h => h) (fun W => y_move ha160 rfl) ?_
              clear ha160 a160; intro a161 ha161
              refine d_y 6 ha161 rfl rfl (fun _ => (m156.to ⟨.inl rfl, .inl rfl, .inl rfl, .inl rfl, .inl rfl, trivial⟩)) (by kernel_rfl) (by kernel_rfl) (by kernel_rfl) (by rfl) (fun _ _ _ h => h) (fun W => y_move ha161 rfl) ?_
              clear ha161 a161; intro a162 ha162
              refine d_y 7 ha162 rfl rfl (fun _ => (m156.to ⟨.inl rfl, .inl rfl, .inl rfl, .inl rfl, .inl rfl, trivial⟩)) (by kernel_rfl) (by kernel_rfl) (by kernel_rfl) (by rfl) (fun _ _ _ h => h) (fun W => y_idx ha162 rfl rfl Try.underlying49 sz22r (k) rfl (by rw [lsD_len]; exact hk)) ?_
              clear ha162 a162; intro a163 ha163
              refine d_h 8 ha163 rfl rfl (m156.to ⟨.inl rfl, .inl rfl, .inl rfl, .inl rfl, .inl rfl, trivial⟩) (by kernel_rfl) (by kernel_rfl) (by kernel_rfl) (by kernel_rfl) (by kernel_rfl) (fun _ _ _ h => h) (fun W hW => y_loadC0 ha163 hW (i := 202) rfl rfl Try.underlying22 rfl) ?_
              clear ha163 a163; intro a164 ha164
              refine d_y 9 ha164 rfl rfl (fun _ => (m156.to ⟨.inl rfl, .inl rfl, .inl rfl, .inl rfl, .inl rfl, trivial⟩)) (by kernel_rfl) (by kernel_rfl) (by kernel_rfl) (by rfl) (fun _ _ _ h => h) (fun W => y_build ha164 rfl zc52r fl52r rfl (by dsimp only [setL, List.set] <;> rfl)) ?_
              clear ha164 a164; intro a165 ha165
              refine d_two 4 10 rfl rfl (by kernel_rfl) rfl rfl (fun K hK => ?_) (fun K hK => ?_)
              · skip
                refine e_call ha165 Try.func15 rfl rfl rfl rfl (new_any _ bs _ (m156.nums (i := 201) rfl) hbk.1 (by omega)) ?_
                rintro e w166 ⟨B166, u166, rfl, hBl166, hR166, hb166⟩
                have hBN166 : w0.heap.size ≤ B166 := Nat.le_trans m156.keep.size (Nat.le_of_lt hBl166)
                have m167 := m156.callAny 204 hb166 (Nat.le_of_lt hBl166) hR166.lt
                clear m156
                clear hb166 hBl166
                refine ⟨_, rfl, fun a168 ha168 => ?_⟩; clear ha165 a165
                refine hK _ _ (fun _ => (m167.to ⟨.inl rfl, .inl rfl, .inl rfl, .inl rfl, .inl rfl, trivial⟩)) ?_; clear hK K
                refine d_y 11 ha168 rfl rfl (fun _ => (m167.to ⟨.inl rfl, .inl rfl, .inl rfl, .inl rfl, .inl rfl, trivial⟩)) (by kernel_rfl) (by kernel_rfl) (by kernel_rfl) (by rfl) (fun _ _ _ h => h) (fun W => y_assign ha168 rfl) ?_
                clear ha168 a168; intro a169 ha169
                have hblk170 := (m167.rd (i := 203) rfl).ns_out.blk
                refine stepE_only 10 rfl (by kernel_rfl) rfl (fun K hK => ?_)
                refine e_box ha169 m167 205 rfl rfl rfl ?_
                clear ha169 a169 m167; intro g171 a172 w172 ha172 m172 hB172 hg172
                rw [← hg172] at hblk170
                have hR172 := hR166.later hB172; clear hR166
                clear hB172 hg172
                refine hK _ _ (m172.to ⟨.inl rfl, .inl rfl, .inl rfl, .inl rfl, .inl rfl, trivial⟩) ?_; clear hK K
                refine d_y 12 ha172 rfl rfl (fun _ => (m172.to ⟨.inl rfl, .inl rfl, .inl rfl, .inl rfl, .inl rfl, trivial⟩)) (by kernel_rfl) (by kernel_rfl) (by kernel_rfl) (by rfl) (fun _ _ _ h => h) (fun W => y_assign ha172 rfl) ?_
                clear ha172 a172; intro a173 ha173
                refine wpAnyE_done (by kernel_rfl) ?_ _
                refine hK27 _ _ ?_; clear hK27; try clear K27
                refine wp_seq_k (fun K28 hK28 => ?_)
                have ha174 : Has 195 [(9, _), (16, _), (17, _), (18, _)] a173 := ha173.only [9, 16, 17, 18]; clear ha173
                refine wp_region_lit ?_
                refine st_y ha174 rfl (y_move ha174 rfl) ?_
                clear ha174 a173; intro a175 ha175
                refine wpList_plain rfl (fun K hK => ?_)
                refine e_call ha175 Try.func16 rfl rfl rfl rfl (entRead_any _ _ bs 0 _ hR172 (by omega)) ?_
                rintro e w176 ⟨u176, rfl, ho176, ⟨v176, hr176⟩, hon176⟩
                obtain ⟨pu176, cu176, hu176⟩ := ownsRow_shape ho176; subst hu176
                obtain ⟨pv176, cv176, hv176⟩ := reader_shape hr176; subst hv176
                have m177 := m172.onlyN 204 rfl hon176.keep 206 rfl ho176
                clear m172
                have m178 := m177.freezeN 206 rfl
                clear m177
                have m179 := m178.shut 204 rfl hBN166 (reader_range hr176)
                clear m178
                clear ho176 hr176 hon176 hR172
                refine ⟨_, rfl, fun a180 ha180 => ?_⟩; clear ha175 a175
                refine hK _ _ ?_; clear hK K
                refine st_y ha180 rfl (y_move ha180 rfl) ?_
                clear ha180 a180; intro a181 ha181
                refine st_y ha181 rfl (y_extract ha181 rfl rfl) ?_
                clear ha181 a181; intro a182 ha182
                refine st_y ha182 rfl (y_extract ha182 rfl rfl) ?_
                clear ha182 a182; intro a183 ha183
                refine wpList_plain rfl (fun K hK => ?_)
                refine e_alloc ha183 m179 207 zc24r rfl ?_
                clear ha183 a183 m179; intro g184 a185 w185 ha185 m185 hB185 hg185
                clear hB185 hg185
                refine hK _ _ ?_; clear hK K
                refine wpList_plain rfl (fun K hK => ?_)
                refine e_storeW ha185 m185 207 rfl rfl rfl rfl rfl sz24r ?_
                clear m185; intro w186 m186 hB186
                clear hB186
                refine hK _ _ ?_; clear hK K
                refine st_y ha185 rfl (y_assign ha185 rfl) ?_
                clear ha185 a185; intro a187 ha187
                refine wpList_nil ?_
                refine hK28 _ _ ?_; clear hK28; try clear K28
                refine wp_seq_k (fun K29 hK29 => ?_)
                refine wp_region_lit ?_
                refine st_y ha187 rfl (y_move ha187 rfl) ?_
                clear ha187 a187; intro a188 ha188
                refine wpList_plain rfl (fun K hK => ?_)
                refine e_call ha188 Try.func26 rfl rfl rfl rfl (rentRead_any _ _ bs 0 _ (reader_of m186 (i := 205) (j := 203) rfl rfl hblk170 hbk.1) (by omega)) ?_
                rintro e w189 ⟨u189, rfl, hnl189, ⟨v189, hr189, hsb189⟩, hon189, hsu189⟩
                obtain ⟨pv189, cv189, hv189⟩ := reader_shape hr189; subst hv189
                have hlt189 := hr189.lt
                have hgN189 := (MemOk.box_new m186 (i := 205) rfl)
                have hS189 := (m186.rd (i := 203) rfl).ns_out
                have m190 := m186.hide 205 rfl
                clear m186
                have hS189 := hS189.mono (Nat.le_refl _) (fun b hb hF => ⟨rfl, free_any (i := 205) rfl hF⟩)
                have m191 := m190.only1 205 rfl hon189.keep 209 rfl
                clear m190
                have m192 := m191.shut 205 rfl hgN189 (reader_range hr189)
                clear m191
                obtain ⟨pu189, cu189, hu189, hcu189⟩ := numsLt_shape hnl189
                subst hu189
                have m193 := m192.dat 208 rfl (.ns ((NumsS.of hS189 (hnl189.nums (Nat.le_of_lt hlt189)) (numsLt_cap hnl189) hsu189 (fun h => by have := entRV_len bs 0; omega)).mono (Nat.le_refl _) (fun b _ hF => ⟨rfl, free_add rfl (free_add rfl hF)⟩)))
                clear m192
                clear hS189 hr189 hsb189 hon189 hsu189 hnl189 hblk170
                refine ⟨_, rfl, fun a194 ha194 => ?_⟩; clear ha188 a188
                refine hK _ _ ?_; clear hK K
                refine st_y ha194 rfl (y_move ha194 rfl) ?_
                clear ha194 a194; intro a195 ha195
                refine st_y ha195 rfl (y_extract ha195 rfl rfl) ?_
                clear ha195 a195; intro a196 ha196
                refine st_y ha196 rfl (y_extract ha196 rfl rfl) ?_
                clear ha196 a196; intro a197 ha197
                refine wpList_plain rfl (fun K hK => ?_)
                refine e_alloc ha197 m193 210 zc24r rfl ?_
                clear ha197 a197 m193; intro g198 a199 w199 ha199 m199 hB199 hg199
                clear hB199 hg199
                refine hK _ _ ?_; clear hK K
                refine wpList_plain rfl (fun K hK => ?_)
                refine e_storeW ha199 m199 210 rfl rfl rfl rfl rfl sz24r ?_
                clear m199; intro w200 m200 hB200
                clear hB200
                refine hK _ _ ?_; clear hK K
                refine st_y ha199 rfl (y_assign ha199 rfl) ?_
                clear ha199 a199; intro a201 ha201
                refine wpList_nil ?_
                refine hK29 _ _ ?_; clear hK29; try clear K29
                refine wp_seq_k (fun K30 hK30 => ?_)
                have hC30 : ∀ (a : Act) (w : World), (∃ (pa : Option Addr) (ca : Nat), Has 195 [(9, .slice pa (lsD A).length ca), (16, .int .i64 k)] a ∧ MemOk (cx (fun _ => True) w0) w0 [(3, .dat (.slice pa (lsD A).length ca) (.l 1 (lsD A)))] w) → K30 a w := by
                  clear ha201 m200
                  rintro a202 w202 ⟨pa, ca, ha202, m202⟩
                  refine hK30 _ _ ?_; clear hK30; try clear K30
                  refine wp_seq_k (fun K31 hK31 => ?_)
                  obtain ⟨b203, o203, vs203, hp203, hR203, ho203, m203⟩ := m202.openR (i := 3) rfl (k) (r := [.ns .u8 bs]) (lsD_get hbs) 300 rfl
                  cases hp203; clear m202 ho203
                  rcases hR203 with _ | ⟨hd203_0, _ | _⟩
                  obtain ⟨p204, c204, hv204, hc204⟩ := hd203_0.ns_shape; subst hv204
                  have m204 := m203.dat 301 rfl (hd203_0.cast (fun _ h => (free_add rfl h))); clear m203 hd203_0
                  obtain ⟨b205, o205, vs205, hp205, hR205, ho205, m205⟩ := m204.openR (i := 3) rfl (k) (r := [.ns .u8 bs]) (lsD_get hbs) 302 rfl
                  cases hp205; clear m204 ho205
                  rcases hR205 with _ | ⟨hd205_0, _ | _⟩
                  obtain ⟨p206, c206, hv206, hc206⟩ := hd205_0.ns_shape; subst hv206
                  have m206 := m205.dat 303 rfl (hd205_0.cast (fun _ h => (free_add rfl h))); clear m205 hd205_0
                  have m207 : MemOk _ _ [(3, _), (300, _), (301, _), (302, _), (303, _)] _ := m206.only [3, 300, 301, 302, 303]; clear m206
                  refine region_m 13 (B := [(3, _), (300, _), (301, _), (302, _), (303, _)]) (m207.to ⟨.inl rfl, .inl rfl, .inl rfl, .inl rfl, .inl rfl, trivial⟩) m207 (by kernel_rfl) (fun w208 mB208 m208 => ?_); clear m207 mB208
                  refine d_y 0 ha202 rfl rfl (fun _ => (m208.to ⟨.inl rfl, .inl rfl, .inl rfl, .inl rfl, .inl rfl, trivial⟩)) (by kernel_rfl) (by kernel_rfl) (by kernel_rfl) (by rfl) (fun _ _ _ h => h) (fun W => y_move ha202 rfl) ?_
                  clear ha202 a202; intro a209 ha209
                  refine d_y 1 ha209 rfl rfl (fun _ => (m208.to ⟨.inl rfl, .inl rfl, .inl rfl, .inl rfl, .inl rfl, trivial⟩)) (by kernel_rfl) (by kernel_rfl) (by kernel_rfl) (by rfl) (fun _ _ _ h => h) (fun W => y_move ha209 rfl) ?_
                  clear ha209 a209; intro a210 ha210
                  refine d_y 2 ha210 rfl rfl (fun _ => (m208.to ⟨.inl rfl, .inl rfl, .inl rfl, .inl rfl, .inl rfl, trivial⟩)) (by kernel_rfl) (by kernel_rfl) (by kernel_rfl) (by rfl) (fun _ _ _ h => h) (fun W => y_idx ha210 rfl rfl Try.underlying49 sz22r (k) rfl (by rw [lsD_len]; exact hk)) ?_
                  clear ha210 a210; intro a211 ha211
                  refine d_h 3 ha211 rfl rfl (m208.to ⟨.inl rfl, .inl rfl, .inl rfl, .inl rfl, .inl rfl, trivial⟩) (by kernel_rfl) (by kernel_rfl) (by kernel_rfl) (by kernel_rfl) (by kernel_rfl) (fun _ _ _ h => h) (fun W hW => y_loadC0 ha211 hW (i := 300) rfl rfl Try.underlying22 rfl) ?_
                  clear ha211 a211; intro a212 ha212
                  refine d_y 5 ha212 rfl rfl (fun _ => (m208.to ⟨.inl rfl, .inl rfl, .inl rfl, .inl rfl, .inl rfl, trivial⟩)) (by kernel_rfl) (by kernel_rfl) (by kernel_rfl) (by rfl) (fun _ _ _ h => h) (fun W => y_move ha212 rfl) ?_
                  clear ha212 a212; intro a213 ha213
                  refine d_y 6 ha213 rfl rfl (fun _ => (m208.to ⟨.inl rfl, .inl rfl, .inl rfl, .inl rfl, .inl rfl, trivial⟩)) (by kernel_rfl) (by kernel_rfl) (by kernel_rfl) (by rfl) (fun _ _ _ h => h) (fun W => y_move ha213 rfl) ?_
                  clear ha213 a213; intro a214 ha214
                  refine d_y 7 ha214 rfl rfl (fun _ => (m208.to ⟨.inl rfl, .inl rfl, .inl rfl, .inl rfl, .inl rfl, trivial⟩)) (by kernel_rfl) (by kernel_rfl) (by kernel_rfl) (by rfl) (fun _ _ _ h => h) (fun W => y_idx ha214 rfl rfl Try.underlying49 sz22r (k) rfl (by rw [lsD_len]; exact hk)) ?_
                  clear ha214 a214; intro a215 ha215
                  refine d_h 8 ha215 rfl rfl (m208.to ⟨.inl rfl, .inl rfl, .inl rfl, .inl rfl, .inl rfl, trivial⟩) (by kernel_rfl) (by kernel_rfl) (by kernel_rfl) (by kernel_rfl) (by kernel_rfl) (fun _ _ _ h => h) (fun W hW => y_loadC0 ha215 hW (i := 302) rfl rfl Try.underlying22 rfl) ?_
                  clear ha215 a215; intro a216 ha216
                  refine d_y 9 ha216 rfl rfl (fun _ => (m208.to ⟨.inl rfl, .inl rfl, .inl rfl, .inl rfl, .inl rfl, trivial⟩)) (by kernel_rfl) (by kernel_rfl) (by kernel_rfl) (by rfl) (fun _ _ _ h => h) (fun W => y_build ha216 rfl zc52r fl52r rfl (by dsimp only [setL, List.set] <;> rfl)) ?_
                  clear ha216 a216; intro a217 ha217
                  refine d_two 4 10 rfl rfl (by kernel_rfl) rfl rfl (fun K hK => ?_) (fun K hK => ?_)
                  · skip
                    refine e_call ha217 Try.func15 rfl rfl rfl rfl (new_any _ bs _ (m208.nums (i := 301) rfl) hbk.1 (by omega)) ?_
                    rintro e w218 ⟨B218, u218, rfl, hBl218, hR218, hb218⟩
                    have hBN218 : w0.heap.size ≤ B218 := Nat.le_trans m208.keep.size (Nat.le_of_lt hBl218)
                    have m219 := m208.callAny 304 hb218 (Nat.le_of_lt hBl218) hR218.lt
                    clear m208
                    clear hb218 hBl218
                    refine ⟨_, rfl, fun a220 ha220 => ?_⟩; clear ha217 a217
                    refine hK _ _ (fun _ => (m219.to ⟨.inl rfl, .inl rfl, .inl rfl, .inl rfl, .inl rfl, trivial⟩)) ?_; clear hK K
                    refine d_y 11 ha220 rfl rfl (fun _ => (m219.to ⟨.inl rfl, .inl rfl, .inl rfl, .inl rfl, .inl rfl, trivial⟩)) (by kernel_rfl) (by kernel_rfl) (by kernel_rfl) (by rfl) (fun _ _ _ h => h) (fun W => y_assign ha220 rfl) ?_
                    clear ha220 a220; intro a221 ha221
                    have hblk222 := (m219.rd (i := 303) rfl).ns_out.blk
                    refine stepE_only 10 rfl (by kernel_rfl) rfl (fun K hK => ?_)
                    refine e_box ha221 m219 305 rfl rfl rfl ?_
                    clear ha221 a221 m219; intro g223 a224 w224 ha224 m224 hB224 hg224
                    rw [← hg224] at hblk222
                    have hR224 := hR218.later hB224; clear hR218
                    clear hB224 hg224
                    refine hK _ _ (m224.to ⟨.inl rfl, .inl rfl, .inl rfl, .inl rfl, .inl rfl, trivial⟩) ?_; clear hK K
                    refine d_y 12 ha224 rfl rfl (fun _ => (m224.to ⟨.inl rfl, .inl rfl, .inl rfl, .inl rfl, .inl rfl, trivial⟩)) (by kernel_rfl) (by kernel_rfl) (by kernel_rfl) (by rfl) (fun _ _ _ h => h) (fun W => y_assign ha224 rfl) ?_
                    clear ha224 a224; intro a225 ha225
                    refine wpAnyE_done (by kernel_rfl) ?_ _
                    refine hK31 _ _ ?_; clear hK31; try clear K31
                    refine wp_seq_k (fun K32 hK32 => ?_)
                    have ha226 : Has 195 [(9, _), (16, _), (17, _), (18, _)] a225 := ha225.only [9, 16, 17, 18]; clear ha225
                    refine wp_region_lit ?_
                    refine st_y ha226 rfl (y_move ha226 rfl) ?_
                    clear ha226 a225; intro a227 ha227
                    refine wpList_plain rfl (fun K hK => ?_)
                    refine e_call ha227 Try.func25 rfl rfl rfl rfl (baseRead_any _ _ bs 0 _ hR224 (by omega)) ?_
                    rintro e w228 ⟨uc228, u228, rfl, hoc228, ho228, ⟨v228, hr228⟩, hon228⟩
                    obtain ⟨pv228, cv228, hv228⟩ := reader_shape hr228; subst hv228
                    obtain ⟨puc228, cuc228, huc228⟩ := ownsRow_shape hoc228; subst huc228
                    obtain ⟨pu228, cu228, hu228⟩ := ownsRow_shape ho228; subst hu228
                    have hfo228 := fun b hb => MemOk.free_out m224 (b := b) (.inr hb)
                    have m229 := m224.only1 304 rfl hon228.keep 308 rfl
                    clear m224
                    have m230 := m229.dat 306 rfl (.ns (numsS_own hoc228 (fun b hb => free_add rfl (hfo228 b (World.ownsRow.lt hoc228 b hb).1))))
                    clear m229
                    have m231 := m230.dat 307 rfl (.ns (numsS_own ho228 (fun b hb => free_add rfl (free_add rfl (hfo228 b (World.ownsRow.lt ho228 b hb).1)))))
                    clear m230
                    have m232 := m231.shut 304 rfl hBN218 (reader_range hr228)
                    clear m231
                    clear ho228 hoc228 hr228 hon228 hfo228 hR224
                    refine ⟨_, rfl, fun a233 ha233 => ?_⟩; clear ha227 a227
                    refine hK _ _ ?_; clear hK K
                    refine st_y ha233 rfl (y_move ha233 rfl) ?_
                    clear ha233 a233; intro a234 ha234
                    refine st_y ha234 rfl (y_extract ha234 rfl rfl) ?_
                    clear ha234 a234; intro a235 ha235
                    refine st_y ha235 rfl (y_extract ha235 rfl rfl) ?_
                    clear ha235 a235; intro a236 ha236
                    refine wpList_plain rfl (fun K hK => ?_)
                    refine e_alloc ha236 m232 309 zc27r rfl ?_
                    clear ha236 a236 m232; intro g237 a238 w238 ha238 m238 hB238 hg238
                    clear hB238 hg238
                    refine hK _ _ ?_; clear hK K
                    refine wpList_plain rfl (fun K hK => ?_)
                    refine e_storeW ha238 m238 309 rfl rfl rfl rfl rfl sz27r ?_
                    clear m238; intro w239 m239 hB239
                    clear hB239
                    refine hK _ _ ?_; clear hK K
                    refine st_y ha238 rfl (y_assign ha238 rfl) ?_
                    clear ha238 a238; intro a240 ha240
                    refine wpList_nil ?_
                    refine hK32 _ _ ?_; clear hK32; try clear K32
                    refine wp_seq_k (fun K33 hK33 => ?_)
                    refine wp_region_lit ?_
                    refine st_y ha240 rfl (y_move ha240 rfl) ?_
                    clear ha240 a240; intro a241 ha241
                    refine wpList_plain rfl (fun K hK => ?_)
                    refine e_call ha241 Try.func27 rfl rfl rfl rfl (rbaseRead_any _ _ bs 0 _ (reader_of m239 (i := 305) (j := 303) rfl rfl hblk222 hbk.1) (by omega)) ?_
                    rintro e w242 ⟨uc242, u242, he242, hoc242, hnl242, ⟨v242, hr242, hsb242⟩, hon242, hsu242⟩
                    rw [(base_67 bs 0).1, (base_67 bs 0).2.1] at he242
                    rw [(base_67 bs 0).2.1] at hoc242 hnl242
                    subst he242
                    obtain ⟨pv242, cv242, hv242⟩ := reader_shape hr242; subst hv242
                    obtain ⟨puc242, cuc242, huc242⟩ := ownsRow_shape hoc242; subst huc242
                    have hlt242 := hr242.lt
                    have hgN242 := (MemOk.box_new m239 (i := 305) rfl)
                    have hS242 := (m239.rd (i := 303) rfl).ns_out
                    have m243 := m239.hide 305 rfl
                    clear m239
                    have hS242 := hS242.mono (Nat.le_refl _) (fun b hb hF => ⟨rfl, free_any (i := 305) rfl hF⟩)
                    have hfo242 := fun b hb => MemOk.free_out m243 (b := b) (.inr hb)
                    have m244 := m243.only1 305 rfl hon242.keep 312 rfl
                    clear m243
                    have m245 := m244.dat 310 rfl (.ns (numsS_own hoc242 (fun b hb => free_add rfl (hfo242 b (World.ownsRow.lt hoc242 b hb).1))))
                    clear m244
                    have m246 := m245.shut 305 rfl hgN242 (reader_range hr242)
                    clear m245
                    obtain ⟨pu242, cu242, hu242, hcu242⟩ := numsLt_shape hnl242
                    subst hu242
                    have m247 := m246.dat 311 rfl (.ns ((NumsS.of hS242 (hnl242.nums (Nat.le_of_lt hlt242)) (numsLt_cap hnl242) hsu242 (fun h => by have := baseRV_len bs 0; omega)).mono (Nat.le_refl _) (fun b _ hF => ⟨rfl, free_add rfl (free_add rfl (free_add rfl hF))⟩)))
                    clear m246
                    clear hS242 hr242 hsb242 hon242 hsu242 hnl242 hoc242 hfo242 hblk222
                    refine ⟨_, rfl, fun a248 ha248 => ?_⟩; clear ha241 a241
                    refine hK _ _ ?_; clear hK K
                    refine st_y ha248 rfl (y_move ha248 rfl) ?_
                    clear ha248 a248; intro a249 ha249
                    refine st_y ha249 rfl (y_extract ha249 rfl rfl) ?_
                    clear ha249 a249; intro a250 ha250
                    refine st_y ha250 rfl (y_extract ha250 rfl rfl) ?_
                    clear ha250 a250; intro a251 ha251
                    refine wpList_plain rfl (fun K hK => ?_)
                    refine e_alloc ha251 m247 313 zc27r rfl ?_
                    clear ha251 a251 m247; intro g252 a253 w253 ha253 m253 hB253 hg253
                    clear hB253 hg253
                    refine hK _ _ ?_; clear hK K
                    refine wpList_plain rfl (fun K hK => ?_)
                    refine e_storeW ha253 m253 313 rfl rfl rfl rfl rfl sz27r ?_
                    clear m253; intro w254 m254 hB254
                    clear hB254
                    refine hK _ _ ?_; clear hK K
                    refine st_y ha253 rfl (y_assign ha253 rfl) ?_
                    clear ha253 a253; intro a255 ha255
                    refine wpList_nil ?_
                    refine hK33 _ _ ?_; clear hK33; try clear K33
                    refine wp_seq_k (fun K34 hK34 => ?_)
                    have ha256 : Has 195 [(9, _), (16, _), (17, _), (18, _), (23, _), (24, _), (25, _), (26, _)] a255 := ha255.only [9, 16, 17, 18, 23, 24, 25, 26]; clear ha255
                    have m257 : MemOk _ _ [(3, _), (300, _), (301, _), (302, _), (303, _), (304, _), (305, _), (306, _), (307, _), (309, _), (310, _), (311, _), (313, _)] _ := m254.only [3, 300, 301, 302, 303, 304, 305, 306, 307, 309, 310, 311, 313]; clear m254
                    refine region_m 22 (B := [(3, _), (300, _), (301, _), (302, _), (303, _), (304, _), (305, _), (306, _), (307, _), (309, _), (310, _), (311, _), (313, _)]) (m257.to ⟨.inl rfl, .inl rfl, .inl rfl, .inl rfl, .inl rfl, .inl rfl, .inl rfl, .inl rfl, .inl rfl, .inl rfl, .inl rfl, .inl rfl, .inl rfl, trivial⟩) m257 (by kernel_rfl) (fun w258 mB258 m258 => ?_); clear m257 mB258
                    refine d_y 0 ha256 rfl rfl (fun _ => (m258.to ⟨.inl rfl, .inl rfl, .inl rfl, .inl rfl, .inl rfl, .inl rfl, .inl rfl, .inl rfl, .inl rfl, .inl rfl, .inl rfl, .inl rfl, .inl rfl, trivial⟩)) (by kernel_rfl) (by kernel_rfl) (by kernel_rfl) (by rfl) (fun _ _ _ h => h) (fun W => y_move ha256 rfl) ?_
                    clear ha256 a255; intro a259 ha259
                    refine d_y 1 ha259 rfl rfl (fun _ => (m258.to ⟨.inl rfl, .inl rfl, .inl rfl, .inl rfl, .inl rfl, .inl rfl, .inl rfl, .inl rfl, .inl rfl, .inl rfl, .inl rfl, .inl rfl, .inl rfl, trivial⟩)) (by kernel_rfl) (by kernel_rfl) (by kernel_rfl) (by rfl) (fun _ _ _ h => h) (fun W => y_move ha259 rfl) ?_
                    clear ha259 a259; intro a260 ha260
                    refine d_y 2 ha260 rfl rfl (fun _ => (m258.to ⟨.inl rfl, .inl rfl, .inl rfl, .inl rfl, .inl rfl, .inl rfl, .inl rfl, .inl rfl, .inl rfl, .inl rfl, .inl rfl, .inl rfl, .inl rfl, trivial⟩)) (by kernel_rfl) (by kernel_rfl) (by kernel_rfl) (by rfl) (fun _ _ _ h => h) (fun W => y_neqB ha260 rfl rfl Try.underlying4) ?_
                    clear ha260 a260; intro a261 ha261
                    refine d_y 3 ha261 rfl rfl (fun _ => (m258.to ⟨.inl rfl, .inl rfl, .inl rfl, .inl rfl, .inl rfl, .inl rfl, .inl rfl, .inl rfl, .inl rfl, .inl rfl, .inl rfl, .inl rfl, .inl rfl, trivial⟩)) (by kernel_rfl) (by kernel_rfl) (by kernel_rfl) (by rfl) (fun _ _ _ h => h) (fun W => y_move ha261 rfl) ?_
                    clear ha261 a261; intro a262 ha262
                    refine bool_cases ha262 (t := 176) rfl (fun hb263 ha263 => ?_) (fun hb263 ha263 => ?_)
                    · exact absurd hb263 (by simp)
                    clear ha262 hb263
                    refine d_hg 4 ha263 rfl rfl rfl rfl rfl (m258.to ⟨.inl rfl, .inl rfl, .inl rfl, .inl rfl, .inl rfl, .inl rfl, .inl rfl, .inl rfl, .inl rfl, .inl rfl, .inl rfl, .inl rfl, .inl rfl, trivial⟩) (by kernel_rfl) (by kernel_rfl) (by kernel_rfl) (by kernel_rfl) (by kernel_rfl) (fun _ _ _ h => h) (fun W hW => y_loadBR ha263 hW (i := 309) rfl rfl Try.underlying27 rfl sz27r (by simp) (by dsimp only [List.drop, List.take] <;> rfl)) ?_
                    clear ha263 a262; intro a264 ha264
                    refine d_hg 5 ha264 rfl rfl rfl rfl rfl (m258.to ⟨.inl rfl, .inl rfl, .inl rfl, .inl rfl, .inl rfl, .inl rfl, .inl rfl, .inl rfl, .inl rfl, .inl rfl, .inl rfl, .inl rfl, .inl rfl, trivial⟩) (by kernel_rfl) (by kernel_rfl) (by kernel_rfl) (by kernel_rfl) (by kernel_rfl) (fun _ _ _ h => h) (fun W hW => y_loadBR ha264 hW (i := 313) rfl rfl Try.underlying27 rfl sz27r (by simp) (by dsimp only [List.drop, List.take] <;> rfl)) ?_
                    clear ha264 a264; intro a265 ha265
                    refine stepE_only 6 rfl (by kernel_rfl) (wantedG ha265 rfl rfl rfl rfl) (fun K hK => ?_)
                    refine e_call ha265 Try.func24 rfl rfl rfl rfl (rbaseSame_any _ _ _ _ _ _ _ _ _ _ _ _ _ (m258.nums (i := 306) rfl) (m258.nums (i := 310) rfl) (m258.nums (i := 307) rfl) (m258.nums (i := 311) rfl) (baseRV_ok bs 0 hbk.1) (baseRV_ok bs 0 hbk.1) (baseRV_cf bs 0)) ?_
                    rintro e w266 ⟨rfl, hb266⟩
                    have m267 := m258.later hb266
                    clear m258
                    clear hb266
                    refine ⟨_, rfl, fun a268 ha268 => ?_⟩; clear ha265 a265
                    refine hK _ _ (m267.to ⟨.inl rfl, .inl rfl, .inl rfl, .inl rfl, .inl rfl, .inl rfl, .inl rfl, .inl rfl, .inl rfl, .inl rfl, .inl rfl, .inl rfl, .inl rfl, trivial⟩) ?_; clear hK K
                    refine d_yg 7 ha268 rfl rfl rfl rfl rfl (fun _ => (m267.to ⟨.inl rfl, .inl rfl, .inl rfl, .inl rfl, .inl rfl, .inl rfl, .inl rfl, .inl rfl, .inl rfl, .inl rfl, .inl rfl, .inl rfl, .inl rfl, trivial⟩)) (by kernel_rfl) (by kernel_rfl) (by kernel_rfl) (by rfl) (fun _ _ _ h => h) (fun W => y_not ha268 rfl) ?_
                    clear ha268 a268; intro a269 ha269
                    refine d_y 8 ha269 rfl rfl (fun _ => (m267.to ⟨.inl rfl, .inl rfl, .inl rfl, .inl rfl, .inl rfl, .inl rfl, .inl rfl, .inl rfl, .inl rfl, .inl rfl, .inl rfl, .inl rfl, .inl rfl, trivial⟩)) (by kernel_rfl) (by kernel_rfl) (by kernel_rfl) (by rfl) (fun _ _ _ h => h) (fun W => y_pickF ha269 rfl rfl) ?_
                    clear ha269 a269; intro a270 ha270
                    refine d_y 9 ha270 rfl rfl (fun _ => (m267.to ⟨.inl rfl, .inl rfl, .inl rfl, .inl rfl, .inl rfl, .inl rfl, .inl rfl, .inl rfl, .inl rfl, .inl rfl, .inl rfl, .inl rfl, .inl rfl, trivial⟩)) (by kernel_rfl) (by kernel_rfl) (by kernel_rfl) (by rfl) (fun _ _ _ h => h) (fun W => y_move ha270 rfl) ?_
                    clear ha270 a270; intro a271 ha271
                    refine bool_cases ha271 (t := 182) rfl (fun hb272 ha272 => ?_) (fun hb272 ha272 => ?_)
                    · exact absurd hb272 (by simp)
                    clear ha271 hb272
                    refine d_yg 10 ha272 rfl rfl rfl rfl rfl (fun _ => (m267.to ⟨.inl rfl, .inl rfl, .inl rfl, .inl rfl, .inl rfl, .inl rfl, .inl rfl, .inl rfl, .inl rfl, .inl rfl, .inl rfl, .inl rfl, .inl rfl, trivial⟩)) (by kernel_rfl) (by kernel_rfl) (by kernel_rfl) (by rfl) (fun _ _ _ h => h) (fun W => y_move ha272 rfl) ?_
                    clear ha272 a271; intro a273 ha273
                    refine d_yg 11 ha273 rfl rfl rfl rfl rfl (fun _ => (m267.to ⟨.inl rfl, .inl rfl, .inl rfl, .inl rfl, .inl rfl, .inl rfl, .inl rfl, .inl rfl, .inl rfl, .inl rfl, .inl rfl, .inl rfl, .inl rfl, trivial⟩)) (by kernel_rfl) (by kernel_rfl) (by kernel_rfl) (by rfl) (fun _ _ _ h => h) (fun W => y_move ha273 rfl) ?_
                    clear ha273 a273; intro a274 ha274
                    refine bool_cases ha274 (t := 184) rfl (fun hb275 ha275 => ?_) (fun hb275 ha275 => ?_)
                    · skip
                      clear ha274
                      try simp only [decide_eq_true_eq, decide_eq_false_iff_not, Bool.not_eq_true, Bool.not_eq_false, Bool.not_eq_eq_eq_not, Bool.not_true, Bool.not_false, Bool.not_not, Int.not_lt, Int.not_le, ne_eq, Decidable.not_not] at hb275
                      refine d_yg 12 ha275 rfl rfl rfl rfl rfl (fun _ => (m267.to ⟨.inl rfl, .inl rfl, .inl rfl, .inl rfl, .inl rfl, .inl rfl, .inl rfl, .inl rfl, .inl rfl, .inl rfl, .inl rfl, .inl rfl, .inl rfl, trivial⟩)) (by kernel_rfl) (by kernel_rfl) (by kernel_rfl) (by rfl) (fun _ _ _ h => h) (fun W => y_move ha275 rfl) ?_
                      clear ha275 a274; intro a276 ha276
                      refine d_yg 14 ha276 rfl rfl rfl rfl rfl (fun _ => (m267.to ⟨.inl rfl, .inl rfl, .inl rfl, .inl rfl, .inl rfl, .inl rfl, .inl rfl, .inl rfl, .inl rfl, .inl rfl, .inl rfl, .inl rfl, .inl rfl, trivial⟩)) (by kernel_rfl) (by kernel_rfl) (by kernel_rfl) (by rfl) (fun _ _ _ h => h) (fun W => y_move ha276 rfl) ?_
                      clear ha276 a276; intro a277 ha277
                      refine d_yg 15 ha277 rfl rfl rfl rfl rfl (fun _ => (m267.to ⟨.inl rfl, .inl rfl, .inl rfl, .inl rfl, .inl rfl, .inl rfl, .inl rfl, .inl rfl, .inl rfl, .inl rfl, .inl rfl, .inl rfl, .inl rfl, trivial⟩)) (by kernel_rfl) (by kernel_rfl) (by kernel_rfl) (by rfl) (fun _ _ _ h => h) (fun W => y_nilCheck ha277 rfl) ?_
                      clear ha277 a277; intro a278 ha278
                      refine d_yg 16 ha278 rfl rfl rfl rfl rfl (fun _ => (m267.to ⟨.inl rfl, .inl rfl, .inl rfl, .inl rfl, .inl rfl, .inl rfl, .inl rfl, .inl rfl, .inl rfl, .inl rfl, .inl rfl, .inl rfl, .inl rfl, trivial⟩)) (by kernel_rfl) (by kernel_rfl) (by kernel_rfl) (by rfl) (fun _ _ _ h => h) (fun W => y_fieldAddrQ ha278 0 rfl Try.underlying52 rfl (s := 0) (by kernel_rfl) rfl) ?_
                      clear ha278 a278; intro a279 ha279
                      refine d_hg 17 ha279 rfl rfl rfl rfl rfl (m267.to ⟨.inl rfl, .inl rfl, .inl rfl, .inl rfl, .inl rfl, .inl rfl, .inl rfl, .inl rfl, .inl rfl, .inl rfl, .inl rfl, .inl rfl, .inl rfl, trivial⟩) (by kernel_rfl) (by kernel_rfl) (by kernel_rfl) (by kernel_rfl) (by kernel_rfl) (fun _ _ _ h => h) (fun W hW => y_loadC0 ha279 hW (i := 305) rfl rfl Try.underlying22 rfl) ?_
                      clear ha279 a279; intro a280 ha280
                      refine d_yg 18 ha280 rfl rfl rfl rfl rfl (fun _ => (m267.to ⟨.inl rfl, .inl rfl, .inl rfl, .inl rfl, .inl rfl, .inl rfl, .inl rfl, .inl rfl, .inl rfl, .inl rfl, .inl rfl, .inl rfl, .inl rfl, trivial⟩)) (by kernel_rfl) (by kernel_rfl) (by kernel_rfl) (by rfl) (fun _ _ _ h => h) (fun W => y_len ha280 rfl Try.underlying22) ?_
                      clear ha280 a280; intro a281 ha281
                      refine stepE_only 13 rfl (by kernel_rfl) (wantedG ha281 rfl rfl rfl rfl) (fun K hK => ?_)
                      refine e_call ha281 Try.func17 rfl rfl rfl rfl (left_cel _ _ _ _ _ ((m267.ok 304 _ rfl : Res.ok _ _ _ _ (.cel _ _ _)).2.2 0 _ rfl)) ?_
                      rintro e w282 ⟨rfl, hb282⟩
                      subst hb282
                      have m283 := m267
                      clear m267
                      refine ⟨_, rfl, fun a284 ha284 => ?_⟩; clear ha281 a281
                      refine hK _ _ (m283.to ⟨.inl rfl, .inl rfl, .inl rfl, .inl rfl, .inl rfl, .inl rfl, .inl rfl, .inl rfl, .inl rfl, .inl rfl, .inl rfl, .inl rfl, .inl rfl, trivial⟩) ?_; clear hK K
                      refine d_yg 19 ha284 rfl rfl rfl rfl rfl (fun _ => (m283.to ⟨.inl rfl, .inl rfl, .inl rfl, .inl rfl, .inl rfl, .inl rfl, .inl rfl, .inl rfl, .inl rfl, .inl rfl, .inl rfl, .inl rfl, .inl rfl, trivial⟩)) (by kernel_rfl) (by kernel_rfl) (by kernel_rfl) (by rfl) (fun _ _ _ h => h) (fun W => y_neq ha284 rfl rfl) ?_
                      clear ha284 a284; intro a285 ha285
                      refine d_yg 20 ha285 rfl rfl rfl rfl rfl (fun _ => (m283.to ⟨.inl rfl, .inl rfl, .inl rfl, .inl rfl, .inl rfl, .inl rfl, .inl rfl, .inl rfl, .inl rfl, .inl rfl, .inl rfl, .inl rfl, .inl rfl, trivial⟩)) (by kernel_rfl) (by kernel_rfl) (by kernel_rfl) (by rfl) (fun _ _ _ h => h) (fun W => y_pickT ha285 rfl rfl) ?_
                      clear ha285 a285; intro a286 ha286
                      refine d_y 21 ha286 rfl rfl (fun _ => (m283.to ⟨.inl rfl, .inl rfl, .inl rfl, .inl rfl, .inl rfl, .inl rfl, .inl rfl, .inl rfl, .inl rfl, .inl rfl, .inl rfl, .inl rfl, .inl rfl, trivial⟩)) (by kernel_rfl) (by kernel_rfl) (by kernel_rfl) (by rfl) (fun _ _ _ h => h) (fun W => y_pickF ha286 rfl rfl) ?_
                      clear ha286 a286; intro a287 ha287
                      refine wpAnyE_done (by kernel_rfl) ?_ _
                      refine hK34 _ _ ?_; clear hK34; try clear K34
                      refine bool_cases ha287 (t := 194) rfl (fun hb288 ha288 => ?_) (fun hb288 ha288 => ?_)
                      · exact absurd hb288 (by have h9 := (base_67 bs 0).2.2 hb275; simp [h9])
                      clear ha287 hb288
                      refine wp_cond_false (ha288.ev (x := .tmp 194) rfl) ?_
                      refine wp_skip ?_
                      refine hK26 _ _ ?_; clear hK26; try clear K26
                      have ha289 : Has 195 [(9, _), (16, _)] a287 := ha288.only [9, 16]; clear ha288
                      refine wp_region_lit ?_
                      refine st_y ha289 rfl (y_move ha289 rfl) ?_
                      clear ha289 a287; intro a290 ha290
                      refine st_y ha290 rfl (y_add ha290 rfl rfl (r := ((k + 1 : Nat) : Int)) (by rw [IntWalk.i64_in _ (by omega)]; omega)) ?_
                      clear ha290 a290; intro a291 ha291
                      refine st_y ha291 rfl (y_assign ha291 rfl) ?_
                      clear ha291 a291; intro a292 ha292
                      refine wpList_nil ?_
                      show ∃ n', n' < _ ∧ _
                      exact ⟨A.length - (k + 1), by omega, k + 1, _, _, by omega, rfl, ha292.only [9, 16], m283.only [3]⟩
                    · skip
                      clear ha274
                      try simp only [decide_eq_true_eq, decide_eq_false_iff_not, Bool.not_eq_true, Bool.not_eq_false, Bool.not_eq_eq_eq_not, Bool.not_true, Bool.not_false, Bool.not_not, Int.not_lt, Int.not_le, ne_eq, Decidable.not_not] at hb275
                      refine d_skip 12 ha275 rfl rfl rfl rfl rfl (fun _ => (m267.to ⟨.inl rfl, .inl rfl, .inl rfl, .inl rfl, .inl rfl, .inl rfl, .inl rfl, .inl rfl, .inl rfl, .inl rfl, .inl rfl, .inl rfl, .inl rfl, trivial⟩)) (by kernel_rfl) (by kernel_rfl) (by kernel_rfl) (by rfl) (fun _ _ _ h => h) ?_
                      clear ha275 a274; intro a293 ha293
                      refine d_skip 13 ha293 rfl rfl rfl rfl rfl (fun _ => (m267.to ⟨.inl rfl, .inl rfl, .inl rfl, .inl rfl, .inl rfl, .inl rfl, .inl rfl, .inl rfl, .inl rfl, .inl rfl, .inl rfl, .inl rfl, .inl rfl, trivial⟩)) (by kernel_rfl) (by kernel_rfl) (by kernel_rfl) (by rfl) (fun _ _ _ h => h) ?_
                      clear ha293 a293; intro a294 ha294
                      refine d_skip 14 ha294 rfl rfl rfl rfl rfl (fun _ => (m267.to ⟨.inl rfl, .inl rfl, .inl rfl, .inl rfl, .inl rfl, .inl rfl, .inl rfl, .inl rfl, .inl rfl, .inl rfl, .inl rfl, .inl rfl, .inl rfl, trivial⟩)) (by kernel_rfl) (by kernel_rfl) (by kernel_rfl) (by rfl) (fun _ _ _ h => h) ?_
                      clear ha294 a294; intro a295 ha295
                      refine d_skip 15 ha295 rfl rfl rfl rfl rfl (fun _ => (m267.to ⟨.inl rfl, .inl rfl, .inl rfl, .inl rfl, .inl rfl, .inl rfl, .inl rfl, .inl rfl, .inl rfl, .inl rfl, .inl rfl, .inl rfl, .inl rfl, trivial⟩)) (by kernel_rfl) (by kernel_rfl) (by kernel_rfl) (by rfl) (fun _ _ _ h => h) ?_
                      clear ha295 a295; intro a296 ha296
                      refine d_skip 16 ha296 rfl rfl rfl rfl rfl (fun _ => (m267.to ⟨.inl rfl, .inl rfl, .inl rfl, .inl rfl, .inl rfl, .inl rfl, .inl rfl, .inl rfl, .inl rfl, .inl rfl, .inl rfl, .inl rfl, .inl rfl, trivial⟩)) (by kernel_rfl) (by kernel_rfl) (by kernel_rfl) (by rfl) (fun _ _ _ h => h) ?_
                      clear ha296 a296; intro a297 ha297
                      refine d_skip 17 ha297 rfl rfl rfl rfl rfl (fun _ => (m267.to ⟨.inl rfl, .inl rfl, .inl rfl, .inl rfl, .inl rfl, .inl rfl, .inl rfl, .inl rfl, .inl rfl, .inl rfl, .inl rfl, .inl rfl, .inl rfl, trivial⟩)) (by kernel_rfl) (by kernel_rfl) (by kernel_rfl) (by rfl) (fun _ _ _ h => h) ?_
                      clear ha297 a297; intro a298 ha298
                      refine d_skip 18 ha298 rfl rfl rfl rfl rfl (fun _ => (m267.to ⟨.inl rfl, .inl rfl, .inl rfl, .inl rfl, .inl rfl, .inl rfl, .inl rfl, .inl rfl, .inl rfl, .inl rfl, .inl rfl, .inl rfl, .inl rfl, trivial⟩)) (by kernel_rfl) (by kernel_rfl) (by kernel_rfl) (by rfl) (fun _ _ _ h => h) ?_
                      clear ha298 a298; intro a299 ha299
                      refine d_skip 19 ha299 rfl rfl rfl rfl rfl (fun _ => (m267.to ⟨.inl rfl, .inl rfl, .inl rfl, .inl rfl, .inl rfl, .inl rfl, .inl rfl, .inl rfl, .inl rfl, .inl rfl, .inl rfl, .inl rfl, .inl rfl, trivial⟩)) (by kernel_rfl) (by kernel_rfl) (by kernel_rfl) (by rfl) (fun _ _ _ h => h) ?_
                      clear ha299 a299; intro a300 ha300
                      refine d_yg 20 ha300 rfl rfl rfl rfl rfl (fun _ => (m267.to ⟨.inl rfl, .inl rfl, .inl rfl, .inl rfl, .inl rfl, .inl rfl, .inl rfl, .inl rfl, .inl rfl, .inl rfl, .inl rfl, .inl rfl, .inl rfl, trivial⟩)) (by kernel_rfl) (by kernel_rfl) (by kernel_rfl) (by rfl) (fun _ _ _ h => h) (fun W => y_pickF ha300 rfl rfl) ?_
                      clear ha300 a300; intro a301 ha301
                      refine d_y 21 ha301 rfl rfl (fun _ => (m267.to ⟨.inl rfl, .inl rfl, .inl rfl, .inl rfl, .inl rfl, .inl rfl, .inl rfl, .inl rfl, .inl rfl, .inl rfl, .inl rfl, .inl rfl, .inl rfl, trivial⟩)) (by kernel_rfl) (by kernel_rfl) (by kernel_rfl) (by rfl) (fun _ _ _ h => h) (fun W => y_pickF ha301 rfl rfl) ?_
                      clear ha301 a301; intro a302 ha302
                      refine wpAnyE_done (by kernel_rfl) ?_ _
                      refine hK34 _ _ ?_; clear hK34; try clear K34
                      refine wp_cond_false (ha302.ev (x := .tmp 194) rfl) ?_
                      refine wp_skip ?_
                      refine hK26 _ _ ?_; clear hK26; try clear K26
                      have ha303 : Has 195 [(9, _), (16, _)] a302 := ha302.only [9, 16]; clear ha302
                      refine wp_region_lit ?_
                      refine st_y ha303 rfl (y_move ha303 rfl) ?_
                      clear ha303 a302; intro a304 ha304
                      refine st_y ha304 rfl (y_add ha304 rfl rfl (r := ((k + 1 : Nat) : Int)) (by rw [IntWalk.i64_in _ (by omega)]; omega)) ?_
                      clear ha304 a304; intro a305 ha305
                      refine st_y ha305 rfl (y_assign ha305 rfl) ?_
                      clear ha305 a305; intro a306 ha306
                      refine wpList_nil ?_
                      show ∃ n', n' < _ ∧ _
                      exact ⟨A.length - (k + 1), by omega, k + 1, _, _, by omega, rfl, ha306.only [9, 16], m267.only [3]⟩
                  · skip
                    have hblk307 := (m208.rd (i := 303) rfl).ns_out.blk
                    refine e_box ha217 m208 304 rfl rfl rfl ?_
                    clear ha217 a217 m208; intro g308 a309 w309 ha309 m309 hB309 hg309
                    rw [← hg309] at hblk307
                    clear hB309 hg309
                    refine hK _ _ (fun _ => (m309.to ⟨.inl rfl, .inl rfl, .inl rfl, .inl rfl, .inl rfl, trivial⟩)) ?_; clear hK K
                    refine stepE_only 4 rfl (by kernel_rfl) rfl (fun K hK => ?_)
                    refine e_call ha309 Try.func15 rfl rfl rfl rfl (new_any _ bs _ (m309.nums (i := 301) rfl) hbk.1 (by omega)) ?_
                    rintro e w310 ⟨B310, u310, rfl, hBl310, hR310, hb310⟩
                    have hBN310 : w0.heap.size ≤ B310 := Nat.le_trans m309.keep.size (Nat.le_of_lt hBl310)
                    have m311 := m309.callAny 305 hb310 (Nat.le_of_lt hBl310) hR310.lt
                    clear m309
                    clear hb310 hBl310
                    refine ⟨_, rfl, fun a312 ha312 => ?_⟩; clear ha309 a309
                    refine hK _ _ (m311.to ⟨.inl rfl, .inl rfl, .inl rfl, .inl rfl, .inl rfl, trivial⟩) ?_; clear hK K
                    refine d_y 11 ha312 rfl rfl (fun _ => (m311.to ⟨.inl rfl, .inl rfl, .inl rfl, .inl rfl, .inl rfl, trivial⟩)) (by kernel_rfl) (by kernel_rfl) (by kernel_rfl) (by rfl) (fun _ _ _ h => h) (fun W => y_assign ha312 rfl) ?_
                    clear ha312 a312; intro a313 ha313
                    refine d_y 12 ha313 rfl rfl (fun _ => (m311.to ⟨.inl rfl, .inl rfl, .inl rfl, .inl rfl, .inl rfl, trivial⟩)) (by kernel_rfl) (by kernel_rfl) (by kernel_rfl) (by rfl) (fun _ _ _ h => h) (fun W => y_assign ha313 rfl) ?_
                    clear ha313 a313; intro a314 ha314
                    refine wpAnyE_done (by kernel_rfl) ?_ _
                    refine hK31 _ _ ?_; clear hK31; try clear K31
                    refine wp_seq_k (fun K35 hK35 => ?_)
                    have ha315 : Has 195 [(9, _), (16, _), (17, _), (18, _)] a314 := ha314.only [9, 16, 17, 18]; clear ha314
                    refine wp_region_lit ?_
                    refine st_y ha315 rfl (y_move ha315 rfl) ?_
                    clear ha315 a314; intro a316 ha316
                    refine wpList_plain rfl (fun K hK => ?_)
                    refine e_call ha316 Try.func25 rfl rfl rfl rfl (baseRead_any _ _ bs 0 _ hR310 (by omega)) ?_
                    rintro e w317 ⟨uc317, u317, rfl, hoc317, ho317, ⟨v317, hr317⟩, hon317⟩
                    obtain ⟨pv317, cv317, hv317⟩ := reader_shape hr317; subst hv317
                    obtain ⟨puc317, cuc317, huc317⟩ := ownsRow_shape hoc317; subst huc317
                    obtain ⟨pu317, cu317, hu317⟩ := ownsRow_shape ho317; subst hu317
                    have hfo317 := fun b hb => MemOk.free_out m311 (b := b) (.inr hb)
                    have m318 := m311.only1 305 rfl hon317.keep 308 rfl
                    clear m311
                    have m319 := m318.dat 306 rfl (.ns (numsS_own hoc317 (fun b hb => free_add rfl (hfo317 b (World.ownsRow.lt hoc317 b hb).1))))
                    clear m318
                    have m320 := m319.dat 307 rfl (.ns (numsS_own ho317 (fun b hb => free_add rfl (free_add rfl (hfo317 b (World.ownsRow.lt ho317 b hb).1)))))
                    clear m319
                    have m321 := m320.shut 305 rfl hBN310 (reader_range hr317)
                    clear m320
                    clear ho317 hoc317 hr317 hon317 hfo317 hR310
                    refine ⟨_, rfl, fun a322 ha322 => ?_⟩; clear ha316 a316
                    refine hK _ _ ?_; clear hK K
                    refine st_y ha322 rfl (y_move ha322 rfl) ?_
                    clear ha322 a322; intro a323 ha323
                    refine st_y ha323 rfl (y_extract ha323 rfl rfl) ?_
                    clear ha323 a323; intro a324 ha324
                    refine st_y ha324 rfl (y_extract ha324 rfl rfl) ?_
                    clear ha324 a324; intro a325 ha325
                    refine wpList_plain rfl (fun K hK => ?_)
                    refine e_alloc ha325 m321 309 zc27r rfl ?_
                    clear ha325 a325 m321; intro g326 a327 w327 ha327 m327 hB327 hg327
                    clear hB327 hg327
                    refine hK _ _ ?_; clear hK K
                    refine wpList_plain rfl (fun K hK => ?_)
                    refine e_storeW ha327 m327 309 rfl rfl rfl rfl rfl sz27r ?_
                    clear m327; intro w328 m328 hB328
                    clear hB328
                    refine hK _ _ ?_; clear hK K
                    refine st_y ha327 rfl (y_assign ha327 rfl) ?_
                    clear ha327 a327; intro a329 ha329
                    refine wpList_nil ?_
                    refine hK35 _ _ ?_; clear hK35; try clear K35
                    refine wp_seq_k (fun K36 hK36 => ?_)
                    refine wp_region_lit ?_
                    refine st_y ha329 rfl (y_move ha329 rfl) ?_
                    clear ha329 a329; intro a330 ha330
                    refine wpList_plain rfl (fun K hK => ?_)
                    refine e_call ha330 Try.func27 rfl rfl rfl rfl (rbaseRead_any _ _ bs 0 _ (reader_of m328 (i := 304) (j := 303) rfl rfl hblk307 hbk.1) (by omega)) ?_
                    rintro e w331 ⟨uc331, u331, he331, hoc331, hnl331, ⟨v331, hr331, hsb331⟩, hon331, hsu331⟩
                    rw [(base_67 bs 0).1, (base_67 bs 0).2.1] at he331
                    rw [(base_67 bs 0).2.1] at hoc331 hnl331
                    subst he331
                    obtain ⟨pv331, cv331, hv331⟩ := reader_shape hr331; subst hv331
                    obtain ⟨puc331, cuc331, huc331⟩ := ownsRow_shape hoc331; subst huc331
                    have hlt331 := hr331.lt
                    have hgN331 := (MemOk.box_new m328 (i := 304) rfl)
                    have hS331 := (m328.rd (i := 303) rfl).ns_out
                    have m332 := m328.hide 304 rfl
                    clear m328
                    have hS331 := hS331.mono (Nat.le_refl _) (fun b hb hF => ⟨rfl, free_any (i := 304) rfl hF⟩)
                    have hfo331 := fun b hb => MemOk.free_out m332 (b := b) (.inr hb)
                    have m333 := m332.only1 304 rfl hon331.keep 312 rfl
                    clear m332
                    have m334 := m333.dat 310 rfl (.ns (numsS_own hoc331 (fun b hb => free_add rfl (hfo331 b (World.ownsRow.lt hoc331 b hb).1))))
                    clear m333
                    have m335 := m334.shut 304 rfl hgN331 (reader_range hr331)
                    clear m334
                    obtain ⟨pu331, cu331, hu331, hcu331⟩ := numsLt_shape hnl331
                    subst hu331
                    have m336 := m335.dat 311 rfl (.ns ((NumsS.of hS331 (hnl331.nums (Nat.le_of_lt hlt331)) (numsLt_cap hnl331) hsu331 (fun h => by have := baseRV_len bs 0; omega)).mono (Nat.le_refl _) (fun b _ hF => ⟨rfl, free_add rfl (free_add rfl (free_add rfl hF))⟩)))
                    clear m335
                    clear hS331 hr331 hsb331 hon331 hsu331 hnl331 hoc331 hfo331 hblk307
                    refine ⟨_, rfl, fun a337 ha337 => ?_⟩; clear ha330 a330
                    refine hK _ _ ?_; clear hK K
                    refine st_y ha337 rfl (y_move ha337 rfl) ?_
                    clear ha337 a337; intro a338 ha338
                    refine st_y ha338 rfl (y_extract ha338 rfl rfl) ?_
                    clear ha338 a338; intro a339 ha339
                    refine st_y ha339 rfl (y_extract ha339 rfl rfl) ?_
                    clear ha339 a339; intro a340 ha340
                    refine wpList_plain rfl (fun K hK => ?_)
                    refine e_alloc ha340 m336 313 zc27r rfl ?_
                    clear ha340 a340 m336; intro g341 a342 w342 ha342 m342 hB342 hg342
                    clear hB342 hg342
                    refine hK _ _ ?_; clear hK K
                    refine wpList_plain rfl (fun K hK => ?_)
                    refine e_storeW ha342 m342 313 rfl rfl rfl rfl rfl sz27r ?_
                    clear m342; intro w343 m343 hB343
                    clear hB343
                    refine hK _ _ ?_; clear hK K
                    refine st_y ha342 rfl (y_assign ha342 rfl) ?_
                    clear ha342 a342; intro a344 ha344
                    refine wpList_nil ?_
                    refine hK36 _ _ ?_; clear hK36; try clear K36
                    refine wp_seq_k (fun K37 hK37 => ?_)
                    have ha345 : Has 195 [(9, _), (16, _), (17, _), (18, _), (23, _), (24, _), (25, _), (26, _)] a344 := ha344.only [9, 16, 17, 18, 23, 24, 25, 26]; clear ha344
                    have m346 : MemOk _ _ [(3, _), (300, _), (301, _), (302, _), (303, _), (304, _), (305, _), (306, _), (307, _), (309, _), (310, _), (311, _), (313, _)] _ := m343.only [3, 300, 301, 302, 303, 304, 305, 306, 307, 309, 310, 311, 313]; clear m343
                    refine region_m 22 (B := [(3, _), (300, _), (301, _), (302, _), (303, _), (304, _), (305, _), (306, _), (307, _), (309, _), (310, _), (311, _), (313, _)]) (m346.to ⟨.inl rfl, .inl rfl, .inl rfl, .inl rfl, .inl rfl, .inl rfl, .inl rfl, .inl rfl, .inl rfl, .inl rfl, .inl rfl, .inl rfl, .inl rfl, trivial⟩) m346 (by kernel_rfl) (fun w347 mB347 m347 => ?_); clear m346 mB347
                    refine d_y 0 ha345 rfl rfl (fun _ => (m347.to ⟨.inl rfl, .inl rfl, .inl rfl, .inl rfl, .inl rfl, .inl rfl, .inl rfl, .inl rfl, .inl rfl, .inl rfl, .inl rfl, .inl rfl, .inl rfl, trivial⟩)) (by kernel_rfl) (by kernel_rfl) (by kernel_rfl) (by rfl) (fun _ _ _ h => h) (fun W => y_move ha345 rfl) ?_
                    clear ha345 a344; intro a348 ha348
                    refine d_y 1 ha348 rfl rfl (fun _ => (m347.to ⟨.inl rfl, .inl rfl, .inl rfl, .inl rfl, .inl rfl, .inl rfl, .inl rfl, .inl rfl, .inl rfl, .inl rfl, .inl rfl, .inl rfl, .inl rfl, trivial⟩)) (by kernel_rfl) (by kernel_rfl) (by kernel_rfl) (by rfl) (fun _ _ _ h => h) (fun W => y_move ha348 rfl) ?_
                    clear ha348 a348; intro a349 ha349
                    refine d_y 2 ha349 rfl rfl (fun _ => (m347.to ⟨.inl rfl, .inl rfl, .inl rfl, .inl rfl, .inl rfl, .inl rfl, .inl rfl, .inl rfl, .inl rfl, .inl rfl, .inl rfl, .inl rfl, .inl rfl, trivial⟩)) (by kernel_rfl) (by kernel_rfl) (by kernel_rfl) (by rfl) (fun _ _ _ h => h) (fun W => y_neqB ha349 rfl rfl Try.underlying4) ?_
                    clear ha349 a349; intro a350 ha350
                    refine d_y 3 ha350 rfl rfl (fun _ => (m347.to ⟨.inl rfl, .inl rfl, .inl rfl, .inl rfl, .inl rfl, .inl rfl, .inl rfl, .inl rfl, .inl rfl, .inl rfl, .inl rfl, .inl rfl, .inl rfl, trivial⟩)) (by kernel_rfl) (by kernel_rfl) (by kernel_rfl) (by rfl) (fun _ _ _ h => h) (fun W => y_move ha350 rfl) ?_
                    clear ha350 a350; intro a351 ha351
                    refine bool_cases ha351 (t := 176) rfl (fun hb352 ha352 => ?_) (fun hb352 ha352 => ?_)
                    · exact absurd hb352 (by simp)
                    clear ha351 hb352
                    refine d_hg 4 ha352 rfl rfl rfl rfl rfl (m347.to ⟨.inl rfl, .inl rfl, .inl rfl, .inl rfl, .inl rfl, .inl rfl, .inl rfl, .inl rfl, .inl rfl, .inl rfl, .inl rfl, .inl rfl, .inl rfl, trivial⟩) (by kernel_rfl) (by kernel_rfl) (by kernel_rfl) (by kernel_rfl) (by kernel_rfl) (fun _ _ _ h => h) (fun W hW => y_loadBR ha352 hW (i := 309) rfl rfl Try.underlying27 rfl sz27r (by simp) (by dsimp only [List.drop, List.take] <;> rfl)) ?_
                    clear ha352 a351; intro a353 ha353
                    refine d_hg 5 ha353 rfl rfl rfl rfl rfl (m347.to ⟨.inl rfl, .inl rfl, .inl rfl, .inl rfl, .inl rfl, .inl rfl, .inl rfl, .inl rfl, .inl rfl, .inl rfl, .inl rfl, .inl rfl, .inl rfl, trivial⟩) (by kernel_rfl) (by kernel_rfl) (by kernel_rfl) (by kernel_rfl) (by kernel_rfl) (fun _ _ _ h => h) (fun W hW => y_loadBR ha353 hW (i := 313) rfl rfl Try.underlying27 rfl sz27r (by simp) (by dsimp only [List.drop, List.take] <;> rfl)) ?_
                    clear ha353 a353; intro a354 ha354
                    refine stepE_only 6 rfl (by kernel_rfl) (wantedG ha354 rfl rfl rfl rfl) (fun K hK => ?_)
                    refine e_call ha354 Try.func24 rfl rfl rfl rfl (rbaseSame_any _ _ _ _ _ _ _ _ _ _ _ _ _ (m347.nums (i := 306) rfl) (m347.nums (i := 310) rfl) (m347.nums (i := 307) rfl) (m347.nums (i := 311) rfl) (baseRV_ok bs 0 hbk.1) (baseRV_ok bs 0 hbk.1) (baseRV_cf bs 0)) ?_
                    rintro e w355 ⟨rfl, hb355⟩
                    have m356 := m347.later hb355
                    clear m347
                    clear hb355
                    refine ⟨_, rfl, fun a357 ha357 => ?_⟩; clear ha354 a354
                    refine hK _ _ (m356.to ⟨.inl rfl, .inl rfl, .inl rfl, .inl rfl, .inl rfl, .inl rfl, .inl rfl, .inl rfl, .inl rfl, .inl rfl, .inl rfl, .inl rfl, .inl rfl, trivial⟩) ?_; clear hK K
                    refine d_yg 7 ha357 rfl rfl rfl rfl rfl (fun _ => (m356.to ⟨.inl rfl, .inl rfl, .inl rfl, .inl rfl, .inl rfl, .inl rfl, .inl rfl, .inl rfl, .inl rfl, .inl rfl, .inl rfl, .inl rfl, .inl rfl, trivial⟩)) (by kernel_rfl) (by kernel_rfl) (by kernel_rfl) (by rfl) (fun _ _ _ h => h) (fun W => y_not ha357 rfl) ?_
                    clear ha357 a357; intro a358 ha358
                    refine d_y 8 ha358 rfl rfl (fun _ => (m356.to ⟨.inl rfl, .inl rfl, .inl rfl, .inl rfl, .inl rfl, .inl rfl, .inl rfl, .inl rfl, .inl rfl, .inl rfl, .inl rfl, .inl rfl, .inl rfl, trivial⟩)) (by kernel_rfl) (by kernel_rfl) (by kernel_rfl) (by rfl) (fun _ _ _ h => h) (fun W => y_pickF ha358 rfl rfl) ?_
                    clear ha358 a358; intro a359 ha359
                    refine d_y 9 ha359 rfl rfl (fun _ => (m356.to ⟨.inl rfl, .inl rfl, .inl rfl, .inl rfl, .inl rfl, .inl rfl, .inl rfl, .inl rfl, .inl rfl, .inl rfl, .inl rfl, .inl rfl, .inl rfl, trivial⟩)) (by kernel_rfl) (by kernel_rfl) (by kernel_rfl) (by rfl) (fun _ _ _ h => h) (fun W => y_move ha359 rfl) ?_
                    clear ha359 a359; intro a360 ha360
                    refine bool_cases ha360 (t := 182) rfl (fun hb361 ha361 => ?_) (fun hb361 ha361 => ?_)
                    · exact absurd hb361 (by simp)
                    clear ha360 hb361
                    refine d_yg 10 ha361 rfl rfl rfl rfl rfl (fun _ => (m356.to ⟨.inl rfl, .inl rfl, .inl rfl, .inl rfl, .inl rfl, .inl rfl, .inl rfl, .inl rfl, .inl rfl, .inl rfl, .inl rfl, .inl rfl, .inl rfl, trivial⟩)) (by kernel_rfl) (by kernel_rfl) (by kernel_rfl) (by rfl) (fun _ _ _ h => h) (fun W => y_move ha361 rfl) ?_
                    clear ha361 a360; intro a362 ha362
                    refine d_yg 11 ha362 rfl rfl rfl rfl rfl (fun _ => (m356.to ⟨.inl rfl, .inl rfl, .inl rfl, .inl rfl, .inl rfl, .inl rfl, .inl rfl, .inl rfl, .inl rfl, .inl rfl, .inl rfl, .inl rfl, .inl rfl, trivial⟩)) (by kernel_rfl) (by kernel_rfl) (by kernel_rfl) (by rfl) (fun _ _ _ h => h) (fun W => y_move ha362 rfl) ?_
                    clear ha362 a362; intro a363 ha363
                    refine bool_cases ha363 (t := 184) rfl (fun hb364 ha364 => ?_) (fun hb364 ha364 => ?_)
                    · skip
                      clear ha363
                      try simp only [decide_eq_true_eq, decide_eq_false_iff_not, Bool.not_eq_true, Bool.not_eq_false, Bool.not_eq_eq_eq_not, Bool.not_true, Bool.not_false, Bool.not_not, Int.not_lt, Int.not_le, ne_eq, Decidable.not_not] at hb364
                      refine d_yg 12 ha364 rfl rfl rfl rfl rfl (fun _ => (m356.to ⟨.inl rfl, .inl rfl, .inl rfl, .inl rfl, .inl rfl, .inl rfl, .inl rfl, .inl rfl, .inl rfl, .inl rfl, .inl rfl, .inl rfl, .inl rfl, trivial⟩)) (by kernel_rfl) (by kernel_rfl) (by kernel_rfl) (by rfl) (fun _ _ _ h => h) (fun W => y_move ha364 rfl) ?_
                      clear ha364 a363; intro a365 ha365
                      refine d_yg 14 ha365 rfl rfl rfl rfl rfl (fun _ => (m356.to ⟨.inl rfl, .inl rfl, .inl rfl, .inl rfl, .inl rfl, .inl rfl, .inl rfl, .inl rfl, .inl rfl, .inl rfl, .inl rfl, .inl rfl, .inl rfl, trivial⟩)) (by kernel_rfl) (by kernel_rfl) (by kernel_rfl) (by rfl) (fun _ _ _ h => h) (fun W => y_move ha365 rfl) ?_
                      clear ha365 a365; intro a366 ha366
                      refine d_yg 15 ha366 rfl rfl rfl rfl rfl (fun _ => (m356.to ⟨.inl rfl, .inl rfl, .inl rfl, .inl rfl, .inl rfl, .inl rfl, .inl rfl, .inl rfl, .inl rfl, .inl rfl, .inl rfl, .inl rfl, .inl rfl, trivial⟩)) (by kernel_rfl) (by kernel_rfl) (by kernel_rfl) (by rfl) (fun _ _ _ h => h) (fun W => y_nilCheck ha366 rfl) ?_
                      clear ha366 a366; intro a367 ha367
                      refine d_yg 16 ha367 rfl rfl rfl rfl rfl (fun _ => (m356.to ⟨.inl rfl, .inl rfl, .inl rfl, .inl rfl, .inl rfl, .inl rfl, .inl rfl, .inl rfl, .inl rfl, .inl rfl, .inl rfl, .inl rfl, .inl rfl, trivial⟩)) (by kernel_rfl) (by kernel_rfl) (by kernel_rfl) (by rfl) (fun _ _ _ h => h) (fun W => y_fieldAddrQ ha367 0 rfl Try.underlying52 rfl (s := 0) (by kernel_rfl) rfl) ?_
                      clear ha367 a367; intro a368 ha368
                      refine d_hg 17 ha368 rfl rfl rfl rfl rfl (m356.to ⟨.inl rfl, .inl rfl, .inl rfl, .inl rfl, .inl rfl, .inl rfl, .inl rfl, .inl rfl, .inl rfl, .inl rfl, .inl rfl, .inl rfl, .inl rfl, trivial⟩) (by kernel_rfl) (by kernel_rfl) (by kernel_rfl) (by kernel_rfl) (by kernel_rfl) (fun _ _ _ h => h) (fun W hW => y_loadC0 ha368 hW (i := 304) rfl rfl Try.underlying22 rfl) ?_
                      clear ha368 a368; intro a369 ha369
                      refine d_yg 18 ha369 rfl rfl rfl rfl rfl (fun _ => (m356.to ⟨.inl rfl, .inl rfl, .inl rfl, .inl rfl, .inl rfl, .inl rfl, .inl rfl, .inl rfl, .inl rfl, .inl rfl, .inl rfl, .inl rfl, .inl rfl, trivial⟩)) (by kernel_rfl) (by kernel_rfl) (by kernel_rfl) (by rfl) (fun _ _ _ h => h) (fun W => y_len ha369 rfl Try.underlying22) ?_
                      clear ha369 a369; intro a370 ha370
                      refine stepE_only 13 rfl (by kernel_rfl) (wantedG ha370 rfl rfl rfl rfl) (fun K hK => ?_)
                      refine e_call ha370 Try.func17 rfl rfl rfl rfl (left_cel _ _ _ _ _ ((m356.ok 305 _ rfl : Res.ok _ _ _ _ (.cel _ _ _)).2.2 0 _ rfl)) ?_
                      rintro e w371 ⟨rfl, hb371⟩
                      subst hb371
                      have m372 := m356
                      clear m356
                      refine ⟨_, rfl, fun a373 ha373 => ?_⟩; clear ha370 a370
                      refine hK _ _ (m372.to ⟨.inl rfl, .inl rfl, .inl rfl, .inl rfl, .inl rfl, .inl rfl, .inl rfl, .inl rfl, .inl rfl, .inl rfl, .inl rfl, .inl rfl, .inl rfl, trivial⟩) ?_; clear hK K
                      refine d_yg 19 ha373 rfl rfl rfl rfl rfl (fun _ => (m372.to ⟨.inl rfl, .inl rfl, .inl rfl, .inl rfl, .inl rfl, .inl rfl, .inl rfl, .inl rfl, .inl rfl, .inl rfl, .inl rfl, .inl rfl, .inl rfl, trivial⟩)) (by kernel_rfl) (by kernel_rfl) (by kernel_rfl) (by rfl) (fun _ _ _ h => h) (fun W => y_neq ha373 rfl rfl) ?_
                      clear ha373 a373; intro a374 ha374
                      refine d_yg 20 ha374 rfl rfl rfl rfl rfl (fun _ => (m372.to ⟨.inl rfl, .inl rfl, .inl rfl, .inl rfl, .inl rfl, .inl rfl, .inl rfl, .inl rfl, .inl rfl, .inl rfl, .inl rfl, .inl rfl, .inl rfl, trivial⟩)) (by kernel_rfl) (by kernel_rfl) (by kernel_rfl) (by rfl) (fun _ _ _ h => h) (fun W => y_pickT ha374 rfl rfl) ?_
                      clear ha374 a374; intro a375 ha375
                      refine d_y 21 ha375 rfl rfl (fun _ => (m372.to ⟨.inl rfl, .inl rfl, .inl rfl, .inl rfl, .inl rfl, .inl rfl, .inl rfl, .inl rfl, .inl rfl, .inl rfl, .inl rfl, .inl rfl, .inl rfl, trivial⟩)) (by kernel_rfl) (by kernel_rfl) (by kernel_rfl) (by rfl) (fun _ _ _ h => h) (fun W => y_pickF ha375 rfl rfl) ?_
                      clear ha375 a375; intro a376 ha376
                      refine wpAnyE_done (by kernel_rfl) ?_ _
                      refine hK37 _ _ ?_; clear hK37; try clear K37
                      refine bool_cases ha376 (t := 194) rfl (fun hb377 ha377 => ?_) (fun hb377 ha377 => ?_)
                      · exact absurd hb377 (by have h9 := (base_67 bs 0).2.2 hb364; simp [h9])
                      clear ha376 hb377
                      refine wp_cond_false (ha377.ev (x := .tmp 194) rfl) ?_
                      refine wp_skip ?_
                      refine hK26 _ _ ?_; clear hK26; try clear K26
                      have ha378 : Has 195 [(9, _), (16, _)] a376 := ha377.only [9, 16]; clear ha377
                      refine wp_region_lit ?_
                      refine st_y ha378 rfl (y_move ha378 rfl) ?_
                      clear ha378 a376; intro a379 ha379
                      refine st_y ha379 rfl (y_add ha379 rfl rfl (r := ((k + 1 : Nat) : Int)) (by rw [IntWalk.i64_in _ (by omega)]; omega)) ?_
                      clear ha379 a379; intro a380 ha380
                      refine st_y ha380 rfl (y_assign ha380 rfl) ?_
                      clear ha380 a380; intro a381 ha381
                      refine wpList_nil ?_
                      show ∃ n', n' < _ ∧ _
                      exact ⟨A.length - (k + 1), by omega, k + 1, _, _, by omega, rfl, ha381.only [9, 16], m372.only [3]⟩
                    · skip
                      clear ha363
                      try simp only [decide_eq_true_eq, decide_eq_false_iff_not, Bool.not_eq_true, Bool.not_eq_false, Bool.not_eq_eq_eq_not, Bool.not_true, Bool.not_false, Bool.not_not, Int.not_lt, Int.not_le, ne_eq, Decidable.not_not] at hb364
                      refine d_skip 12 ha364 rfl rfl rfl rfl rfl (fun _ => (m356.to ⟨.inl rfl, .inl rfl, .inl rfl, .inl rfl, .inl rfl, .inl rfl, .inl rfl, .inl rfl, .inl rfl, .inl rfl, .inl rfl, .inl rfl, .inl rfl, trivial⟩)) (by kernel_rfl) (by kernel_rfl) (by kernel_rfl) (by rfl) (fun _ _ _ h => h) ?_
                      clear ha364 a363; intro a382 ha382
                      refine d_skip 13 ha382 rfl rfl rfl rfl rfl (fun _ => (m356.to ⟨.inl rfl, .inl rfl, .inl rfl, .inl rfl, .inl rfl, .inl rfl, .inl rfl, .inl rfl, .inl rfl, .inl rfl, .inl rfl, .inl rfl, .inl rfl, trivial⟩)) (by kernel_rfl) (by kernel_rfl) (by kernel_rfl) (by rfl) (fun _ _ _ h => h) ?_
                      clear ha382 a382; intro a383 ha383
                      refine d_skip 14 ha383 rfl rfl rfl rfl rfl (fun _ => (m356.to ⟨.inl rfl, .inl rfl, .inl rfl, .inl rfl, .inl rfl, .inl rfl, .inl rfl, .inl rfl, .inl rfl, .inl rfl, .inl rfl, .inl rfl, .inl rfl, trivial⟩)) (by kernel_rfl) (by kernel_rfl) (by kernel_rfl) (by rfl) (fun _ _ _ h => h) ?_
                      clear ha383 a383; intro a384 ha384
                      refine d_skip 15 ha384 rfl rfl rfl rfl rfl (fun _ => (m356.to ⟨.inl rfl, .inl rfl, .inl rfl, .inl rfl, .inl rfl, .inl rfl, .inl rfl, .inl rfl, .inl rfl, .inl rfl, .inl rfl, .inl rfl, .inl rfl, trivial⟩)) (by kernel_rfl) (by kernel_rfl) (by kernel_rfl) (by rfl) (fun _ _ _ h => h) ?_
                      clear ha384 a384; intro a385 ha385
                      refine d_skip 16 ha385 rfl rfl rfl rfl rfl (fun _ => (m356.to ⟨.inl rfl, .inl rfl, .inl rfl, .inl rfl, .inl rfl, .inl rfl, .inl rfl, .inl rfl, .inl rfl, .inl rfl, .inl rfl, .inl rfl, .inl rfl, trivial⟩)) (by kernel_rfl) (by kernel_rfl) (by kernel_rfl) (by rfl) (fun _ _ _ h => h) ?_
                      clear ha385 a385; intro a386 ha386
                      refine d_skip 17 ha386 rfl rfl rfl rfl rfl (fun _ => (m356.to ⟨.inl rfl, .inl rfl, .inl rfl, .inl rfl, .inl rfl, .inl rfl, .inl rfl, .inl rfl, .inl rfl, .inl rfl, .inl rfl, .inl rfl, .inl rfl, trivial⟩)) (by kernel_rfl) (by kernel_rfl) (by kernel_rfl) (by rfl) (fun _ _ _ h => h) ?_
                      clear ha386 a386; intro a387 ha387
                      refine d_skip 18 ha387 rfl rfl rfl rfl rfl (fun _ => (m356.to ⟨.inl rfl, .inl rfl, .inl rfl, .inl rfl, .inl rfl, .inl rfl, .inl rfl, .inl rfl, .inl rfl, .inl rfl, .inl rfl, .inl rfl, .inl rfl, trivial⟩)) (by kernel_rfl) (by kernel_rfl) (by kernel_rfl) (by rfl) (fun _ _ _ h => h) ?_
                      clear ha387 a387; intro a388 ha388
                      refine d_skip 19 ha388 rfl rfl rfl rfl rfl (fun _ => (m356.to ⟨.inl rfl, .inl rfl, .inl rfl, .inl rfl, .inl rfl, .inl rfl, .inl rfl, .inl rfl, .inl rfl, .inl rfl, .inl rfl, .inl rfl, .inl rfl, trivial⟩)) (by kernel_rfl) (by kernel_rfl) (by kernel_rfl) (by rfl) (fun _ _ _ h => h) ?_
                      clear ha388 a388; intro a389 ha389
                      refine d_yg 20 ha389 rfl rfl rfl rfl rfl (fun _ => (m356.to ⟨.inl rfl, .inl rfl, .inl rfl, .inl rfl, .inl rfl, .inl rfl, .inl rfl, .inl rfl, .inl rfl, .inl rfl, .inl rfl, .inl rfl, .inl rfl, trivial⟩)) (by kernel_rfl) (by kernel_rfl) (by kernel_rfl) (by rfl) (fun _ _ _ h => h) (fun W => y_pickF ha389 rfl rfl) ?_
                      clear ha389 a389; intro a390 ha390
                      refine d_y 21 ha390 rfl rfl (fun _ => (m356.to ⟨.inl rfl, .inl rfl, .inl rfl, .inl rfl, .inl rfl, .inl rfl, .inl rfl, .inl rfl, .inl rfl, .inl rfl, .inl rfl, .inl rfl, .inl rfl, trivial⟩)) (by kernel_rfl) (by kernel_rfl) (by kernel_rfl) (by rfl) (fun _ _ _ h => h) (fun W => y_pickF ha390 rfl rfl) ?_
                      clear ha390 a390; intro a391 ha391
                      refine wpAnyE_done (by kernel_rfl) ?_ _
                      refine hK37 _ _ ?_; clear hK37; try clear K37
                      refine wp_cond_false (ha391.ev (x := .tmp 194) rfl) ?_
                      refine wp_skip ?_
                      refine hK26 _ _ ?_; clear hK26; try clear K26
                      have ha392 : Has 195 [(9, _), (16, _)] a391 := ha391.only [9, 16]; clear ha391
                      refine wp_region_lit ?_
                      refine st_y ha392 rfl (y_move ha392 rfl) ?_
                      clear ha392 a391; intro a393 ha393
                      refine st_y ha393 rfl (y_add ha393 rfl rfl (r := ((k + 1 : Nat) : Int)) (by rw [IntWalk.i64_in _ (by omega)]; omega)) ?_
                      clear ha393 a393; intro a394 ha394
                      refine st_y ha394 rfl (y_assign ha394 rfl) ?_
                      clear ha394 a394; intro a395 ha395
                      refine wpList_nil ?_
                      show ∃ n', n' < _ ∧ _
                      exact ⟨A.length - (k + 1), by omega, k + 1, _, _, by omega, rfl, ha395.only [9, 16], m356.only [3]⟩
                refine wp_seq_k (fun K38 hK38 => ?_)
                have ha396 : Has 195 [(9, _), (16, _), (17, _), (18, _), (19, _), (20, _), (21, _), (22, _)] a201 := ha201.only [9, 16, 17, 18, 19, 20, 21, 22]; clear ha201
                have m397 : MemOk _ _ [(3, _), (200, _), (201, _), (202, _), (203, _), (204, _), (205, _), (206, _), (207, _), (208, _), (210, _)] _ := m200.only [3, 200, 201, 202, 203, 204, 205, 206, 207, 208, 210]; clear m200
                refine region_m 22 (B := [(3, _), (200, _), (201, _), (202, _), (203, _), (204, _), (205, _), (206, _), (207, _), (208, _), (210, _)]) (m397.to ⟨.inl rfl, .inl rfl, .inl rfl, .inl rfl, .inl rfl, .inl rfl, .inl rfl, .inl rfl, .inl rfl, .inl rfl, .inl rfl, trivial⟩) m397 (by kernel_rfl) (fun w398 mB398 m398 => ?_); clear m397 mB398
                refine d_y 0 ha396 rfl rfl (fun _ => (m398.to ⟨.inl rfl, .inl rfl, .inl rfl, .inl rfl, .inl rfl, .inl rfl, .inl rfl, .inl rfl, .inl rfl, .inl rfl, .inl rfl, trivial⟩)) (by kernel_rfl) (by kernel_rfl) (by kernel_rfl) (by rfl) (fun _ _ _ h => h) (fun W => y_move ha396 rfl) ?_
                clear ha396 a201; intro a399 ha399
                refine d_y 1 ha399 rfl rfl (fun _ => (m398.to ⟨.inl rfl, .inl rfl, .inl rfl, .inl rfl, .inl rfl, .inl rfl, .inl rfl, .inl rfl, .inl rfl, .inl rfl, .inl rfl, trivial⟩)) (by kernel_rfl) (by kernel_rfl) (by kernel_rfl) (by rfl) (fun _ _ _ h => h) (fun W => y_move ha399 rfl) ?_
                clear ha399 a399; intro a400 ha400
                refine d_y 2 ha400 rfl rfl (fun _ => (m398.to ⟨.inl rfl, .inl rfl, .inl rfl, .inl rfl, .inl rfl, .inl rfl, .inl rfl, .inl rfl, .inl rfl, .inl rfl, .inl rfl, trivial⟩)) (by kernel_rfl) (by kernel_rfl) (by kernel_rfl) (by rfl) (fun _ _ _ h => h) (fun W => y_neqB ha400 rfl rfl Try.underlying4) ?_
                clear ha400 a400; intro a401 ha401
                refine d_y 3 ha401 rfl rfl (fun _ => (m398.to ⟨.inl rfl, .inl rfl, .inl rfl, .inl rfl, .inl rfl, .inl rfl, .inl rfl, .inl rfl, .inl rfl, .inl rfl, .inl rfl, trivial⟩)) (by kernel_rfl) (by kernel_rfl) (by kernel_rfl) (by rfl) (fun _ _ _ h => h) (fun W => y_move ha401 rfl) ?_
                clear ha401 a401; intro a402 ha402
                refine bool_cases ha402 (t := 133) rfl (fun hb403 ha403 => ?_) (fun hb403 ha403 => ?_)
                · exact absurd hb403 (by simp)
                clear ha402 hb403
                refine d_hg 4 ha403 rfl rfl rfl rfl rfl (m398.to ⟨.inl rfl, .inl rfl, .inl rfl, .inl rfl, .inl rfl, .inl rfl, .inl rfl, .inl rfl, .inl rfl, .inl rfl, .inl rfl, trivial⟩) (by kernel_rfl) (by kernel_rfl) (by kernel_rfl) (by kernel_rfl) (by kernel_rfl) (fun _ _ _ h => h) (fun W hW => y_loadBR ha403 hW (i := 207) rfl rfl Try.underlying24 rfl sz24r (by simp) (by dsimp only [List.drop, List.take] <;> rfl)) ?_
                clear ha403 a402; intro a404 ha404
                refine d_hg 5 ha404 rfl rfl rfl rfl rfl (m398.to ⟨.inl rfl, .inl rfl, .inl rfl, .inl rfl, .inl rfl, .inl rfl, .inl rfl, .inl rfl, .inl rfl, .inl rfl, .inl rfl, trivial⟩) (by kernel_rfl) (by kernel_rfl) (by kernel_rfl) (by kernel_rfl) (by kernel_rfl) (fun _ _ _ h => h) (fun W hW => y_loadBR ha404 hW (i := 210) rfl rfl Try.underlying24 rfl sz24r (by simp) (by dsimp only [List.drop, List.take] <;> rfl)) ?_
                clear ha404 a404; intro a405 ha405
                refine stepE_only 6 rfl (by kernel_rfl) (wantedG ha405 rfl rfl rfl rfl) (fun K hK => ?_)
                refine e_call ha405 Try.func14 rfl rfl rfl rfl (rentSame_any _ _ _ _ _ _ _ _ _ _ _ (m398.nums (i := 206) rfl) (m398.nums (i := 208) rfl) (entRV_ok bs 0 hbk.1) (entRV_ok bs 0 hbk.1)) ?_
                rintro e w406 ⟨rfl, hb406⟩
                have m407 := m398.later hb406
                clear m398
                clear hb406
                refine ⟨_, rfl, fun a408 ha408 => ?_⟩; clear ha405 a405
                refine hK _ _ (m407.to ⟨.inl rfl, .inl rfl, .inl rfl, .inl rfl, .inl rfl, .inl rfl, .inl rfl, .inl rfl, .inl rfl, .inl rfl, .inl rfl, trivial⟩) ?_; clear hK K
                refine d_yg 7 ha408 rfl rfl rfl rfl rfl (fun _ => (m407.to ⟨.inl rfl, .inl rfl, .inl rfl, .inl rfl, .inl rfl, .inl rfl, .inl rfl, .inl rfl, .inl rfl, .inl rfl, .inl rfl, trivial⟩)) (by kernel_rfl) (by kernel_rfl) (by kernel_rfl) (by rfl) (fun _ _ _ h => h) (fun W => y_not ha408 rfl) ?_
                clear ha408 a408; intro a409 ha409
                refine d_y 8 ha409 rfl rfl (fun _ => (m407.to ⟨.inl rfl, .inl rfl, .inl rfl, .inl rfl, .inl rfl, .inl rfl, .inl rfl, .inl rfl, .inl rfl, .inl rfl, .inl rfl, trivial⟩)) (by kernel_rfl) (by kernel_rfl) (by kernel_rfl) (by rfl) (fun _ _ _ h => h) (fun W => y_pickF ha409 rfl rfl) ?_
                clear ha409 a409; intro a410 ha410
                refine d_y 9 ha410 rfl rfl (fun _ => (m407.to ⟨.inl rfl, .inl rfl, .inl rfl, .inl rfl, .inl rfl, .inl rfl, .inl rfl, .inl rfl, .inl rfl, .inl rfl, .inl rfl, trivial⟩)) (by kernel_rfl) (by kernel_rfl) (by kernel_rfl) (by rfl) (fun _ _ _ h => h) (fun W => y_move ha410 rfl) ?_
                clear ha410 a410; intro a411 ha411
                refine bool_cases ha411 (t := 139) rfl (fun hb412 ha412 => ?_) (fun hb412 ha412 => ?_)
                · exact absurd hb412 (by simp)
                clear ha411 hb412
                refine d_yg 10 ha412 rfl rfl rfl rfl rfl (fun _ => (m407.to ⟨.inl rfl, .inl rfl, .inl rfl, .inl rfl, .inl rfl, .inl rfl, .inl rfl, .inl rfl, .inl rfl, .inl rfl, .inl rfl, trivial⟩)) (by kernel_rfl) (by kernel_rfl) (by kernel_rfl) (by rfl) (fun _ _ _ h => h) (fun W => y_move ha412 rfl) ?_
                clear ha412 a411; intro a413 ha413
                refine d_yg 11 ha413 rfl rfl rfl rfl rfl (fun _ => (m407.to ⟨.inl rfl, .inl rfl, .inl rfl, .inl rfl, .inl rfl, .inl rfl, .inl rfl, .inl rfl, .inl rfl, .inl rfl, .inl rfl, trivial⟩)) (by kernel_rfl) (by kernel_rfl) (by kernel_rfl) (by rfl) (fun _ _ _ h => h) (fun W => y_move ha413 rfl) ?_
                clear ha413 a413; intro a414 ha414
                refine bool_cases ha414 (t := 141) rfl (fun hb415 ha415 => ?_) (fun hb415 ha415 => ?_)
                · skip
                  clear ha414
                  try simp only [decide_eq_true_eq, decide_eq_false_iff_not, Bool.not_eq_true, Bool.not_eq_false, Bool.not_eq_eq_eq_not, Bool.not_true, Bool.not_false, Bool.not_not, Int.not_lt, Int.not_le, ne_eq, Decidable.not_not] at hb415
                  refine d_yg 12 ha415 rfl rfl rfl rfl rfl (fun _ => (m407.to ⟨.inl rfl, .inl rfl, .inl rfl, .inl rfl, .inl rfl, .inl rfl, .inl rfl, .inl rfl, .inl rfl, .inl rfl, .inl rfl, trivial⟩)) (by kernel_rfl) (by kernel_rfl) (by kernel_rfl) (by rfl) (fun _ _ _ h => h) (fun W => y_move ha415 rfl) ?_
                  clear ha415 a414; intro a416 ha416
                  refine d_yg 14 ha416 rfl rfl rfl rfl rfl (fun _ => (m407.to ⟨.inl rfl, .inl rfl, .inl rfl, .inl rfl, .inl rfl, .inl rfl, .inl rfl, .inl rfl, .inl rfl, .inl rfl, .inl rfl, trivial⟩)) (by kernel_rfl) (by kernel_rfl) (by kernel_rfl) (by rfl) (fun _ _ _ h => h) (fun W => y_move ha416 rfl) ?_
                  clear ha416 a416; intro a417 ha417
                  refine d_yg 15 ha417 rfl rfl rfl rfl rfl (fun _ => (m407.to ⟨.inl rfl, .inl rfl, .inl rfl, .inl rfl, .inl rfl, .inl rfl, .inl rfl, .inl rfl, .inl rfl, .inl rfl, .inl rfl, trivial⟩)) (by kernel_rfl) (by kernel_rfl) (by kernel_rfl) (by rfl) (fun _ _ _ h => h) (fun W => y_nilCheck ha417 rfl) ?_
                  clear ha417 a417; intro a418 ha418
                  refine d_yg 16 ha418 rfl rfl rfl rfl rfl (fun _ => (m407.to ⟨.inl rfl, .inl rfl, .inl rfl, .inl rfl, .inl rfl, .inl rfl, .inl rfl, .inl rfl, .inl rfl, .inl rfl, .inl rfl, trivial⟩)) (by kernel_rfl) (by kernel_rfl) (by kernel_rfl) (by rfl) (fun _ _ _ h => h) (fun W => y_fieldAddrQ ha418 0 rfl Try.underlying52 rfl (s := 0) (by kernel_rfl) rfl) ?_
                  clear ha418 a418; intro a419 ha419
                  refine d_hg 17 ha419 rfl rfl rfl rfl rfl (m407.to ⟨.inl rfl, .inl rfl, .inl rfl, .inl rfl, .inl rfl, .inl rfl, .inl rfl, .inl rfl, .inl rfl, .inl rfl, .inl rfl, trivial⟩) (by kernel_rfl) (by kernel_rfl) (by kernel_rfl) (by kernel_rfl) (by kernel_rfl) (fun _ _ _ h => h) (fun W hW => y_loadC0 ha419 hW (i := 205) rfl rfl Try.underlying22 rfl) ?_
                  clear ha419 a419; intro a420 ha420
                  refine d_yg 18 ha420 rfl rfl rfl rfl rfl (fun _ => (m407.to ⟨.inl rfl, .inl rfl, .inl rfl, .inl rfl, .inl rfl, .inl rfl, .inl rfl, .inl rfl, .inl rfl, .inl rfl, .inl rfl, trivial⟩)) (by kernel_rfl) (by kernel_rfl) (by kernel_rfl) (by rfl) (fun _ _ _ h => h) (fun W => y_len ha420 rfl Try.underlying22) ?_
                  clear ha420 a420; intro a421 ha421
                  refine stepE_only 13 rfl (by kernel_rfl) (wantedG ha421 rfl rfl rfl rfl) (fun K hK => ?_)
                  refine e_call ha421 Try.func17 rfl rfl rfl rfl (left_cel _ _ _ _ _ ((m407.ok 204 _ rfl : Res.ok _ _ _ _ (.cel _ _ _)).2.2 0 _ rfl)) ?_
                  rintro e w422 ⟨rfl, hb422⟩
                  subst hb422
                  have m423 := m407
                  clear m407
                  refine ⟨_, rfl, fun a424 ha424 => ?_⟩; clear ha421 a421
                  refine hK _ _ (m423.to ⟨.inl rfl, .inl rfl, .inl rfl, .inl rfl, .inl rfl, .inl rfl, .inl rfl, .inl rfl, .inl rfl, .inl rfl, .inl rfl, trivial⟩) ?_; clear hK K
                  refine d_yg 19 ha424 rfl rfl rfl rfl rfl (fun _ => (m423.to ⟨.inl rfl, .inl rfl, .inl rfl, .inl rfl, .inl rfl, .inl rfl, .inl rfl, .inl rfl, .inl rfl, .inl rfl, .inl rfl, trivial⟩)) (by kernel_rfl) (by kernel_rfl) (by kernel_rfl) (by rfl) (fun _ _ _ h => h) (fun W => y_neq ha424 rfl rfl) ?_
                  clear ha424 a424; intro a425 ha425
                  refine d_yg 20 ha425 rfl rfl rfl rfl rfl (fun _ => (m423.to ⟨.inl rfl, .inl rfl, .inl rfl, .inl rfl, .inl rfl, .inl rfl, .inl rfl, .inl rfl, .inl rfl, .inl rfl, .inl rfl, trivial⟩)) (by kernel_rfl) (by kernel_rfl) (by kernel_rfl) (by rfl) (fun _ _ _ h => h) (fun W => y_pickT ha425 rfl rfl) ?_
                  clear ha425 a425; intro a426 ha426
                  refine d_y 21 ha426 rfl rfl (fun _ => (m423.to ⟨.inl rfl, .inl rfl, .inl rfl, .inl rfl, .inl rfl, .inl rfl, .inl rfl, .inl rfl, .inl rfl, .inl rfl, .inl rfl, trivial⟩)) (by kernel_rfl) (by kernel_rfl) (by kernel_rfl) (by rfl) (fun _ _ _ h => h) (fun W => y_pickF ha426 rfl rfl) ?_
                  clear ha426 a426; intro a427 ha427
                  refine wpAnyE_done (by kernel_rfl) ?_ _
                  refine hK38 _ _ ?_; clear hK38; try clear K38
                  refine bool_cases ha427 (t := 151) rfl (fun hb428 ha428 => ?_) (fun hb428 ha428 => ?_)
                  · exact absurd hb428 (by simp)
                  clear ha427 hb428
                  refine wp_cond_false (ha428.ev (x := .tmp 151) rfl) ?_
                  refine wp_skip ?_
                  exact hC30 _ _ ⟨_, _, ha428.only [9, 16], m423.only [3]⟩
                · skip
                  clear ha414
                  try simp only [decide_eq_true_eq, decide_eq_false_iff_not, Bool.not_eq_true, Bool.not_eq_false, Bool.not_eq_eq_eq_not, Bool.not_true, Bool.not_false, Bool.not_not, Int.not_lt, Int.not_le, ne_eq, Decidable.not_not] at hb415
                  refine d_skip 12 ha415 rfl rfl rfl rfl rfl (fun _ => (m407.to ⟨.inl rfl, .inl rfl, .inl rfl, .inl rfl, .inl rfl, .inl rfl, .inl rfl, .inl rfl, .inl rfl, .inl rfl, .inl rfl, trivial⟩)) (by kernel_rfl) (by kernel_rfl) (by kernel_rfl) (by rfl) (fun _ _ _ h => h) ?_
                  clear ha415 a414; intro a429 ha429
                  refine d_skip 13 ha429 rfl rfl rfl rfl rfl (fun _ => (m407.to ⟨.inl rfl, .inl rfl, .inl rfl, .inl rfl, .inl rfl, .inl rfl, .inl rfl, .inl rfl, .inl rfl, .inl rfl, .inl rfl, trivial⟩)) (by kernel_rfl) (by kernel_rfl) (by kernel_rfl) (by rfl) (fun _ _ _ h => h) ?_
                  clear ha429 a429; intro a430 ha430
                  refine d_skip 14 ha430 rfl rfl rfl rfl rfl (fun _ => (m407.to ⟨.inl rfl, .inl rfl, .inl rfl, .inl rfl, .inl rfl, .inl rfl, .inl rfl, .inl rfl, .inl rfl, .inl rfl, .inl rfl, trivial⟩)) (by kernel_rfl) (by kernel_rfl) (by kernel_rfl) (by rfl) (fun _ _ _ h => h) ?_
                  clear ha430 a430; intro a431 ha431
                  refine d_skip 15 ha431 rfl rfl rfl rfl rfl (fun _ => (m407.to ⟨.inl rfl, .inl rfl, .inl rfl, .inl rfl, .inl rfl, .inl rfl, .inl rfl, .inl rfl, .inl rfl, .inl rfl, .inl rfl, trivial⟩)) (by kernel_rfl) (by kernel_rfl) (by kernel_rfl) (by rfl) (fun _ _ _ h => h) ?_
                  clear ha431 a431; intro a432 ha432
                  refine d_skip 16 ha432 rfl rfl rfl rfl rfl (fun _ => (m407.to ⟨.inl rfl, .inl rfl, .inl rfl, .inl rfl, .inl rfl, .inl rfl, .inl rfl, .inl rfl, .inl rfl, .inl rfl, .inl rfl, trivial⟩)) (by kernel_rfl) (by kernel_rfl) (by kernel_rfl) (by rfl) (fun _ _ _ h => h) ?_
                  clear ha432 a432; intro a433 ha433
                  refine d_skip 17 ha433 rfl rfl rfl rfl rfl (fun _ => (m407.to ⟨.inl rfl, .inl rfl, .inl rfl, .inl rfl, .inl rfl, .inl rfl, .inl rfl, .inl rfl, .inl rfl, .inl rfl, .inl rfl, trivial⟩)) (by kernel_rfl) (by kernel_rfl) (by kernel_rfl) (by rfl) (fun _ _ _ h => h) ?_
                  clear ha433 a433; intro a434 ha434
                  refine d_skip 18 ha434 rfl rfl rfl rfl rfl (fun _ => (m407.to ⟨.inl rfl, .inl rfl, .inl rfl, .inl rfl, .inl rfl, .inl rfl, .inl rfl, .inl rfl, .inl rfl, .inl rfl, .inl rfl, trivial⟩)) (by kernel_rfl) (by kernel_rfl) (by kernel_rfl) (by rfl) (fun _ _ _ h => h) ?_
                  clear ha434 a434; intro a435 ha435
                  refine d_skip 19 ha435 rfl rfl rfl rfl rfl (fun _ => (m407.to ⟨.inl rfl, .inl rfl, .inl rfl, .inl rfl, .inl rfl, .inl rfl, .inl rfl, .inl rfl, .inl rfl, .inl rfl, .inl rfl, trivial⟩)) (by kernel_rfl) (by kernel_rfl) (by kernel_rfl) (by rfl) (fun _ _ _ h => h) ?_
                  clear ha435 a435; intro a436 ha436
                  refine d_yg 20 ha436 rfl rfl rfl rfl rfl (fun _ => (m407.to ⟨.inl rfl, .inl rfl, .inl rfl, .inl rfl, .inl rfl, .inl rfl, .inl rfl, .inl rfl, .inl rfl, .inl rfl, .inl rfl, trivial⟩)) (by kernel_rfl) (by kernel_rfl) (by kernel_rfl) (by rfl) (fun _ _ _ h => h) (fun W => y_pickF ha436 rfl rfl) ?_
                  clear ha436 a436; intro a437 ha437
                  refine d_y 21 ha437 rfl rfl (fun _ => (m407.to ⟨.inl rfl, .inl rfl, .inl rfl, .inl rfl, .inl rfl, .inl rfl, .inl rfl, .inl rfl, .inl rfl, .inl rfl, .inl rfl, trivial⟩)) (by kernel_rfl) (by kernel_rfl) (by kernel_rfl) (by rfl) (fun _ _ _ h => h) (fun W => y_pickF ha437 rfl rfl) ?_
                  clear ha437 a437; intro a438 ha438
                  refine wpAnyE_done (by kernel_rfl) ?_ _
                  refine hK38 _ _ ?_; clear hK38; try clear K38
                  refine wp_cond_false (ha438.ev (x := .tmp 151) rfl) ?_
                  refine wp_skip ?_
                  exact hC30 _ _ ⟨_, _, ha438.only [9, 16], m407.only [3]⟩
              · skip
                have hblk439 := (m156.rd (i := 203) rfl).ns_out.blk
                refine e_box ha165 m156 204 rfl rfl rfl ?_
                clear ha165 a165 m156; intro g440 a441 w441 ha441 m441 hB441 hg441
                rw [← hg441] at hblk439
                clear hB441 hg441
                refine hK _ _ (fun _ => (m441.to ⟨.inl rfl, .inl rfl, .inl rfl, .inl rfl, .inl rfl, trivial⟩)) ?_; clear hK K
                refine stepE_only 4 rfl (by kernel_rfl) rfl (fun K hK => ?_)
                refine e_call ha441 Try.func15 rfl rfl rfl rfl (new_any _ bs _ (m441.nums (i := 201) rfl) hbk.1 (by omega)) ?_
                rintro e w442 ⟨B442, u442, rfl, hBl442, hR442, hb442⟩
                have hBN442 : w0.heap.size ≤ B442 := Nat.le_trans m441.keep.size (Nat.le_of_lt hBl442)
                have m443 := m441.callAny 205 hb442 (Nat.le_of_lt hBl442) hR442.lt
                clear m441
                clear hb442 hBl442
                refine ⟨_, rfl, fun a444 ha444 => ?_⟩; clear ha441 a441
                refine hK _ _ (m443.to ⟨.inl rfl, .inl rfl, .inl rfl, .inl rfl, .inl rfl, trivial⟩) ?_; clear hK K
                refine d_y 11 ha444 rfl rfl (fun _ => (m443.to ⟨.inl rfl, .inl rfl, .inl rfl, .inl rfl, .inl rfl, trivial⟩)) (by kernel_rfl) (by kernel_rfl) (by kernel_rfl) (by rfl) (fun _ _ _ h => h) (fun W => y_assign ha444 rfl) ?_
                clear ha444 a444; intro a445 ha445
                refine d_y 12 ha445 rfl rfl (fun _ => (m443.to ⟨.inl rfl, .inl rfl, .inl rfl, .inl rfl, .inl rfl, trivial⟩)) (by kernel_rfl) (by kernel_rfl) (by kernel_rfl) (by rfl) (fun _ _ _ h => h) (fun W => y_assign ha445 rfl) ?_
                clear ha445 a445; intro a446 ha446
                refine wpAnyE_done (by kernel_rfl) ?_ _
                refine hK27 _ _ ?_; clear hK27; try clear K27
                refine wp_seq_k (fun K39 hK39 => ?_)
                have ha447 : Has 195 [(9, _), (16, _), (17, _), (18, _)] a446 := ha446.only [9, 16, 17, 18]; clear ha446
                refine wp_region_lit ?_
                refine st_y ha447 rfl (y_move ha447 rfl) ?_
                clear ha447 a446; intro a448 ha448
                refine wpList_plain rfl (fun K hK => ?_)
                refine e_call ha448 Try.func16 rfl rfl rfl rfl (entRead_any _ _ bs 0 _ hR442 (by omega)) ?_
                rintro e w449 ⟨u449, rfl, ho449, ⟨v449, hr449⟩, hon449⟩
                obtain ⟨pu449, cu449, hu449⟩ := ownsRow_shape ho449; subst hu449
                obtain ⟨pv449, cv449, hv449⟩ := reader_shape hr449; subst hv449
                have m450 := m443.onlyN 205 rfl hon449.keep 206 rfl ho449
                clear m443
                have m451 := m450.freezeN 206 rfl
                clear m450
                have m452 := m451.shut 205 rfl hBN442 (reader_range hr449)
                clear m451
                clear ho449 hr449 hon449 hR442
                refine ⟨_, rfl, fun a453 ha453 => ?_⟩; clear ha448 a448
                refine hK _ _ ?_; clear hK K
                refine st_y ha453 rfl (y_move ha453 rfl) ?_
                clear ha453 a453; intro a454 ha454
                refine st_y ha454 rfl (y_extract ha454 rfl rfl) ?_
                clear ha454 a454; intro a455 ha455
                refine st_y ha455 rfl (y_extract ha455 rfl rfl) ?_
                clear ha455 a455; intro a456 ha456
                refine wpList_plain rfl (fun K hK => ?_)
                refine e_alloc ha456 m452 207 zc24r rfl ?_
                clear ha456 a456 m452; intro g457 a458 w458 ha458 m458 hB458 hg458
                clear hB458 hg458
                refine hK _ _ ?_; clear hK K
                refine wpList_plain rfl (fun K hK => ?_)
                refine e_storeW ha458 m458 207 rfl rfl rfl rfl rfl sz24r ?_
                clear m458; intro w459 m459 hB459
                clear hB459
                refine hK _ _ ?_; clear hK K
                refine st_y ha458 rfl (y_assign ha458 rfl) ?_
                clear ha458 a458; intro a460 ha460
                refine wpList_nil ?_
                refine hK39 _ _ ?_; clear hK39; try clear K39
                refine wp_seq_k (fun K40 hK40 => ?_)
                refine wp_region_lit ?_
                refine st_y ha460 rfl (y_move ha460 rfl) ?_
                clear ha460 a460; intro a461 ha461
                refine wpList_plain rfl (fun K hK => ?_)
                refine e_call ha461 Try.func26 rfl rfl rfl rfl (rentRead_any _ _ bs 0 _ (reader_of m459 (i := 204) (j := 203) rfl rfl hblk439 hbk.1) (by omega)) ?_
                rintro e w462 ⟨u462, rfl, hnl462, ⟨v462, hr462, hsb462⟩, hon462, hsu462⟩
                obtain ⟨pv462, cv462, hv462⟩ := reader_shape hr462; subst hv462
                have hlt462 := hr462.lt
                have hgN462 := (MemOk.box_new m459 (i := 204) rfl)
                have hS462 := (m459.rd (i := 203) rfl).ns_out
                have m463 := m459.hide 204 rfl
                clear m459
                have hS462 := hS462.mono (Nat.le_refl _) (fun b hb hF => ⟨rfl, free_any (i := 204) rfl hF⟩)
                have m464 := m463.only1 204 rfl hon462.keep 209 rfl
                clear m463
                have m465 := m464.shut 204 rfl hgN462 (reader_range hr462)
                clear m464
                obtain ⟨pu462, cu462, hu462, hcu462⟩ := numsLt_shape hnl462
                subst hu462
                have m466 := m465.dat 208 rfl (.ns ((NumsS.of hS462 (hnl462.nums (Nat.le_of_lt hlt462)) (numsLt_cap hnl462) hsu462 (fun h => by have := entRV_len bs 0; omega)).mono (Nat.le_refl _) (fun b _ hF => ⟨rfl, free_add rfl (free_add rfl hF)⟩)))
                clear m465
                clear hS462 hr462 hsb462 hon462 hsu462 hnl462 hblk439
                refine ⟨_, rfl, fun a467 ha467 => ?_⟩; clear ha461 a461
                refine hK _ _ ?_; clear hK K
                refine st_y ha467 rfl (y_move ha467 rfl) ?_
                clear ha467 a467; intro a468 ha468
                refine st_y ha468 rfl (y_extract ha468 rfl rfl) ?_
                clear ha468 a468; intro a469 ha469
                refine st_y ha469 rfl (y_extract ha469 rfl rfl) ?_
                clear ha469 a469; intro a470 ha470
                refine wpList_plain rfl (fun K hK => ?_)
                refine e_alloc ha470 m466 210 zc24r rfl ?_
                clear ha470 a470 m466; intro g471 a472 w472 ha472 m472 hB472 hg472
                clear hB472 hg472
                refine hK _ _ ?_; clear hK K
                refine wpList_plain rfl (fun K hK => ?_)
                refine e_storeW ha472 m472 210 rfl rfl rfl rfl rfl sz24r ?_
                clear m472; intro w473 m473 hB473
                clear hB473
                refine hK _ _ ?_; clear hK K
                refine st_y ha472 rfl (y_assign ha472 rfl) ?_
                clear ha472 a472; intro a474 ha474
                refine wpList_nil ?_
                refine hK40 _ _ ?_; clear hK40; try clear K40
                refine wp_seq_k (fun K41 hK41 => ?_)
                have hC41 : ∀ (a : Act) (w : World), (∃ (pa : Option Addr) (ca : Nat), Has 195 [(9, .slice pa (lsD A).length ca), (16, .int .i64 k)] a ∧ MemOk (cx (fun _ => True) w0) w0 [(3, .dat (.slice pa (lsD A).length ca) (.l 1 (lsD A)))] w) → K41 a w := by
                  clear ha474 m473
                  rintro a475 w475 ⟨pa, ca, ha475, m475⟩
                  refine hK41 _ _ ?_; clear hK41; try clear K41
                  refine wp_seq_k (fun K42 hK42 => ?_)
                  obtain ⟨b476, o476, vs476, hp476, hR476, ho476, m476⟩ := m475.openR (i := 3) rfl (k) (r := [.ns .u8 bs]) (lsD_get hbs) 300 rfl
                  cases hp476; clear m475 ho476
                  rcases hR476 with _ | ⟨hd476_0, _ | _⟩
                  obtain ⟨p477, c477, hv477, hc477⟩ := hd476_0.ns_shape; subst hv477
                  have m477 := m476.dat 301 rfl (hd476_0.cast (fun _ h => (free_add rfl h))); clear m476 hd476_0
                  obtain ⟨b478, o478, vs478, hp478, hR478, ho478, m478⟩ := m477.openR (i := 3) rfl (k) (r := [.ns .u8 bs]) (lsD_get hbs) 302 rfl
                  cases hp478; clear m477 ho478
                  rcases hR478 with _ | ⟨hd478_0, _ | _⟩
                  obtain ⟨p479, c479, hv479, hc479⟩ := hd478_0.ns_shape; subst hv479
                  have m479 := m478.dat 303 rfl (hd478_0.cast (fun _ h => (free_add rfl h))); clear m478 hd478_0
                  have m480 : MemOk _ _ [(3, _), (300, _), (301, _), (302, _), (303, _)] _ := m479.only [3, 300, 301, 302, 303]; clear m479
                  refine region_m 13 (B := [(3, _), (300, _), (301, _), (302, _), (303, _)]) (m480.to ⟨.inl rfl, .inl rfl, .inl rfl, .inl rfl, .inl rfl, trivial⟩) m480 (by kernel_rfl) (fun w481 mB481 m481 => ?_); clear m480 mB481
                  refine d_y 0 ha475 rfl rfl (fun _ => (m481.to ⟨.inl rfl, .inl rfl, .inl rfl, .inl rfl, .inl rfl, trivial⟩)) (by kernel_rfl) (by kernel_rfl) (by kernel_rfl) (by rfl) (fun _ _ _ h => h) (fun W => y_move ha475 rfl) ?_
                  clear ha475 a475; intro a482 ha482
                  refine d_y 1 ha482 rfl rfl (fun _ => (m481.to ⟨.inl rfl, .inl rfl, .inl rfl, .inl rfl, .inl rfl, trivial⟩)) (by kernel_rfl) (by kernel_rfl) (by kernel_rfl) (by rfl) (fun _ _ _ h => h) (fun W => y_move ha482 rfl) ?_
                  clear ha482 a482; intro a483 ha483
                  refine d_y 2 ha483 rfl rfl (fun _ => (m481.to ⟨.inl rfl, .inl rfl, .inl rfl, .inl rfl, .inl rfl, trivial⟩)) (by kernel_rfl) (by kernel_rfl) (by kernel_rfl) (by rfl) (fun _ _ _ h => h) (fun W => y_idx ha483 rfl rfl Try.underlying49 sz22r (k) rfl (by rw [lsD_len]; exact hk)) ?_
                  clear ha483 a483; intro a484 ha484
                  refine d_h 3 ha484 rfl rfl (m481.to ⟨.inl rfl, .inl rfl, .inl rfl, .inl rfl, .inl rfl, trivial⟩) (by kernel_rfl) (by kernel_rfl) (by kernel_rfl) (by kernel_rfl) (by kernel_rfl) (fun _ _ _ h => h) (fun W hW => y_loadC0 ha484 hW (i := 300) rfl rfl Try.underlying22 rfl) ?_
                  clear ha484 a484; intro a485 ha485
                  refine d_y 5 ha485 rfl rfl (fun _ => (m481.to ⟨.inl rfl, .inl rfl, .inl rfl, .inl rfl, .inl rfl, trivial⟩)) (by kernel_rfl) (by kernel_rfl) (by kernel_rfl) (by rfl) (fun _ _ _ h => h) (fun W => y_move ha485 rfl) ?_
                  clear ha485 a485; intro a486 ha486
                  refine d_y 6 ha486 rfl rfl (fun _ => (m481.to ⟨.inl rfl, .inl rfl, .inl rfl, .inl rfl, .inl rfl, trivial⟩)) (by kernel_rfl) (by kernel_rfl) (by kernel_rfl) (by rfl) (fun _ _ _ h => h) (fun W => y_move ha486 rfl) ?_
                  clear ha486 a486; intro a487 ha487
                  refine d_y 7 ha487 rfl rfl (fun _ => (m481.to ⟨.inl rfl, .inl rfl, .inl rfl, .inl rfl, .inl rfl, trivial⟩)) (by kernel_rfl) (by kernel_rfl) (by kernel_rfl) (by rfl) (fun _ _ _ h => h) (fun W => y_idx ha487 rfl rfl Try.underlying49 sz22r (k) rfl (by rw [lsD_len]; exact hk)) ?_
                  clear ha487 a487; intro a488 ha488
                  refine d_h 8 ha488 rfl rfl (m481.to ⟨.inl rfl, .inl rfl, .inl rfl, .inl rfl, .inl rfl, trivial⟩) (by kernel_rfl) (by kernel_rfl) (by kernel_rfl) (by kernel_rfl) (by kernel_rfl) (fun _ _ _ h => h) (fun W hW => y_loadC0 ha488 hW (i := 302) rfl rfl Try.underlying22 rfl) ?_
                  clear ha488 a488; intro a489 ha489
                  refine d_y 9 ha489 rfl rfl (fun _ => (m481.to ⟨.inl rfl, .inl rfl, .inl rfl, .inl rfl, .inl rfl, trivial⟩)) (by kernel_rfl) (by kernel_rfl) (by kernel_rfl) (by rfl) (fun _ _ _ h => h) (fun W => y_build ha489 rfl zc52r fl52r rfl (by dsimp only [setL, List.set] <;> rfl)) ?_
                  clear ha489 a489; intro a490 ha490
                  refine d_two 4 10 rfl rfl (by kernel_rfl) rfl rfl (fun K hK => ?_) (fun K hK => ?_)
                  · skip
                    refine e_call ha490 Try.func15 rfl rfl rfl rfl (new_any _ bs _ (m481.nums (i := 301) rfl) hbk.1 (by omega)) ?_
                    rintro e w491 ⟨B491, u491, rfl, hBl491, hR491, hb491⟩
                    have hBN491 : w0.heap.size ≤ B491 := Nat.le_trans m481.keep.size (Nat.le_of_lt hBl491)
                    have m492 := m481.callAny 304 hb491 (Nat.le_of_lt hBl491) hR491.lt
                    clear m481
                    clear hb491 hBl491
                    refine ⟨_, rfl, fun a493 ha493 => ?_⟩; clear ha490 a490
                    refine hK _ _ (fun _ => (m492.to ⟨.inl rfl, .inl rfl, .inl rfl, .inl rfl, .inl rfl, trivial⟩)) ?_; clear hK K
                    refine d_y 11 ha493 rfl rfl (fun _ => (m492.to ⟨.inl rfl, .inl rfl, .inl rfl, .inl rfl, .inl rfl, trivial⟩)) (by kernel_rfl) (by kernel_rfl) (by kernel_rfl) (by rfl) (fun _ _ _ h => h) (fun W => y_assign ha493 rfl) ?_
                    clear ha493 a493; intro a494 ha494
                    have hblk495 := (m492.rd (i := 303) rfl).ns_out.blk
                    refine stepE_only 10 rfl (by kernel_rfl) rfl (fun K hK => ?_)
                    refine e_box ha494 m492 305 rfl rfl rfl ?_
                    clear ha494 a494 m492; intro g496 a497 w497 ha497 m497 hB497 hg497
                    rw [← hg497] at hblk495
                    have hR497 := hR491.later hB497; clear hR491
                    clear hB497 hg497
                    refine hK _ _ (m497.to ⟨.inl rfl, .inl rfl, .inl rfl, .inl rfl, .inl rfl, trivial⟩) ?_; clear hK K
                    refine d_y 12 ha497 rfl rfl (fun _ => (m497.to ⟨.inl rfl, .inl rfl, .inl rfl, .inl rfl, .inl rfl, trivial⟩)) (by kernel_rfl) (by kernel_rfl) (by kernel_rfl) (by rfl) (fun _ _ _ h => h) (fun W => y_assign ha497 rfl) ?_
                    clear ha497 a497; intro a498 ha498
                    refine wpAnyE_done (by kernel_rfl) ?_ _
                    refine hK42 _ _ ?_; clear hK42; try clear K42
                    refine wp_seq_k (fun K43 hK43 => ?_)
                    have ha499 : Has 195 [(9, _), (16, _), (17, _), (18, _)] a498 := ha498.only [9, 16, 17, 18]; clear ha498
                    refine wp_region_lit ?_
                    refine st_y ha499 rfl (y_move ha499 rfl) ?_
                    clear ha499 a498; intro a500 ha500
                    refine wpList_plain rfl (fun K hK => ?_)
                    refine e_call ha500 Try.func25 rfl rfl rfl rfl (baseRead_any _ _ bs 0 _ hR497 (by omega)) ?_
                    rintro e w501 ⟨uc501, u501, rfl, hoc501, ho501, ⟨v501, hr501⟩, hon501⟩
                    obtain ⟨pv501, cv501, hv501⟩ := reader_shape hr501; subst hv501
                    obtain ⟨puc501, cuc501, huc501⟩ := ownsRow_shape hoc501; subst huc501
                    obtain ⟨pu501, cu501, hu501⟩ := ownsRow_shape ho501; subst hu501
                    have hfo501 := fun b hb => MemOk.free_out m497 (b := b) (.inr hb)
                    have m502 := m497.only1 304 rfl hon501.keep 308 rfl
                    clear m497
                    have m503 := m502.dat 306 rfl (.ns (numsS_own hoc501 (fun b hb => free_add rfl (hfo501 b (World.ownsRow.lt hoc501 b hb).1))))
                    clear m502
                    have m504 := m503.dat 307 rfl (.ns (numsS_own ho501 (fun b hb => free_add rfl (free_add rfl (hfo501 b (World.ownsRow.lt ho501 b hb).1)))))
                    clear m503
                    have m505 := m504.shut 304 rfl hBN491 (reader_range hr501)
                    clear m504
                    clear ho501 hoc501 hr501 hon501 hfo501 hR497
                    refine ⟨_, rfl, fun a506 ha506 => ?_⟩; clear ha500 a500
                    refine hK _ _ ?_; clear hK K
                    refine st_y ha506 rfl (y_move ha506 rfl) ?_
                    clear ha506 a506; intro a507 ha507
                    refine st_y ha507 rfl (y_extract ha507 rfl rfl) ?_
                    clear ha507 a507; intro a508 ha508
                    refine st_y ha508 rfl (y_extract ha508 rfl rfl) ?_
                    clear ha508 a508; intro a509 ha509
                    refine wpList_plain rfl (fun K hK => ?_)
                    refine e_alloc ha509 m505 309 zc27r rfl ?_
                    clear ha509 a509 m505; intro g510 a511 w511 ha511 m511 hB511 hg511
                    clear hB511 hg511
                    refine hK _ _ ?_; clear hK K
                    refine wpList_plain rfl (fun K hK => ?_)
                    refine e_storeW ha511 m511 309 rfl rfl rfl rfl rfl sz27r ?_
                    clear m511; intro w512 m512 hB512
                    clear hB512
                    refine hK _ _ ?_; clear hK K
                    refine st_y ha511 rfl (y_assign ha511 rfl) ?_
                    clear ha511 a511; intro a513 ha513
                    refine wpList_nil ?_
                    refine hK43 _ _ ?_; clear hK43; try clear K43
                    refine wp_seq_k (fun K44 hK44 => ?_)
                    refine wp_region_lit ?_
                    refine st_y ha513 rfl (y_move ha513 rfl) ?_
                    clear ha513 a513; intro a514 ha514
                    refine wpList_plain rfl (fun K hK => ?_)
                    refine e_call ha514 Try.func27 rfl rfl rfl rfl (rbaseRead_any _ _ bs 0 _ (reader_of m512 (i := 305) (j := 303) rfl rfl hblk495 hbk.1) (by omega)) ?_
                    rintro e w515 ⟨uc515, u515, he515, hoc515, hnl515, ⟨v515, hr515, hsb515⟩, hon515, hsu515⟩
                    rw [(base_67 bs 0).1, (base_67 bs 0).2.1] at he515
                    rw [(base_67 bs 0).2.1] at hoc515 hnl515
                    subst he515
                    obtain ⟨pv515, cv515, hv515⟩ := reader_shape hr515; subst hv515
                    obtain ⟨puc515, cuc515, huc515⟩ := ownsRow_shape hoc515; subst huc515
                    have hlt515 := hr515.lt
                    have hgN515 := (MemOk.box_new m512 (i := 305) rfl)
                    have hS515 := (m512.rd (i := 303) rfl).ns_out
                    have m516 := m512.hide 305 rfl
                    clear m512
                    have hS515 := hS515.mono (Nat.le_refl _) (fun b hb hF => ⟨rfl, free_any (i := 305) rfl hF⟩)
                    have hfo515 := fun b hb => MemOk.free_out m516 (b := b) (.inr hb)
                    have m517 := m516.only1 305 rfl hon515.keep 312 rfl
                    clear m516
                    have m518 := m517.dat 310 rfl (.ns (numsS_own hoc515 (fun b hb => free_add rfl (hfo515 b (World.ownsRow.lt hoc515 b hb).1))))
                    clear m517
                    have m519 := m518.shut 305 rfl hgN515 (reader_range hr515)
                    clear m518
                    obtain ⟨pu515, cu515, hu515, hcu515⟩ := numsLt_shape hnl515
                    subst hu515
                    have m520 := m519.dat 311 rfl (.ns ((NumsS.of hS515 (hnl515.nums (Nat.le_of_lt hlt515)) (numsLt_cap hnl515) hsu515 (fun h => by have := baseRV_len bs 0; omega)).mono (Nat.le_refl _) (fun b _ hF => ⟨rfl, free_add rfl (free_add rfl (free_add rfl hF))⟩)))
                    clear m519
                    clear hS515 hr515 hsb515 hon515 hsu515 hnl515 hoc515 hfo515 hblk495
                    refine ⟨_, rfl, fun a521 ha521 => ?_⟩; clear ha514 a514
                    refine hK _ _ ?_; clear hK K
                    refine st_y ha521 rfl (y_move ha521 rfl) ?_
                    clear ha521 a521; intro a522 ha522
                    refine st_y ha522 rfl (y_extract ha522 rfl rfl) ?_
                    clear ha522 a522; intro a523 ha523
                    refine st_y ha523 rfl (y_extract ha523 rfl rfl) ?_
                    clear ha523 a523; intro a524 ha524
                    refine wpList_plain rfl (fun K hK => ?_)
                    refine e_alloc ha524 m520 313 zc27r rfl ?_
                    clear ha524 a524 m520; intro g525 a526 w526 ha526 m526 hB526 hg526
                    clear hB526 hg526
                    refine hK _ _ ?_; clear hK K
                    refine wpList_plain rfl (fun K hK => ?_)
                    refine e_storeW ha526 m526 313 rfl rfl rfl rfl rfl sz27r ?_
                    clear m526; intro w527 m527 hB527
                    clear hB527
                    refine hK _ _ ?_; clear hK K
                    refine st_y ha526 rfl (y_assign ha526 rfl) ?_
                    clear ha526 a526; intro a528 ha528
                    refine wpList_nil ?_
                    refine hK44 _ _ ?_; clear hK44; try clear K44
                    refine wp_seq_k (fun K45 hK45 => ?_)
                    have ha529 : Has 195 [(9, _), (16, _), (17, _), (18, _), (23, _), (24, _), (25, _), (26, _)] a528 := ha528.only [9, 16, 17, 18, 23, 24, 25, 26]; clear ha528
                    have m530 : MemOk _ _ [(3, _), (300, _), (301, _), (302, _), (303, _), (304, _), (305, _), (306, _), (307, _), (309, _), (310, _), (311, _), (313, _)] _ := m527.only [3, 300, 301, 302, 303, 304, 305, 306, 307, 309, 310, 311, 313]; clear m527
                    refine region_m 22 (B := [(3, _), (300, _), (301, _), (302, _), (303, _), (304, _), (305, _), (306, _), (307, _), (309, _), (310, _), (311, _), (313, _)]) (m530.to ⟨.inl rfl, .inl rfl, .inl rfl, .inl rfl, .inl rfl, .inl rfl, .inl rfl, .inl rfl, .inl rfl, .inl rfl, .inl rfl, .inl rfl, .inl rfl, trivial⟩) m530 (by kernel_rfl) (fun w531 mB531 m531 => ?_); clear m530 mB531
                    refine d_y 0 ha529 rfl rfl (fun _ => (m531.to ⟨.inl rfl, .inl rfl, .inl rfl, .inl rfl, .inl rfl, .inl rfl, .inl rfl, .inl rfl, .inl rfl, .inl rfl, .inl rfl, .inl rfl, .inl rfl, trivial⟩)) (by kernel_rfl) (by kernel_rfl) (by kernel_rfl) (by rfl) (fun _ _ _ h => h) (fun W => y_move ha529 rfl) ?_
                    clear ha529 a528; intro a532 ha532
                    refine d_y 1 ha532 rfl rfl (fun _ => (m531.to ⟨.inl rfl, .inl rfl, .inl rfl, .inl rfl, .inl rfl, .inl rfl, .inl rfl, .inl rfl, .inl rfl, .inl rfl, .inl rfl, .inl rfl, .inl rfl, trivial⟩)) (by kernel_rfl) (by kernel_rfl) (by kernel_rfl) (by rfl) (fun _ _ _ h => h) (fun W => y_move ha532 rfl) ?_
                    clear ha532 a532; intro a533 ha533
                    refine d_y 2 ha533 rfl rfl (fun _ => (m531.to ⟨.inl rfl, .inl rfl, .inl rfl, .inl rfl, .inl rfl, .inl rfl, .inl rfl, .inl rfl, .inl rfl, .inl rfl, .inl rfl, .inl rfl, .inl rfl, trivial⟩)) (by kernel_rfl) (by kernel_rfl) (by kernel_rfl) (by rfl) (fun _ _ _ h => h) (fun W => y_neqB ha533 rfl rfl Try.underlying4) ?_
                    clear ha533 a533; intro a534 ha534
                    refine d_y 3 ha534 rfl rfl (fun _ => (m531.to ⟨.inl rfl, .inl rfl, .inl rfl, .inl rfl, .inl rfl, .inl rfl, .inl rfl, .inl rfl, .inl rfl, .inl rfl, .inl rfl, .inl rfl, .inl rfl, trivial⟩)) (by kernel_rfl) (by kernel_rfl) (by kernel_rfl) (by rfl) (fun _ _ _ h => h) (fun W => y_move ha534 rfl) ?_
                    clear ha534 a534; intro a535 ha535
                    refine bool_cases ha535 (t := 176) rfl (fun hb536 ha536 => ?_) (fun hb536 ha536 => ?_)
                    · exact absurd hb536 (by simp)
                    clear ha535 hb536
                    refine d_hg 4 ha536 rfl rfl rfl rfl rfl (m531.to ⟨.inl rfl, .inl rfl, .inl rfl, .inl rfl, .inl rfl, .inl rfl, .inl rfl, .inl rfl, .inl rfl, .inl rfl, .inl rfl, .inl rfl, .inl rfl, trivial⟩) (by kernel_rfl) (by kernel_rfl) (by kernel_rfl) (by kernel_rfl) (by kernel_rfl) (fun _ _ _ h => h) (fun W hW => y_loadBR ha536 hW (i := 309) rfl rfl Try.underlying27 rfl sz27r (by simp) (by dsimp only [List.drop, List.take] <;> rfl)) ?_
                    clear ha536 a535; intro a537 ha537
                    refine d_hg 5 ha537 rfl rfl rfl rfl rfl (m531.to ⟨.inl rfl, .inl rfl, .inl rfl, .inl rfl, .inl rfl, .inl rfl, .inl rfl, .inl rfl, .inl rfl, .inl rfl, .inl rfl, .inl rfl, .inl rfl, trivial⟩) (by kernel_rfl) (by kernel_rfl) (by kernel_rfl) (by kernel_rfl) (by kernel_rfl) (fun _ _ _ h => h) (fun W hW => y_loadBR ha537 hW (i := 313) rfl rfl Try.underlying27 rfl sz27r (by simp) (by dsimp only [List.drop, List.take] <;> rfl)) ?_
                    clear ha537 a537; intro a538 ha538
                    refine stepE_only 6 rfl (by kernel_rfl) (wantedG ha538 rfl rfl rfl rfl) (fun K hK => ?_)
                    refine e_call ha538 Try.func24 rfl rfl rfl rfl (rbaseSame_any _ _ _ _ _ _ _ _ _ _ _ _ _ (m531.nums (i := 306) rfl) (m531.nums (i := 310) rfl) (m531.nums (i := 307) rfl) (m531.nums (i := 311) rfl) (baseRV_ok bs 0 hbk.1) (baseRV_ok bs 0 hbk.1) (baseRV_cf bs 0)) ?_
                    rintro e w539 ⟨rfl, hb539⟩
                    have m540 := m531.later hb539
                    clear m531
                    clear hb539
                    refine ⟨_, rfl, fun a541 ha541 => ?_⟩; clear ha538 a538
                    refine hK _ _ (m540.to ⟨.inl rfl, .inl rfl, .inl rfl, .inl rfl, .inl rfl, .inl rfl, .inl rfl, .inl rfl, .inl rfl, .inl rfl, .inl rfl, .inl rfl, .inl rfl, trivial⟩) ?_; clear hK K
                    refine d_yg 7 ha541 rfl rfl rfl rfl rfl (fun _ => (m540.to ⟨.inl rfl, .inl rfl, .inl rfl, .inl rfl, .inl rfl, .inl rfl, .inl rfl, .inl rfl, .inl rfl, .inl rfl, .inl rfl, .inl rfl, .inl rfl, trivial⟩)) (by kernel_rfl) (by kernel_rfl) (by kernel_rfl) (by rfl) (fun _ _ _ h => h) (fun W => y_not ha541 rfl) ?_
                    clear ha541 a541; intro a542 ha542
                    refine d_y 8 ha542 rfl rfl (fun _ => (m540.to ⟨.inl rfl, .inl rfl, .inl rfl, .inl rfl, .inl rfl, .inl rfl, .inl rfl, .inl rfl, .inl rfl, .inl rfl, .inl rfl, .inl rfl, .inl rfl, trivial⟩)) (by kernel_rfl) (by kernel_rfl) (by kernel_rfl) (by rfl) (fun _ _ _ h => h) (fun W => y_pickF ha542 rfl rfl) ?_
                    clear ha542 a542; intro a543 ha543
                    refine d_y 9 ha543 rfl rfl (fun _ => (m540.to ⟨.inl rfl, .inl rfl, .inl rfl, .inl rfl, .inl rfl, .inl rfl, .inl rfl, .inl rfl, .inl rfl, .inl rfl, .inl rfl, .inl rfl, .inl rfl, trivial⟩)) (by kernel_rfl) (by kernel_rfl) (by kernel_rfl) (by rfl) (fun _ _ _ h => h) (fun W => y_move ha543 rfl) ?_
                    clear ha543 a543; intro a544 ha544
                    refine bool_cases ha544 (t := 182) rfl (fun hb545 ha545 => ?_) (fun hb545 ha545 => ?_)
                    · exact absurd hb545 (by simp)
                    clear ha544 hb545
                    refine d_yg 10 ha545 rfl rfl rfl rfl rfl (fun _ => (m540.to ⟨.inl rfl, .inl rfl, .inl rfl, .inl rfl, .inl rfl, .inl rfl, .inl rfl, .inl rfl, .inl rfl, .inl rfl, .inl rfl, .inl rfl, .inl rfl, trivial⟩)) (by kernel_rfl) (by kernel_rfl) (by kernel_rfl) (by rfl) (fun _ _ _ h => h) (fun W => y_move ha545 rfl) ?_
                    clear ha545 a544; intro a546 ha546
                    refine d_yg 11 ha546 rfl rfl rfl rfl rfl (fun _ => (m540.to ⟨.inl rfl, .inl rfl, .inl rfl, .inl rfl, .inl rfl, .inl rfl, .inl rfl, .inl rfl, .inl rfl, .inl rfl, .inl rfl, .inl rfl, .inl rfl, trivial⟩)) (by kernel_rfl) (by kernel_rfl) (by kernel_rfl) (by rfl) (fun _ _ _ h => h) (fun W => y_move ha546 rfl) ?_
                    clear ha546 a546; intro a547 ha547
                    refine bool_cases ha547 (t := 184) rfl (fun hb548 ha548 => ?_) (fun hb548 ha548 => ?_)
                    · skip
                      clear ha547
                      try simp only [decide_eq_true_eq, decide_eq_false_iff_not, Bool.not_eq_true, Bool.not_eq_false, Bool.not_eq_eq_eq_not, Bool.not_true, Bool.not_false, Bool.not_not, Int.not_lt, Int.not_le, ne_eq, Decidable.not_not] at hb548
                      refine d_yg 12 ha548 rfl rfl rfl rfl rfl (fun _ => (m540.to ⟨.inl rfl, .inl rfl, .inl rfl, .inl rfl, .inl rfl, .inl rfl, .inl rfl, .inl rfl, .inl rfl, .inl rfl, .inl rfl, .inl rfl, .inl rfl, trivial⟩)) (by kernel_rfl) (by kernel_rfl) (by kernel_rfl) (by rfl) (fun _ _ _ h => h) (fun W => y_move ha548 rfl) ?_
                      clear ha548 a547; intro a549 ha549
                      refine d_yg 14 ha549 rfl rfl rfl rfl rfl (fun _ => (m540.to ⟨.inl rfl, .inl rfl, .inl rfl, .inl rfl, .inl rfl, .inl rfl, .inl rfl, .inl rfl, .inl rfl, .inl rfl, .inl rfl, .inl rfl, .inl rfl, trivial⟩)) (by kernel_rfl) (by kernel_rfl) (by kernel_rfl) (by rfl) (fun _ _ _ h => h) (fun W => y_move ha549 rfl) ?_
                      clear ha549 a549; intro a550 ha550
                      refine d_yg 15 ha550 rfl rfl rfl rfl rfl (fun _ => (m540.to ⟨.inl rfl, .inl rfl, .inl rfl, .inl rfl, .inl rfl, .inl rfl, .inl rfl, .inl rfl, .inl rfl, .inl rfl, .inl rfl, .inl rfl, .inl rfl, trivial⟩)) (by kernel_rfl) (by kernel_rfl) (by kernel_rfl) (by rfl) (fun _ _ _ h => h) (fun W => y_nilCheck ha550 rfl) ?_
                      clear ha550 a550; intro a551 ha551
                      refine d_yg 16 ha551 rfl rfl rfl rfl rfl (fun _ => (m540.to ⟨.inl rfl, .inl rfl, .inl rfl, .inl rfl, .inl rfl, .inl rfl, .inl rfl, .inl rfl, .inl rfl, .inl rfl, .inl rfl, .inl rfl, .inl rfl, trivial⟩)) (by kernel_rfl) (by kernel_rfl) (by kernel_rfl) (by rfl) (fun _ _ _ h => h) (fun W => y_fieldAddrQ ha551 0 rfl Try.underlying52 rfl (s := 0) (by kernel_rfl) rfl) ?_
                      clear ha551 a551; intro a552 ha552
                      refine d_hg 17 ha552 rfl rfl rfl rfl rfl (m540.to ⟨.inl rfl, .inl rfl, .inl rfl, .inl rfl, .inl rfl, .inl rfl, .inl rfl, .inl rfl, .inl rfl, .inl rfl, .inl rfl, .inl rfl, .inl rfl, trivial⟩) (by kernel_rfl) (by kernel_rfl) (by kernel_rfl) (by kernel_rfl) (by kernel_rfl) (fun _ _ _ h => h) (fun W hW => y_loadC0 ha552 hW (i := 305) rfl rfl Try.underlying22 rfl) ?_
                      clear ha552 a552; intro a553 ha553
                      refine d_yg 18 ha553 rfl rfl rfl rfl rfl (fun _ => (m540.to ⟨.inl rfl, .inl rfl, .inl rfl, .inl rfl, .inl rfl, .inl rfl, .inl rfl, .inl rfl, .inl rfl, .inl rfl, .inl rfl, .inl rfl, .inl rfl, trivial⟩)) (by kernel_rfl) (by kernel_rfl) (by kernel_rfl) (by rfl) (fun _ _ _ h => h) (fun W => y_len ha553 rfl Try.underlying22) ?_
                      clear ha553 a553; intro a554 ha554
                      refine stepE_only 13 rfl (by kernel_rfl) (wantedG ha554 rfl rfl rfl rfl) (fun K hK => ?_)
                      refine e_call ha554 Try.func17 rfl rfl rfl rfl (left_cel _ _ _ _ _ ((m540.ok 304 _ rfl : Res.ok _ _ _ _ (.cel _ _ _)).2.2 0 _ rfl)) ?_
                      rintro e w555 ⟨rfl, hb555⟩
                      subst hb555
                      have m556 := m540
                      clear m540
                      refine ⟨_, rfl, fun a557 ha557 => ?_⟩; clear ha554 a554
                      refine hK _ _ (m556.to ⟨.inl rfl, .inl rfl, .inl rfl, .inl rfl, .inl rfl, .inl rfl, .inl rfl, .inl rfl, .inl rfl, .inl rfl, .inl rfl, .inl rfl, .inl rfl, trivial⟩) ?_; clear hK K
                      refine d_yg 19 ha557 rfl rfl rfl rfl rfl (fun _ => (m556.to ⟨.inl rfl, .inl rfl, .inl rfl, .inl rfl, .inl rfl, .inl rfl, .inl rfl, .inl rfl, .inl rfl, .inl rfl, .inl rfl, .inl rfl, .inl rfl, trivial⟩)) (by kernel_rfl) (by kernel_rfl) (by kernel_rfl) (by rfl) (fun _ _ _ h => h) (fun W => y_neq ha557 rfl rfl) ?_
                      clear ha557 a557; intro a558 ha558
                      refine d_yg 20 ha558 rfl rfl rfl rfl rfl (fun _ => (m556.to ⟨.inl rfl, .inl rfl, .inl rfl, .inl rfl, .inl rfl, .inl rfl, .inl rfl, .inl rfl, .inl rfl, .inl rfl, .inl rfl, .inl rfl, .inl rfl, trivial⟩)) (by kernel_rfl) (by kernel_rfl) (by kernel_rfl) (by rfl) (fun _ _ _ h => h) (fun W => y_pickT ha558 rfl rfl) ?_
                      clear ha558 a558; intro a559 ha559
                      refine d_y 21 ha559 rfl rfl (fun _ => (m556.to ⟨.inl rfl, .inl rfl, .inl rfl, .inl rfl, .inl rfl, .inl rfl, .inl rfl, .inl rfl, .inl rfl, .inl rfl, .inl rfl, .inl rfl, .inl rfl, trivial⟩)) (by kernel_rfl) (by kernel_rfl) (by kernel_rfl) (by rfl) (fun _ _ _ h => h) (fun W => y_pickF ha559 rfl rfl) ?_
                      clear ha559 a559; intro a560 ha560
                      refine wpAnyE_done (by kernel_rfl) ?_ _
                      refine hK45 _ _ ?_; clear hK45; try clear K45
                      refine bool_cases ha560 (t := 194) rfl (fun hb561 ha561 => ?_) (fun hb561 ha561 => ?_)
                      · exact absurd hb561 (by have h9 := (base_67 bs 0).2.2 hb548; simp [h9])
                      clear ha560 hb561
                      refine wp_cond_false (ha561.ev (x := .tmp 194) rfl) ?_
                      refine wp_skip ?_
                      refine hK26 _ _ ?_; clear hK26; try clear K26
                      have ha562 : Has 195 [(9, _), (16, _)] a560 := ha561.only [9, 16]; clear ha561
                      refine wp_region_lit ?_
                      refine st_y ha562 rfl (y_move ha562 rfl) ?_
                      clear ha562 a560; intro a563 ha563
                      refine st_y ha563 rfl (y_add ha563 rfl rfl (r := ((k + 1 : Nat) : Int)) (by rw [IntWalk.i64_in _ (by omega)]; omega)) ?_
                      clear ha563 a563; intro a564 ha564
                      refine st_y ha564 rfl (y_assign ha564 rfl) ?_
                      clear ha564 a564; intro a565 ha565
                      refine wpList_nil ?_
                      show ∃ n', n' < _ ∧ _
                      exact ⟨A.length - (k + 1), by omega, k + 1, _, _, by omega, rfl, ha565.only [9, 16], m556.only [3]⟩
                    · skip
                      clear ha547
                      try simp only [decide_eq_true_eq, decide_eq_false_iff_not, Bool.not_eq_true, Bool.not_eq_false, Bool.not_eq_eq_eq_not, Bool.not_true, Bool.not_false, Bool.not_not, Int.not_lt, Int.not_le, ne_eq, Decidable.not_not] at hb548
                      refine d_skip 12 ha548 rfl rfl rfl rfl rfl (fun _ => (m540.to ⟨.inl rfl, .inl rfl, .inl rfl, .inl rfl, .inl rfl, .inl rfl, .inl rfl, .inl rfl, .inl rfl, .inl rfl, .inl rfl, .inl rfl, .inl rfl, trivial⟩)) (by kernel_rfl) (by kernel_rfl) (by kernel_rfl) (by rfl) (fun _ _ _ h => h) ?_
                      clear ha548 a547; intro a566 ha566
                      refine d_skip 13 ha566 rfl rfl rfl rfl rfl (fun _ => (m540.to ⟨.inl rfl, .inl rfl, .inl rfl, .inl rfl, .inl rfl, .inl rfl, .inl rfl, .inl rfl, .inl rfl, .inl rfl, .inl rfl, .inl rfl, .inl rfl, trivial⟩)) (by kernel_rfl) (by kernel_rfl) (by kernel_rfl) (by rfl) (fun _ _ _ h => h) ?_
                      clear ha566 a566; intro a567 ha567
                      refine d_skip 14 ha567 rfl rfl rfl rfl rfl (fun _ => (m540.to ⟨.inl rfl, .inl rfl, .inl rfl, .inl rfl, .inl rfl, .inl rfl, .inl rfl, .inl rfl, .inl rfl, .inl rfl, .inl rfl, .inl rfl, .inl rfl, trivial⟩)) (by kernel_rfl) (by kernel_rfl) (by kernel_rfl) (by rfl) (fun _ _ _ h => h) ?_
                      clear ha567 a567; intro a568 ha568
                      refine d_skip 15 ha568 rfl rfl rfl rfl rfl (fun _ => (m540.to ⟨.inl rfl, .inl rfl, .inl rfl, .inl rfl, .inl rfl, .inl rfl, .inl rfl, .inl rfl, .inl rfl, .inl rfl, .inl rfl, .inl rfl, .inl rfl, trivial⟩)) (by kernel_rfl) (by kernel_rfl) (by kernel_rfl) (by rfl) (fun _ _ _ h => h) ?_
                      clear ha568 a568; intro a569 ha569
                      refine d_skip 16 ha569 rfl rfl rfl rfl rfl (fun _ => (m540.to ⟨.inl rfl, .inl rfl, .inl rfl, .inl rfl, .inl rfl, .inl rfl, .inl rfl, .inl rfl, .inl rfl, .inl rfl, .inl rfl, .inl rfl, .inl rfl, trivial⟩)) (by kernel_rfl) (by kernel_rfl) (by kernel_rfl) (by rfl) (fun _ _ _ h => h) ?_
                      clear ha569 a569; intro a570 ha570
                      refine d_skip 17 ha570 rfl rfl rfl rfl rfl (fun _ => (m540.to ⟨.inl rfl, .inl rfl, .inl rfl, .inl rfl, .inl rfl, .inl rfl, .inl rfl, .inl rfl, .inl rfl, .inl rfl, .inl rfl, .inl rfl, .inl rfl, trivial⟩)) (by kernel_rfl) (by kernel_rfl) (by kernel_rfl) (by rfl) (fun _ _ _ h => h) ?_
                      clear ha570 a570; intro a571 ha571
                      refine d_skip 18 ha571 rfl rfl rfl rfl rfl (fun _ => (m540.to ⟨.inl rfl, .inl rfl, .inl rfl, .inl rfl, .inl rfl, .inl rfl, .inl rfl, .inl rfl, .inl rfl, .inl rfl, .inl rfl, .inl rfl, .inl rfl, trivial⟩)) (by kernel_rfl) (by kernel_rfl) (by kernel_rfl) (by rfl) (fun _ _ _ h => h) ?_
                      clear ha571 a571; intro a572 ha572
                      refine d_skip 19 ha572 rfl rfl rfl rfl rfl (fun _ => (m540.to ⟨.inl rfl, .inl rfl, .inl rfl, .inl rfl, .inl rfl, .inl rfl, .inl rfl, .inl rfl, .inl rfl, .inl rfl, .inl rfl, .inl rfl, .inl rfl, trivial⟩)) (by kernel_rfl) (by kernel_rfl) (by kernel_rfl) (by rfl) (fun _ _ _ h => h) ?_
                      clear ha572 a572; intro a573 ha573
                      refine d_yg 20 ha573 rfl rfl rfl rfl rfl (fun _ => (m540.to ⟨.inl rfl, .inl rfl, .inl rfl, .inl rfl, .inl rfl, .inl rfl, .inl rfl, .inl rfl, .inl rfl, .inl rfl, .inl rfl, .inl rfl, .inl rfl, trivial⟩)) (by kernel_rfl) (by kernel_rfl) (by kernel_rfl) (by rfl) (fun _ _ _ h => h) (fun W => y_pickF ha573 rfl rfl) ?_
                      clear ha573 a573; intro a574 ha574
                      refine d_y 21 ha574 rfl rfl (fun _ => (m540.to ⟨.inl rfl, .inl rfl, .inl rfl, .inl rfl, .inl rfl, .inl rfl, .inl rfl, .inl rfl, .inl rfl, .inl rfl, .inl rfl, .inl rfl, .inl rfl, trivial⟩)) (by kernel_rfl) (by kernel_rfl) (by kernel_rfl) (by rfl) (fun _ _ _ h => h) (fun W => y_pickF ha574 rfl rfl) ?_
                      clear ha574 a574; intro a575 ha575
                      refine wpAnyE_done (by kernel_rfl) ?_ _
                      refine hK45 _ _ ?_; clear hK45; try clear K45
                      refine wp_cond_false (ha575.ev (x := .tmp 194) rfl) ?_
                      refine wp_skip ?_
                      refine hK26 _ _ ?_; clear hK26; try clear K26
                      have ha576 : Has 195 [(9, _), (16, _)] a575 := ha575.only [9, 16]; clear ha575
                      refine wp_region_lit ?_
                      refine st_y ha576 rfl (y_move ha576 rfl) ?_
                      clear ha576 a575; intro a577 ha577
                      refine st_y ha577 rfl (y_add ha577 rfl rfl (r := ((k + 1 : Nat) : Int)) (by rw [IntWalk.i64_in _ (by omega)]; omega)) ?_
                      clear ha577 a577; intro a578 ha578
                      refine st_y ha578 rfl (y_assign ha578 rfl) ?_
                      clear ha578 a578; intro a579 ha579
                      refine wpList_nil ?_
                      show ∃ n', n' < _ ∧ _
                      exact ⟨A.length - (k + 1), by omega, k + 1, _, _, by omega, rfl, ha579.only [9, 16], m540.only [3]⟩
                  · skip
                    have hblk580 := (m481.rd (i := 303) rfl).ns_out.blk
                    refine e_box ha490 m481 304 rfl rfl rfl ?_
                    clear ha490 a490 m481; intro g581 a582 w582 ha582 m582 hB582 hg582
                    rw [← hg582] at hblk580
                    clear hB582 hg582
                    refine hK _ _ (fun _ => (m582.to ⟨.inl rfl, .inl rfl, .inl rfl, .inl rfl, .inl rfl, trivial⟩)) ?_; clear hK K
                    refine stepE_only 4 rfl (by kernel_rfl) rfl (fun K hK => ?_)
                    refine e_call ha582 Try.func15 rfl rfl rfl rfl (new_any _ bs _ (m582.nums (i := 301) rfl) hbk.1 (by omega)) ?_
                    rintro e w583 ⟨B583, u583, rfl, hBl583, hR583, hb583⟩
                    have hBN583 : w0.heap.size ≤ B583 := Nat.le_trans m582.keep.size (Nat.le_of_lt hBl583)
                    have m584 := m582.callAny 305 hb583 (Nat.le_of_lt hBl583) hR583.lt
                    clear m582
                    clear hb583 hBl583
                    refine ⟨_, rfl, fun a585 ha585 => ?_⟩; clear ha582 a582
                    refine hK _ _ (m584.to ⟨.inl rfl, .inl rfl, .inl rfl, .inl rfl, .inl rfl, trivial⟩) ?_; clear hK K
                    refine d_y 11 ha585 rfl rfl (fun _ => (m584.to ⟨.inl rfl, .inl rfl, .inl rfl, .inl rfl, .inl rfl, trivial⟩)) (by kernel_rfl) (by kernel_rfl) (by kernel_rfl) (by rfl) (fun _ _ _ h => h) (fun W => y_assign ha585 rfl) ?_
                    clear ha585 a585; intro a586 ha586
                    refine d_y 12 ha586 rfl rfl (fun _ => (m584.to ⟨.inl rfl, .inl rfl, .inl rfl, .inl rfl, .inl rfl, trivial⟩)) (by kernel_rfl) (by kernel_rfl) (by kernel_rfl) (by rfl) (fun _ _ _ h => h) (fun W => y_assign ha586 rfl) ?_
                    clear ha586 a586; intro a587 ha587
                    refine wpAnyE_done (by kernel_rfl) ?_ _
                    refine hK42 _ _ ?_; clear hK42; try clear K42
                    refine wp_seq_k (fun K46 hK46 => ?_)
                    have ha588 : Has 195 [(9, _), (16, _), (17, _), (18, _)] a587 := ha587.only [9, 16, 17, 18]; clear ha587
                    refine wp_region_lit ?_
                    refine st_y ha588 rfl (y_move ha588 rfl) ?_
                    clear ha588 a587; intro a589 ha589
                    refine wpList_plain rfl (fun K hK => ?_)
                    refine e_call ha589 Try.func25 rfl rfl rfl rfl (baseRead_any _ _ bs 0 _ hR583 (by omega)) ?_
                    rintro e w590 ⟨uc590, u590, rfl, hoc590, ho590, ⟨v590, hr590⟩, hon590⟩
                    obtain ⟨pv590, cv590, hv590⟩ := reader_shape hr590; subst hv590
                    obtain ⟨puc590, cuc590, huc590⟩ := ownsRow_shape hoc590; subst huc590
                    obtain ⟨pu590, cu590, hu590⟩ := ownsRow_shape ho590; subst hu590
                    have hfo590 := fun b hb => MemOk.free_out m584 (b := b) (.inr hb)
                    have m591 := m584.only1 305 rfl hon590.keep 308 rfl
                    clear m584
                    have m592 := m591.dat 306 rfl (.ns (numsS_own hoc590 (fun b hb => free_add rfl (hfo590 b (World.ownsRow.lt hoc590 b hb).1))))
                    clear m591
                    have m593 := m592.dat 307 rfl (.ns (numsS_own ho590 (fun b hb => free_add rfl (free_add rfl (hfo590 b (World.ownsRow.lt ho590 b hb).1)))))
                    clear m592
                    have m594 := m593.shut 305 rfl hBN583 (reader_range hr590)
                    clear m593
                    clear ho590 hoc590 hr590 hon590 hfo590 hR583
                    refine ⟨_, rfl, fun a595 ha595 => ?_⟩; clear ha589 a589
                    refine hK _ _ ?_; clear hK K
                    refine st_y ha595 rfl (y_move ha595 rfl) ?_
                    clear ha595 a595; intro a596 ha596
                    refine st_y ha596 rfl (y_extract ha596 rfl rfl) ?_
                    clear ha596 a596; intro a597 ha597
                    refine st_y ha597 rfl (y_extract ha597 rfl rfl) ?_
                    clear ha597 a597; intro a598 ha598
                    refine wpList_plain rfl (fun K hK => ?_)
                    refine e_alloc ha598 m594 309 zc27r rfl ?_
                    clear ha598 a598 m594; intro g599 a600 w600 ha600 m600 hB600 hg600
                    clear hB600 hg600
                    refine hK _ _ ?_; clear hK K
                    refine wpList_plain rfl (fun K hK => ?_)
                    refine e_storeW ha600 m600 309 rfl rfl rfl rfl rfl sz27r ?_
                    clear m600; intro w601 m601 hB601
                    clear hB601
                    refine hK _ _ ?_; clear hK K
                    refine st_y ha600 rfl (y_assign ha600 rfl) ?_
                    clear ha600 a600; intro a602 ha602
                    refine wpList_nil ?_
                    refine hK46 _ _ ?_; clear hK46; try clear K46
                    refine wp_seq_k (fun K47 hK47 => ?_)
                    refine wp_region_lit ?_
                    refine st_y ha602 rfl (y_move ha602 rfl) ?_
                    clear ha602 a602; intro a603 ha603
                    refine wpList_plain rfl (fun K hK => ?_)
                    refine e_call ha603 Try.func27 rfl rfl rfl rfl (rbaseRead_any _ _ bs 0 _ (reader_of m601 (i := 304) (j := 303) rfl rfl hblk580 hbk.1) (by omega)) ?_
                    rintro e w604 ⟨uc604, u604, he604, hoc604, hnl604, ⟨v604, hr604, hsb604⟩, hon604, hsu604⟩
                    rw [(base_67 bs 0).1, (base_67 bs 0).2.1] at he604
                    rw [(base_67 bs 0).2.1] at hoc604 hnl604
                    subst he604
                    obtain ⟨pv604, cv604, hv604⟩ := reader_shape hr604; subst hv604
                    obtain ⟨puc604, cuc604, huc604⟩ := ownsRow_shape hoc604; subst huc604
                    have hlt604 := hr604.lt
                    have hgN604 := (MemOk.box_new m601 (i := 304) rfl)
                    have hS604 := (m601.rd (i := 303) rfl).ns_out
                    have m605 := m601.hide 304 rfl
                    clear m601
                    have hS604 := hS604.mono (Nat.le_refl _) (fun b hb hF => ⟨rfl, free_any (i := 304) rfl hF⟩)
                    have hfo604 := fun b hb => MemOk.free_out m605 (b := b) (.inr hb)
                    have m606 := m605.only1 304 rfl hon604.keep 312 rfl
                    clear m605
                    have m607 := m606.dat 310 rfl (.ns (numsS_own hoc604 (fun b hb => free_add rfl (hfo604 b (World.ownsRow.lt hoc604 b hb).1))))
                    clear m606
                    have m608 := m607.shut 304 rfl hgN604 (reader_range hr604)
                    clear m607
                    obtain ⟨pu604, cu604, hu604, hcu604⟩ := numsLt_shape hnl604
                    subst hu604
                    have m609 := m608.dat 311 rfl (.ns ((NumsS.of hS604 (hnl604.nums (Nat.le_of_lt hlt604)) (numsLt_cap hnl604) hsu604 (fun h => by have := baseRV_len bs 0; omega)).mono (Nat.le_refl _) (fun b _ hF => ⟨rfl, free_add rfl (free_add rfl (free_add rfl hF))⟩)))
                    clear m608
                    clear hS604 hr604 hsb604 hon604 hsu604 hnl604 hoc604 hfo604 hblk580
                    refine ⟨_, rfl, fun a610 ha610 => ?_⟩; clear ha603 a603
                    refine hK _ _ ?_; clear hK K
                    refine st_y ha610 rfl (y_move ha610 rfl) ?_
                    clear ha610 a610; intro a611 ha611
                    refine st_y ha611 rfl (y_extract ha611 rfl rfl) ?_
                    clear ha611 a611; intro a612 ha612
                    refine st_y ha612 rfl (y_extract ha612 rfl rfl) ?_
                    clear ha612 a612; intro a613 ha613
                    refine wpList_plain rfl (fun K hK => ?_)
                    refine e_alloc ha613 m609 313 zc27r rfl ?_
                    clear ha613 a613 m609; intro g614 a615 w615 ha615 m615 hB615 hg615
                    clear hB615 hg615
                    refine hK _ _ ?_; clear hK K
                    refine wpList_plain rfl (fun K hK => ?_)
                    refine e_storeW ha615 m615 313 rfl rfl rfl rfl rfl sz27r ?_
                    clear m615; intro w616 m616 hB616
                    clear hB616
                    refine hK _ _ ?_; clear hK K
                    refine st_y ha615 rfl (y_assign ha615 rfl) ?_
                    clear ha615 a615; intro a617 ha617
                    refine wpList_nil ?_
                    refine hK47 _ _ ?_; clear hK47; try clear K47
                    refine wp_seq_k (fun K48 hK48 => ?_)
                    have ha618 : Has 195 [(9, _), (16, _), (17, _), (18, _), (23, _), (24, _), (25, _), (26, _)] a617 := ha617.only [9, 16, 17, 18, 23, 24, 25, 26]; clear ha617
                    have m619 : MemOk _ _ [(3, _), (300, _), (301, _), (302, _), (303, _), (304, _), (305, _), (306, _), (307, _), (309, _), (310, _), (311, _), (313, _)] _ := m616.only [3, 300, 301, 302, 303, 304, 305, 306, 307, 309, 310, 311, 313]; clear m616
                    refine region_m 22 (B := [(3, _), (300, _), (301, _), (302, _), (303, _), (304, _), (305, _), (306, _), (307, _), (309, _), (310, _), (311, _), (313, _)]) (m619.to ⟨.inl rfl, .inl rfl, .inl rfl, .inl rfl, .inl rfl, .inl rfl, .inl rfl, .inl rfl, .inl rfl, .inl rfl, .inl rfl, .inl rfl, .inl rfl, trivial⟩) m619 (by kernel_rfl) (fun w620 mB620 m620 => ?_); clear m619 mB620
                    refine d_y 0 ha618 rfl rfl (fun _ => (m620.to ⟨.inl rfl, .inl rfl, .inl rfl, .inl rfl, .inl rfl, .inl rfl, .inl rfl, .inl rfl, .inl rfl, .inl rfl, .inl rfl, .inl rfl, .inl rfl, trivial⟩)) (by kernel_rfl) (by kernel_rfl) (by kernel_rfl) (by rfl) (fun _ _ _ h => h) (fun W => y_move ha618 rfl) ?_
                    clear ha618 a617; intro a621 ha621
                    refine d_y 1 ha621 rfl rfl (fun _ => (m620.to ⟨.inl rfl, .inl rfl, .inl rfl, .inl rfl, .inl rfl, .inl rfl, .inl rfl, .inl rfl, .inl rfl, .inl rfl, .inl rfl, .inl rfl, .inl rfl, trivial⟩)) (by kernel_rfl) (by kernel_rfl) (by kernel_rfl) (by rfl) (fun _ _ _ h => h) (fun W => y_move ha621 rfl) ?_
                    clear ha621 a621; intro a622 ha622
                    refine d_y 2 ha622 rfl rfl (fun _ => (m620.to ⟨.inl rfl, .inl rfl, .inl rfl, .inl rfl, .inl rfl, .inl rfl, .inl rfl, .inl rfl, .inl rfl, .inl rfl, .inl rfl, .inl rfl, .inl rfl, trivial⟩)) (by kernel_rfl) (by kernel_rfl) (by kernel_rfl) (by rfl) (fun _ _ _ h => h) (fun W => y_neqB ha622 rfl rfl Try.underlying4) ?_
                    clear ha622 a622; intro a623 ha623
                    refine d_y 3 ha623 rfl rfl (fun _ => (m620.to ⟨.inl rfl, .inl rfl, .inl rfl, .inl rfl, .inl rfl, .inl rfl, .inl rfl, .inl rfl, .inl rfl, .inl rfl, .inl rfl, .inl rfl, .inl rfl, trivial⟩)) (by kernel_rfl) (by kernel_rfl) (by kernel_rfl) (by rfl) (fun _ _ _ h => h) (fun W => y_move ha623 rfl) ?_
                    clear ha623 a623; intro a624 ha624
                    refine bool_cases ha624 (t := 176) rfl (fun hb625 ha625 => ?_) (fun hb625 ha625 => ?_)
                    · exact absurd hb625 (by simp)
                    clear ha624 hb625
                    refine d_hg 4 ha625 rfl rfl rfl rfl rfl (m620.to ⟨.inl rfl, .inl rfl, .inl rfl, .inl rfl, .inl rfl, .inl rfl, .inl rfl, .inl rfl, .inl rfl, .inl rfl, .inl rfl, .inl rfl, .inl rfl, trivial⟩) (by kernel_rfl) (by kernel_rfl) (by kernel_rfl) (by kernel_rfl) (by kernel_rfl) (fun _ _ _ h => h) (fun W hW => y_loadBR ha625 hW (i := 309) rfl rfl Try.underlying27 rfl sz27r (by simp) (by dsimp only [List.drop, List.take] <;> rfl)) ?_
                    clear ha625 a624; intro a626 ha626
                    refine d_hg 5 ha626 rfl rfl rfl rfl rfl (m620.to ⟨.inl rfl, .inl rfl, .inl rfl, .inl rfl, .inl rfl, .inl rfl, .inl rfl, .inl rfl, .inl rfl, .inl rfl, .inl rfl, .inl rfl, .inl rfl, trivial⟩) (by kernel_rfl) (by kernel_rfl) (by kernel_rfl) (by kernel_rfl) (by kernel_rfl) (fun _ _ _ h => h) (fun W hW => y_loadBR ha626 hW (i := 313) rfl rfl Try.underlying27 rfl sz27r (by simp) (by dsimp only [List.drop, List.take] <;> rfl)) ?_
                    clear ha626 a626; intro a627 ha627
                    refine stepE_only 6 rfl (by kernel_rfl) (wantedG ha627 rfl rfl rfl rfl) (fun K hK => ?_)
                    refine e_call ha627 Try.func24 rfl rfl rfl rfl (rbaseSame_any _ _ _ _ _ _ _ _ _ _ _ _ _ (m620.nums (i := 306) rfl) (m620.nums (i := 310) rfl) (m620.nums (i := 307) rfl) (m620.nums (i := 311) rfl) (baseRV_ok bs 0 hbk.1) (baseRV_ok bs 0 hbk.1) (baseRV_cf bs 0)) ?_
                    rintro e w628 ⟨rfl, hb628⟩
                    have m629 := m620.later hb628
                    clear m620
                    clear hb628
                    refine ⟨_, rfl, fun a630 ha630 => ?_⟩; clear ha627 a627
                    refine hK _ _ (m629.to ⟨.inl rfl, .inl rfl, .inl rfl, .inl rfl, .inl rfl, .inl rfl, .inl rfl, .inl rfl, .inl rfl, .inl rfl, .inl rfl, .inl rfl, .inl rfl, trivial⟩) ?_; clear hK K
                    refine d_yg 7 ha630 rfl rfl rfl rfl rfl (fun _ => (m629.to ⟨.inl rfl, .inl rfl, .inl rfl, .inl rfl, .inl rfl, .inl rfl, .inl rfl, .inl rfl, .inl rfl, .inl rfl, .inl rfl, .inl rfl, .inl rfl, trivial⟩)) (by kernel_rfl) (by kernel_rfl) (by kernel_rfl) (by rfl) (fun _ _ _ h => h) (fun W => y_not ha630 rfl) ?_
                    clear ha630 a630; intro a631 ha631
                    refine d_y 8 ha631 rfl rfl (fun _ => (m629.to ⟨.inl rfl, .inl rfl, .inl rfl, .inl rfl, .inl rfl, .inl rfl, .inl rfl, .inl rfl, .inl rfl, .inl rfl, .inl rfl, .inl rfl, .inl rfl, trivial⟩)) (by kernel_rfl) (by kernel_rfl) (by kernel_rfl) (by rfl) (fun _ _ _ h => h) (fun W => y_pickF ha631 rfl rfl) ?_
                    clear ha631 a631; intro a632 ha632
                    refine d_y 9 ha632 rfl rfl (fun _ => (m629.to ⟨.inl rfl, .inl rfl, .inl rfl, .inl rfl, .inl rfl, .inl rfl, .inl rfl, .inl rfl, .inl rfl, .inl rfl, .inl rfl, .inl rfl, .inl rfl, trivial⟩)) (by kernel_rfl) (by kernel_rfl) (by kernel_rfl) (by rfl) (fun _ _ _ h => h) (fun W => y_move ha632 rfl) ?_
                    clear ha632 a632; intro a633 ha633
                    refine bool_cases ha633 (t := 182) rfl (fun hb634 ha634 => ?_) (fun hb634 ha634 => ?_)
                    · exact absurd hb634 (by simp)
                    clear ha633 hb634
                    refine d_yg 10 ha634 rfl rfl rfl rfl rfl (fun _ => (m629.to ⟨.inl rfl, .inl rfl, .inl rfl, .inl rfl, .inl rfl, .inl rfl, .inl rfl, .inl rfl, .inl rfl, .inl rfl, .inl rfl, .inl rfl, .inl rfl, trivial⟩)) (by kernel_rfl) (by kernel_rfl) (by kernel_rfl) (by rfl) (fun _ _ _ h => h) (fun W => y_move ha634 rfl) ?_
                    clear ha634 a633; intro a635 ha635
                    refine d_yg 11 ha635 rfl rfl rfl rfl rfl (fun _ => (m629.to ⟨.inl rfl, .inl rfl, .inl rfl, .inl rfl, .inl rfl, .inl rfl, .inl rfl, .inl rfl, .inl rfl, .inl rfl, .inl rfl, .inl rfl, .inl rfl, trivial⟩)) (by kernel_rfl) (by kernel_rfl) (by kernel_rfl) (by rfl) (fun _ _ _ h => h) (fun W => y_move ha635 rfl) ?_
                    clear ha635 a635; intro a636 ha636
                    refine bool_cases ha636 (t := 184) rfl (fun hb637 ha637 => ?_) (fun hb637 ha637 => ?_)
                    · skip
                      clear ha636
                      try simp only [decide_eq_true_eq, decide_eq_false_iff_not, Bool.not_eq_true, Bool.not_eq_false, Bool.not_eq_eq_eq_not, Bool.not_true, Bool.not_false, Bool.not_not, Int.not_lt, Int.not_le, ne_eq, Decidable.not_not] at hb637
                      refine d_yg 12 ha637 rfl rfl rfl rfl rfl (fun _ => (m629.to ⟨.inl rfl, .inl rfl, .inl rfl, .inl rfl, .inl rfl, .inl rfl, .inl rfl, .inl rfl, .inl rfl, .inl rfl, .inl rfl, .inl rfl, .inl rfl, trivial⟩)) (by kernel_rfl) (by kernel_rfl) (by kernel_rfl) (by rfl) (fun _ _ _ h => h) (fun W => y_move ha637 rfl) ?_
                      clear ha637 a636; intro a638 ha638
                      refine d_yg 14 ha638 rfl rfl rfl rfl rfl (fun _ => (m629.to ⟨.inl rfl, .inl rfl, .inl rfl, .inl rfl, .inl rfl, .inl rfl, .inl rfl, .inl rfl, .inl rfl, .inl rfl, .inl rfl, .inl rfl, .inl rfl, trivial⟩)) (by kernel_rfl) (by kernel_rfl) (by kernel_rfl) (by rfl) (fun _ _ _ h => h) (fun W => y_move ha638 rfl) ?_
                      clear ha638 a638; intro a639 ha639
                      refine d_yg 15 ha639 rfl rfl rfl rfl rfl (fun _ => (m629.to ⟨.inl rfl, .inl rfl, .inl rfl, .inl rfl, .inl rfl, .inl rfl, .inl rfl, .inl rfl, .inl rfl, .inl rfl, .inl rfl, .inl rfl, .inl rfl, trivial⟩)) (by kernel_rfl) (by kernel_rfl) (by kernel_rfl) (by rfl) (fun _ _ _ h => h) (fun W => y_nilCheck ha639 rfl) ?_
                      clear ha639 a639; intro a640 ha640
                      refine d_yg 16 ha640 rfl rfl rfl rfl rfl (fun _ => (m629.to ⟨.inl rfl, .inl rfl, .inl rfl, .inl rfl, .inl rfl, .inl rfl, .inl rfl, .inl rfl, .inl rfl, .inl rfl, .inl rfl, .inl rfl, .inl rfl, trivial⟩)) (by kernel_rfl) (by kernel_rfl) (by kernel_rfl) (by rfl) (fun _ _ _ h => h) (fun W => y_fieldAddrQ ha640 0 rfl Try.underlying52 rfl (s := 0) (by kernel_rfl) rfl) ?_
                      clear ha640 a640; intro a641 ha641
                      refine d_hg 17 ha641 rfl rfl rfl rfl rfl (m629.to ⟨.inl rfl, .inl rfl, .inl rfl, .inl rfl, .inl rfl, .inl rfl, .inl rfl, .inl rfl, .inl rfl, .inl rfl, .inl rfl, .inl rfl, .inl rfl, trivial⟩) (by kernel_rfl) (by kernel_rfl) (by kernel_rfl) (by kernel_rfl) (by kernel_rfl) (fun _ _ _ h => h) (fun W hW => y_loadC0 ha641 hW (i := 304) rfl rfl Try.underlying22 rfl) ?_
                      clear ha641 a641; intro a642 ha642
                      refine d_yg 18 ha642 rfl rfl rfl rfl rfl (fun _ => (m629.to ⟨.inl rfl, .inl rfl, .inl rfl, .inl rfl, .inl rfl, .inl rfl, .inl rfl, .inl rfl, .inl rfl, .inl rfl, .inl rfl, .inl rfl, .inl rfl, trivial⟩)) (by kernel_rfl) (by kernel_rfl) (by kernel_rfl) (by rfl) (fun _ _ _ h => h) (fun W => y_len ha642 rfl Try.underlying22) ?_
                      clear ha642 a642; intro a643 ha643
                      refine stepE_only 13 rfl (by kernel_rfl) (wantedG ha643 rfl rfl rfl rfl) (fun K hK => ?_)
                      refine e_call ha643 Try.func17 rfl rfl rfl rfl (left_cel _ _ _ _ _ ((m629.ok 305 _ rfl : Res.ok _ _ _ _ (.cel _ _ _)).2.2 0 _ rfl)) ?_
                      rintro e w644 ⟨rfl, hb644⟩
                      subst hb644
                      have m645 := m629
                      clear m629
                      refine ⟨_, rfl, fun a646 ha646 => ?_⟩; clear ha643 a643
                      refine hK _ _ (m645.to ⟨.inl rfl, .inl rfl, .inl rfl, .inl rfl, .inl rfl, .inl rfl, .inl rfl, .inl rfl, .inl rfl, .inl rfl, .inl rfl, .inl rfl, .inl rfl, trivial⟩) ?_; clear hK K
                      refine d_yg 19 ha646 rfl rfl rfl rfl rfl (fun _ => (m645.to ⟨.inl rfl, .inl rfl, .inl rfl, .inl rfl, .inl rfl, .inl rfl, .inl rfl, .inl rfl, .inl rfl, .inl rfl, .inl rfl, .inl rfl, .inl rfl, trivial⟩)) (by kernel_rfl) (by kernel_rfl) (by kernel_rfl) (by rfl) (fun _ _ _ h => h) (fun W => y_neq ha646 rfl rfl) ?_
                      clear ha646 a646; intro a647 ha647
                      refine d_yg 20 ha647 rfl rfl rfl rfl rfl (fun _ => (m645.to ⟨.inl rfl, .inl rfl, .inl rfl, .inl rfl, .inl rfl, .inl rfl, .inl rfl, .inl rfl, .inl rfl, .inl rfl, .inl rfl, .inl rfl, .inl rfl, trivial⟩)) (by kernel_rfl) (by kernel_rfl) (by kernel_rfl) (by rfl) (fun _ _ _ h => h) (fun W => y_pickT ha647 rfl rfl) ?_
                      clear ha647 a647; intro a648 ha648
                      refine d_y 21 ha648 rfl rfl (fun _ => (m645.to ⟨.inl rfl, .inl rfl, .inl rfl, .inl rfl, .inl rfl, .inl rfl, .inl rfl, .inl rfl, .inl rfl, .inl rfl, .inl rfl, .inl rfl, .inl rfl, trivial⟩)) (by kernel_rfl) (by kernel_rfl) (by kernel_rfl) (by rfl) (fun _ _ _ h => h) (fun W => y_pickF ha648 rfl rfl) ?_
                      clear ha648 a648; intro a649 ha649
                      refine wpAnyE_done (by kernel_rfl) ?_ _
                      refine hK48 _ _ ?_; clear hK48; try clear K48
                      refine bool_cases ha649 (t := 194) rfl (fun hb650 ha650 => ?_) (fun hb650 ha650 => ?_)
                      · exact absurd hb650 (by have h9 := (base_67 bs 0).2.2 hb637; simp [h9])
                      clear ha649 hb650
                      refine wp_cond_false (ha650.ev (x := .tmp 194) rfl) ?_
                      refine wp_skip ?_
                      refine hK26 _ _ ?_; clear hK26; try clear K26
                      have ha651 : Has 195 [(9, _), (16, _)] a649 := ha650.only [9, 16]; clear ha650
                      refine wp_region_lit ?_
                      refine st_y ha651 rfl (y_move ha651 rfl) ?_
                      clear ha651 a649; intro a652 ha652
                      refine st_y ha652 rfl (y_add ha652 rfl rfl (r := ((k + 1 : Nat) : Int)) (by rw [IntWalk.i64_in _ (by omega)]; omega)) ?_
                      clear ha652 a652; intro a653 ha653
                      refine st_y ha653 rfl (y_assign ha653 rfl) ?_
                      clear ha653 a653; intro a654 ha654
                      refine wpList_nil ?_
                      show ∃ n', n' < _ ∧ _
                      exact ⟨A.length - (k + 1), by omega, k + 1, _, _, by omega, rfl, ha654.only [9, 16], m645.only [3]⟩
                    · skip
                      clear ha636
                      try simp only [decide_eq_true_eq, decide_eq_false_iff_not, Bool.not_eq_true, Bool.not_eq_false, Bool.not_eq_eq_eq_not, Bool.not_true, Bool.not_false, Bool.not_not, Int.not_lt, Int.not_le, ne_eq, Decidable.not_not] at hb637
                      refine d_skip 12 ha637 rfl rfl rfl rfl rfl (fun _ => (m629.to ⟨.inl rfl, .inl rfl, .inl rfl, .inl rfl, .inl rfl, .inl rfl, .inl rfl, .inl rfl, .inl rfl, .inl rfl, .inl rfl, .inl rfl, .inl rfl, trivial⟩)) (by kernel_rfl) (by kernel_rfl) (by kernel_rfl) (by rfl) (fun _ _ _ h => h) ?_
                      clear ha637 a636; intro a655 ha655
                      refine d_skip 13 ha655 rfl rfl rfl rfl rfl (fun _ => (m629.to ⟨.inl rfl, .inl rfl, .inl rfl, .inl rfl, .inl rfl, .inl rfl, .inl rfl, .inl rfl, .inl rfl, .inl rfl, .inl rfl, .inl rfl, .inl rfl, trivial⟩)) (by kernel_rfl) (by kernel_rfl) (by kernel_rfl) (by rfl) (fun _ _ _ h => h) ?_
                      clear ha655 a655; intro a656 ha656
                      refine d_skip 14 ha656 rfl rfl rfl rfl rfl (fun _ => (m629.to ⟨.inl rfl, .inl rfl, .inl rfl, .inl rfl, .inl rfl, .inl rfl, .inl rfl, .inl rfl, .inl rfl, .inl rfl, .inl rfl, .inl rfl, .inl rfl, trivial⟩)) (by kernel_rfl) (by kernel_rfl) (by kernel_rfl) (by rfl) (fun _ _ _ h => h) ?_
                      clear ha656 a656; intro a657 ha657
                      refine d_skip 15 ha657 rfl rfl rfl rfl rfl (fun _ => (m629.to ⟨.inl rfl, .inl rfl, .inl rfl, .inl rfl, .inl rfl, .inl rfl, .inl rfl, .inl rfl, .inl rfl, .inl rfl, .inl rfl, .inl rfl, .inl rfl, trivial⟩)) (by kernel_rfl) (by kernel_rfl) (by kernel_rfl) (by rfl) (fun _ _ _ h => h) ?_
                      clear ha657 a657; intro a658 ha658
                      refine d_skip 16 ha658 rfl rfl rfl rfl rfl (fun _ => (m629.to ⟨.inl rfl, .inl rfl, .inl rfl, .inl rfl, .inl rfl, .inl rfl, .inl rfl, .inl rfl, .inl rfl, .inl rfl, .inl rfl, .inl rfl, .inl rfl, trivial⟩)) (by kernel_rfl) (by kernel_rfl) (by kernel_rfl) (by rfl) (fun _ _ _ h => h) ?_
                      clear ha658 a658; intro a659 ha659
                      refine d_skip 17 ha659 rfl rfl rfl rfl rfl (fun _ => (m629.to ⟨.inl rfl, .inl rfl, .inl rfl, .inl rfl, .inl rfl, .inl rfl, .inl rfl, .inl rfl, .inl rfl, .inl rfl, .inl rfl, .inl rfl, .inl rfl, trivial⟩)) (by kernel_rfl) (by kernel_rfl) (by kernel_rfl) (by rfl) (fun _ _ _ h => h) ?_
                      clear ha659 a659; intro a660 ha660
                      refine d_skip 18 ha660 rfl rfl rfl rfl rfl (fun _ => (m629.to ⟨.inl rfl, .inl rfl, .inl rfl, .inl rfl, .inl rfl, .inl rfl, .inl rfl, .inl rfl, .inl rfl, .inl rfl, .inl rfl, .inl rfl, .inl rfl, trivial⟩)) (by kernel_rfl) (by kernel_rfl) (by kernel_rfl) (by rfl) (fun _ _ _ h => h) ?_
                      clear ha660 a660; intro a661 ha661
                      refine d_skip 19 ha661 rfl rfl rfl rfl rfl (fun _ => (m629.to ⟨.inl rfl, .inl rfl, .inl rfl, .inl rfl, .inl rfl, .inl rfl, .inl rfl, .inl rfl, .inl rfl, .inl rfl, .inl rfl, .inl rfl, .inl rfl, trivial⟩)) (by kernel_rfl) (by kernel_rfl) (by kernel_rfl) (by rfl) (fun _ _ _ h => h) ?_
                      clear ha661 a661; intro a662 ha662
                      refine d_yg 20 ha662 rfl rfl rfl rfl rfl (fun _ => (m629.to ⟨.inl rfl, .inl rfl, .inl rfl, .inl rfl, .inl rfl, .inl rfl, .inl rfl, .inl rfl, .inl rfl, .inl rfl, .inl rfl, .inl rfl, .inl rfl, trivial⟩)) (by kernel_rfl) (by kernel_rfl) (by kernel_rfl) (by rfl) (fun _ _ _ h => h) (fun W => y_pickF ha662 rfl rfl) ?_
                      clear ha662 a662; intro a663 ha663
                      refine d_y 21 ha663 rfl rfl (fun _ => (m629.to ⟨.inl rfl, .inl rfl, .inl rfl, .inl rfl, .inl rfl, .inl rfl, .inl rfl, .inl rfl, .inl rfl, .inl rfl, .inl rfl, .inl rfl, .inl rfl, trivial⟩)) (by kernel_rfl) (by kernel_rfl) (by kernel_rfl) (by rfl) (fun _ _ _ h => h) (fun W => y_pickF ha663 rfl rfl) ?_
                      clear ha663 a663; intro a664 ha664
                      refine wpAnyE_done (by kernel_rfl) ?_ _
                      refine hK48 _ _ ?_; clear hK48; try clear K48
                      refine wp_cond_false (ha664.ev (x := .tmp 194) rfl) ?_
                      refine wp_skip ?_
                      refine hK26 _ _ ?_; clear hK26; try clear K26
                      have ha665 : Has 195 [(9, _), (16, _)] a664 := ha664.only [9, 16]; clear ha664
                      refine wp_region_lit ?_
                      refine st_y ha665 rfl (y_move ha665 rfl) ?_
                      clear ha665 a664; intro a666 ha666
                      refine st_y ha666 rfl (y_add ha666 rfl rfl (r := ((k + 1 : Nat) : Int)) (by rw [IntWalk.i64_in _ (by omega)]; omega)) ?_
                      clear ha666 a666; intro a667 ha667
                      refine st_y ha667 rfl (y_assign ha667 rfl) ?_
                      clear ha667 a667; intro a668 ha668
                      refine wpList_nil ?_
                      show ∃ n', n' < _ ∧ _
                      exact ⟨A.length - (k + 1), by omega, k + 1, _, _, by omega, rfl, ha668.only [9, 16], m629.only [3]⟩
                refine wp_seq_k (fun K49 hK49 => ?_)
                have ha669 : Has 195 [(9, _), (16, _), (17, _), (18, _), (19, _), (20, _), (21, _), (22, _)] a474 := ha474.only [9, 16, 17, 18, 19, 20, 21, 22]; clear ha474
                have m670 : MemOk _ _ [(3, _), (200, _), (201, _), (202, _), (203, _), (204, _), (205, _), (206, _), (207, _), (208, _), (210, _)] _ := m473.only [3, 200, 201, 202, 203, 204, 205, 206, 207, 208, 210]; clear m473
                refine region_m 22 (B := [(3, _), (200, _), (201, _), (202, _), (203, _), (204, _), (205, _), (206, _), (207, _), (208, _), (210, _)]) (m670.to ⟨.inl rfl, .inl rfl, .inl rfl, .inl rfl, .inl rfl, .inl rfl, .inl rfl, .inl rfl, .inl rfl, .inl rfl, .inl rfl, trivial⟩) m670 (by kernel_rfl) (fun w671 mB671 m671 => ?_); clear m670 mB671
                refine d_y 0 ha669 rfl rfl (fun _ => (m671.to ⟨.inl rfl, .inl rfl, .inl rfl, .inl rfl, .inl rfl, .inl rfl, .inl rfl, .inl rfl, .inl rfl, .inl rfl, .inl rfl, trivial⟩)) (by kernel_rfl) (by kernel_rfl) (by kernel_rfl) (by rfl) (fun _ _ _ h => h) (fun W => y_move ha669 rfl) ?_
                clear ha669 a474; intro a672 ha672
                refine d_y 1 ha672 rfl rfl (fun _ => (m671.to ⟨.inl rfl, .inl rfl, .inl rfl, .inl rfl, .inl rfl, .inl rfl, .inl rfl, .inl rfl, .inl rfl, .inl rfl, .inl rfl, trivial⟩)) (by kernel_rfl) (by kernel_rfl) (by kernel_rfl) (by rfl) (fun _ _ _ h => h) (fun W => y_move ha672 rfl) ?_
                clear ha672 a672; intro a673 ha673
                refine d_y 2 ha673 rfl rfl (fun _ => (m671.to ⟨.inl rfl, .inl rfl, .inl rfl, .inl rfl, .inl rfl, .inl rfl, .inl rfl, .inl rfl, .inl rfl, .inl rfl, .inl rfl, trivial⟩)) (by kernel_rfl) (by kernel_rfl) (by kernel_rfl) (by rfl) (fun _ _ _ h => h) (fun W => y_neqB ha673 rfl rfl Try.underlying4) ?_
                clear ha673 a673; intro a674 ha674
                refine d_y 3 ha674 rfl rfl (fun _ => (m671.to ⟨.inl rfl, .inl rfl, .inl rfl, .inl rfl, .inl rfl, .inl rfl, .inl rfl, .inl rfl, .inl rfl, .inl rfl, .inl rfl, trivial⟩)) (by kernel_rfl) (by kernel_rfl) (by kernel_rfl) (by rfl) (fun _ _ _ h => h) (fun W => y_move ha674 rfl) ?_
                clear ha674 a674; intro a675 ha675
                refine bool_cases ha675 (t := 133) rfl (fun hb676 ha676 => ?_) (fun hb676 ha676 => ?_)
                · exact absurd hb676 (by simp)
                clear ha675 hb676
                refine d_hg 4 ha676 rfl rfl rfl rfl rfl (m671.to ⟨.inl rfl, .inl rfl, .inl rfl, .inl rfl, .inl rfl, .inl rfl, .inl rfl, .inl rfl, .inl rfl, .inl rfl, .inl rfl, trivial⟩) (by kernel_rfl) (by kernel_rfl) (by kernel_rfl) (by kernel_rfl) (by kernel_rfl) (fun _ _ _ h => h) (fun W hW => y_loadBR ha676 hW (i := 207) rfl rfl Try.underlying24 rfl sz24r (by simp) (by dsimp only [List.drop, List.take] <;> rfl)) ?_
                clear ha676 a675; intro a677 ha677
                refine d_hg 5 ha677 rfl rfl rfl rfl rfl (m671.to ⟨.inl rfl, .inl rfl, .inl rfl, .inl rfl, .inl rfl, .inl rfl, .inl rfl, .inl rfl, .inl rfl, .inl rfl, .inl rfl, trivial⟩) (by kernel_rfl) (by kernel_rfl) (by kernel_rfl) (by kernel_rfl) (by kernel_rfl) (fun _ _ _ h => h) (fun W hW => y_loadBR ha677 hW (i := 210) rfl rfl Try.underlying24 rfl sz24r (by simp) (by dsimp only [List.drop, List.take] <;> rfl)) ?_
                clear ha677 a677; intro a678 ha678
                refine stepE_only 6 rfl (by kernel_rfl) (wantedG ha678 rfl rfl rfl rfl) (fun K hK => ?_)
                refine e_call ha678 Try.func14 rfl rfl rfl rfl (rentSame_any _ _ _ _ _ _ _ _ _ _ _ (m671.nums (i := 206) rfl) (m671.nums (i := 208) rfl) (entRV_ok bs 0 hbk.1) (entRV_ok bs 0 hbk.1)) ?_
                rintro e w679 ⟨rfl, hb679⟩
                have m680 := m671.later hb679
                clear m671
                clear hb679
                refine ⟨_, rfl, fun a681 ha681 => ?_⟩; clear ha678 a678
                refine hK _ _ (m680.to ⟨.inl rfl, .inl rfl, .inl rfl, .inl rfl, .inl rfl, .inl rfl, .inl rfl, .inl rfl, .inl rfl, .inl rfl, .inl rfl, trivial⟩) ?_; clear hK K
                refine d_yg 7 ha681 rfl rfl rfl rfl rfl (fun _ => (m680.to ⟨.inl rfl, .inl rfl, .inl rfl, .inl rfl, .inl rfl, .inl rfl, .inl rfl, .inl rfl, .inl rfl, .inl rfl, .inl rfl, trivial⟩)) (by kernel_rfl) (by kernel_rfl) (by kernel_rfl) (by rfl) (fun _ _ _ h => h) (fun W => y_not ha681 rfl) ?_
                clear ha681 a681; intro a682 ha682
                refine d_y 8 ha682 rfl rfl (fun _ => (m680.to ⟨.inl rfl, .inl rfl, .inl rfl, .inl rfl, .inl rfl, .inl rfl, .inl rfl, .inl rfl, .inl rfl, .inl rfl, .inl rfl, trivial⟩)) (by kernel_rfl) (by kernel_rfl) (by kernel_rfl) (by rfl) (fun _ _ _ h => h) (fun W => y_pickF ha682 rfl rfl) ?_
                clear ha682 a682; intro a683 ha683
                refine d_y 9 ha683 rfl rfl (fun _ => (m680.to ⟨.inl rfl, .inl rfl, .inl rfl, .inl rfl, .inl rfl, .inl rfl, .inl rfl, .inl rfl, .inl rfl, .inl rfl, .inl rfl, trivial⟩)) (by kernel_rfl) (by kernel_rfl) (by kernel_rfl) (by rfl) (fun _ _ _ h => h) (fun W => y_move ha683 rfl) ?_
                clear ha683 a683; intro a684 ha684
                refine bool_cases ha684 (t := 139) rfl (fun hb685 ha685 => ?_) (fun hb685 ha685 => ?_)
                · exact absurd hb685 (by simp)
                clear ha684 hb685
                refine d_yg 10 ha685 rfl rfl rfl rfl rfl (fun _ => (m680.to ⟨.inl rfl, .inl rfl, .inl rfl, .inl rfl, .inl rfl, .inl rfl, .inl rfl, .inl rfl, .inl rfl, .inl rfl, .inl rfl, trivial⟩)) (by kernel_rfl) (by kernel_rfl) (by kernel_rfl) (by rfl) (fun _ _ _ h => h) (fun W => y_move ha685 rfl) ?_
                clear ha685 a684; intro a686 ha686
                refine d_yg 11 ha686 rfl rfl rfl rfl rfl (fun _ => (m680.to ⟨.inl rfl, .inl rfl, .inl rfl, .inl rfl, .inl rfl, .inl rfl, .inl rfl, .inl rfl, .inl rfl, .inl rfl, .inl rfl, trivial⟩)) (by kernel_rfl) (by kernel_rfl) (by kernel_rfl) (by rfl) (fun _ _ _ h => h) (fun W => y_move ha686 rfl) ?_
                clear ha686 a686; intro a687 ha687
                refine bool_cases ha687 (t := 141) rfl (fun hb688 ha688 => ?_) (fun hb688 ha688 => ?_)
                · skip
                  clear ha687
                  try simp only [decide_eq_true_eq, decide_eq_false_iff_not, Bool.not_eq_true, Bool.not_eq_false, Bool.not_eq_eq_eq_not, Bool.not_true, Bool.not_false, Bool.not_not, Int.not_lt, Int.not_le, ne_eq, Decidable.not_not] at hb688
                  refine d_yg 12 ha688 rfl rfl rfl rfl rfl (fun _ => (m680.to ⟨.inl rfl, .inl rfl, .inl rfl, .inl rfl, .inl rfl, .inl rfl, .inl rfl, .inl rfl, .inl rfl, .inl rfl, .inl rfl, trivial⟩)) (by kernel_rfl) (by kernel_rfl) (by kernel_rfl) (by rfl) (fun _ _ _ h => h) (fun W => y_move ha688 rfl) ?_
                  clear ha688 a687; intro a689 ha689
                  refine d_yg 14 ha689 rfl rfl rfl rfl rfl (fun _ => (m680.to ⟨.inl rfl, .inl rfl, .inl rfl, .inl rfl, .inl rfl, .inl rfl, .inl rfl, .inl rfl, .inl rfl, .inl rfl, .inl rfl, trivial⟩)) (by kernel_rfl) (by kernel_rfl) (by kernel_rfl) (by rfl) (fun _ _ _ h => h) (fun W => y_move ha689 rfl) ?_
                  clear ha689 a689; intro a690 ha690
                  refine d_yg 15 ha690 rfl rfl rfl rfl rfl (fun _ => (m680.to ⟨.inl rfl, .inl rfl, .inl rfl, .inl rfl, .inl rfl, .inl rfl, .inl rfl, .inl rfl, .inl rfl, .inl rfl, .inl rfl, trivial⟩)) (by kernel_rfl) (by kernel_rfl) (by kernel_rfl) (by rfl) (fun _ _ _ h => h) (fun W => y_nilCheck ha690 rfl) ?_
                  clear ha690 a690; intro a691 ha691
                  refine d_yg 16 ha691 rfl rfl rfl rfl rfl (fun _ => (m680.to ⟨.inl rfl, .inl rfl, .inl rfl, .inl rfl, .inl rfl, .inl rfl, .inl rfl, .inl rfl, .inl rfl, .inl rfl, .inl rfl, trivial⟩)) (by kernel_rfl) (by kernel_rfl) (by kernel_rfl) (by rfl) (fun _ _ _ h => h) (fun W => y_fieldAddrQ ha691 0 rfl Try.underlying52 rfl (s := 0) (by kernel_rfl) rfl) ?_
                  clear ha691 a691; intro a692 ha692
                  refine d_hg 17 ha692 rfl rfl rfl rfl rfl (m680.to ⟨.inl rfl, .inl rfl, .inl rfl, .inl rfl, .inl rfl, .inl rfl, .inl rfl, .inl rfl, .inl rfl, .inl rfl, .inl rfl, trivial⟩) (by kernel_rfl) (by kernel_rfl) (by kernel_rfl) (by kernel_rfl) (by kernel_rfl) (fun _ _ _ h => h) (fun W hW => y_loadC0 ha692 hW (i := 204) rfl rfl Try.underlying22 rfl) ?_
                  clear ha692 a692; intro a693 ha693
                  refine d_yg 18 ha693 rfl rfl rfl rfl rfl (fun _ => (m680.to ⟨.inl rfl, .inl rfl, .inl rfl, .inl rfl, .inl rfl, .inl rfl, .inl rfl, .inl rfl, .inl rfl, .inl rfl, .inl rfl, trivial⟩)) (by kernel_rfl) (by kernel_rfl) (by kernel_rfl) (by rfl) (fun _ _ _ h => h) (fun W => y_len ha693 rfl Try.underlying22) ?_
                  clear ha693 a693; intro a694 ha694
                  refine stepE_only 13 rfl (by kernel_rfl) (wantedG ha694 rfl rfl rfl rfl) (fun K hK => ?_)
                  refine e_call ha694 Try.func17 rfl rfl rfl rfl (left_cel _ _ _ _ _ ((m680.ok 205 _ rfl : Res.ok _ _ _ _ (.cel _ _ _)).2.2 0 _ rfl)) ?_
                  rintro e w695 ⟨rfl, hb695⟩
                  subst hb695
                  have m696 := m680
                  clear m680
                  refine ⟨_, rfl, fun a697 ha697 => ?_⟩; clear ha694 a694
                  refine hK _ _ (m696.to ⟨.inl rfl, .inl rfl, .inl rfl, .inl rfl, .inl rfl, .inl rfl, .inl rfl, .inl rfl, .inl rfl, .inl rfl, .inl rfl, trivial⟩) ?_; clear hK K
                  refine d_yg 19 ha697 rfl rfl rfl rfl rfl (fun _ => (m696.to ⟨.inl rfl, .inl rfl, .inl rfl, .inl rfl, .inl rfl, .inl rfl, .inl rfl, .inl rfl, .inl rfl, .inl rfl, .inl rfl, trivial⟩)) (by kernel_rfl) (by kernel_rfl) (by kernel_rfl) (by rfl) (fun _ _ _ h => h) (fun W => y_neq ha697 rfl rfl) ?_
                  clear ha697 a697; intro a698 ha698
                  refine d_yg 20 ha698 rfl rfl rfl rfl rfl (fun _ => (m696.to ⟨.inl rfl, .inl rfl, .inl rfl, .inl rfl, .inl rfl, .inl rfl, .inl rfl, .inl rfl, .inl rfl, .inl rfl, .inl rfl, trivial⟩)) (by kernel_rfl) (by kernel_rfl) (by kernel_rfl) (by rfl) (fun _ _ _ h => h) (fun W => y_pickT ha698 rfl rfl) ?_
                  clear ha698 a698; intro a699 ha699
                  refine d_y 21 ha699 rfl rfl (fun _ => (m696.to ⟨.inl rfl, .inl rfl, .inl rfl, .inl rfl, .inl rfl, .inl rfl, .inl rfl, .inl rfl, .inl rfl, .inl rfl, .inl rfl, trivial⟩)) (by kernel_rfl) (by kernel_rfl) (by kernel_rfl) (by rfl) (fun _ _ _ h => h) (fun W => y_pickF ha699 rfl rfl) ?_
                  clear ha699 a699; intro a700 ha700
                  refine wpAnyE_done (by kernel_rfl) ?_ _
                  refine hK49 _ _ ?_; clear hK49; try clear K49
                  refine bool_cases ha700 (t := 151) rfl (fun hb701 ha701 => ?_) (fun hb701 ha701 => ?_)
                  · exact absurd hb701 (by simp)
                  clear ha700 hb701
                  refine wp_cond_false (ha701.ev (x := .tmp 151) rfl) ?_
                  refine wp_skip ?_
                  exact hC41 _ _ ⟨_, _, ha701.only [9, 16], m696.only [3]⟩
                · skip
                  clear ha687
                  try simp only [decide_eq_true_eq, decide_eq_false_iff_not, Bool.not_eq_true, Bool.not_eq_false, Bool.not_eq_eq_eq_not, Bool.not_true, Bool.not_false, Bool.not_not, Int.not_lt, Int.not_le, ne_eq, Decidable.not_not] at hb688
                  refine d_skip 12 ha688 rfl rfl rfl rfl rfl (fun _ => (m680.to ⟨.inl rfl, .inl rfl, .inl rfl, .inl rfl, .inl rfl, .inl rfl, .inl rfl, .inl rfl, .inl rfl, .inl rfl, .inl rfl, trivial⟩)) (by kernel_rfl) (by kernel_rfl) (by kernel_rfl) (by rfl) (fun _ _ _ h => h) ?_
                  clear ha688 a687; intro a702 ha702
                  refine d_skip 13 ha702 rfl rfl rfl rfl rfl (fun _ => (m680.to ⟨.inl rfl, .inl rfl, .inl rfl, .inl rfl, .inl rfl, .inl rfl, .inl rfl, .inl rfl, .inl rfl, .inl rfl, .inl rfl, trivial⟩)) (by kernel_rfl) (by kernel_rfl) (by kernel_rfl) (by rfl) (fun _ _ _ h => h) ?_
                  clear ha702 a702; intro a703 ha703
                  refine d_skip 14 ha703 rfl rfl rfl rfl rfl (fun _ => (m680.to ⟨.inl rfl, .inl rfl, .inl rfl, .inl rfl, .inl rfl, .inl rfl, .inl rfl, .inl rfl, .inl rfl, .inl rfl, .inl rfl, trivial⟩)) (by kernel_rfl) (by kernel_rfl) (by kernel_rfl) (by rfl) (fun _ _ _ h => h) ?_
                  clear ha703 a703; intro a704 ha704
                  refine d_skip 15 ha704 rfl rfl rfl rfl rfl (fun _ => (m680.to ⟨.inl rfl, .inl rfl, .inl rfl, .inl rfl, .inl rfl, .inl rfl, .inl rfl, .inl rfl, .inl rfl, .inl rfl, .inl rfl, trivial⟩)) (by kernel_rfl) (by kernel_rfl) (by kernel_rfl) (by rfl) (fun _ _ _ h => h) ?_
                  clear ha704 a704; intro a705 ha705
                  refine d_skip 16 ha705 rfl rfl rfl rfl rfl (fun _ => (m680.to ⟨.inl rfl, .inl rfl, .inl rfl, .inl rfl, .inl rfl, .inl rfl, .inl rfl, .inl rfl, .inl rfl, .inl rfl, .inl rfl, trivial⟩)) (by kernel_rfl) (by kernel_rfl) (by kernel_rfl) (by rfl) (fun _ _ _ h => h) ?_
                  clear ha705 a705; intro a706 ha706
                  refine d_skip 17 ha706 rfl rfl rfl rfl rfl (fun _ => (m680.to ⟨.inl rfl, .inl rfl, .inl rfl, .inl rfl, .inl rfl, .inl rfl, .inl rfl, .inl rfl, .inl rfl, .inl rfl, .inl rfl, trivial⟩)) (by kernel_rfl) (by kernel_rfl) (by kernel_rfl) (by rfl) (fun _ _ _ h => h) ?_
                  clear ha706 a706; intro a707 ha707
                  refine d_skip 18 ha707 rfl rfl rfl rfl rfl (fun _ => (m680.to ⟨.inl rfl, .inl rfl, .inl rfl, .inl rfl, .inl rfl, .inl rfl, .inl rfl, .inl rfl, .inl rfl, .inl rfl, .inl rfl, trivial⟩)) (by kernel_rfl) (by kernel_rfl) (by kernel_rfl) (by rfl) (fun _ _ _ h => h) ?_
                  clear ha707 a707; intro a708 ha708
                  refine d_skip 19 ha708 rfl rfl rfl rfl rfl (fun _ => (m680.to ⟨.inl rfl, .inl rfl, .inl rfl, .inl rfl, .inl rfl, .inl rfl, .inl rfl, .inl rfl, .inl rfl, .inl rfl, .inl rfl, trivial⟩)) (by kernel_rfl) (by kernel_rfl) (by kernel_rfl) (by rfl) (fun _ _ _ h => h) ?_
                  clear ha708 a708; intro a709 ha709
                  refine d_yg 20 ha709 rfl rfl rfl rfl rfl (fun _ => (m680.to ⟨.inl rfl, .inl rfl, .inl rfl, .inl rfl, .inl rfl, .inl rfl, .inl rfl, .inl rfl, .inl rfl, .inl rfl, .inl rfl, trivial⟩)) (by kernel_rfl) (by kernel_rfl) (by kernel_rfl) (by rfl) (fun _ _ _ h => h) (fun W => y_pickF ha709 rfl rfl) ?_
                  clear ha709 a709; intro a710 ha710
                  refine d_y 21 ha710 rfl rfl (fun _ => (m680.to ⟨.inl rfl, .inl rfl, .inl rfl, .inl rfl, .inl rfl, .inl rfl, .inl rfl, .inl rfl, .inl rfl, .inl rfl, .inl rfl, trivial⟩)) (by kernel_rfl) (by kernel_rfl) (by kernel_rfl) (by rfl) (fun _ _ _ h => h) (fun W => y_pickF ha710 rfl rfl) ?_
                  clear ha710 a710; intro a711 ha711
                  refine wpAnyE_done (by kernel_rfl) ?_ _
                  refine hK49 _ _ ?_; clear hK49; try clear K49
                  refine wp_cond_false (ha711.ev (x := .tmp 151) rfl) ?_
                  refine wp_skip ?_
                  exact hC41 _ _ ⟨_, _, ha711.only [9, 16], m680.only [3]⟩
            · skip
              clear ha149
              try simp only [decide_eq_true_eq, decide_eq_false_iff_not, Bool.not_eq_true, Bool.not_eq_false, Bool.not_eq_eq_eq_not, Bool.not_true, Bool.not_false, Bool.not_not, Int.not_lt, Int.not_le, ne_eq, Decidable.not_not] at hb150
              refine wp_cond_false (ha150.ev (x := .tmp 106) rfl) ?_
              refine wp_exit ?_
              refine hK22 _ _ ?_; clear hK22; try clear K22
              refine wp_seq_k (fun K50 hK50 => ?_)
              refine wp_region_lit ?_
              refine st_y ha150 rfl (y_assign ha150 rfl) ?_
              clear ha150 a149; intro a712 ha712
              refine wpList_nil ?_
              refine hK50 _ _ ?_; clear hK50; try clear K50
              refine wp_ret ?_
              try dsimp only [Exit.then, Exit.inBlock]
              refine (ret1 (fn := Try.f4) ha712 rfl rfl ?_)
              exact ⟨rfl, m145.below⟩
end Go.Proofs.Ytkfcpnmdmoeioaa.K
