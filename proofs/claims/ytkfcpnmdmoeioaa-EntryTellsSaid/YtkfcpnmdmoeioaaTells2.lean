/- EntryTells' walk. -/
import Derived.Test.YtkfcpnmdmoeioaaTells1
namespace Go.Proofs.Ytkfcpnmdmoeioaa.K
open Go.ChangeShapes Go.WideShapes Go.ChangeAt Go.RowKit
set_option linter.unusedVariables false
set_option linter.unusedSimpArgs false

theorem fl27t : flatS Try.prog 27 [.int .i64 0, .int .i64 0, .slice none 0 0, .slice none 0 0] = true := by kernel_rfl
theorem inf5t : (Try.prog.info? 5).map (fun i => (i.zero, i.size, i.bytes)) = some (some (.int .u8 0), 1, 1) := by kernel_rfl
theorem inf24t : (Try.prog.info? 24).map (fun i => (i.zero, i.size, i.bytes)) = some (some (.agg #[.int .i64 0, .int .i64 0, .int .i64 0, .slice none 0 0]), 4, 48) := by kernel_rfl
theorem inf27t : (Try.prog.info? 27).map (fun i => (i.zero, i.size, i.bytes)) = some (some (.agg #[.int .i64 0, .int .i64 0, .slice none 0 0, .slice none 0 0]), 4, 64) := by kernel_rfl
theorem sz24t : (Try.prog.info? 24).map (·.size) = some 4 := by kernel_rfl
theorem sz27t : (Try.prog.info? 27).map (·.size) = some 4 := by kernel_rfl
theorem zc24t : ((Try.prog.info? 24).bind (·.zero)).map (·.cells.toList) = some [.int .i64 0, .int .i64 0, .int .i64 0, .slice none 0 0] := by kernel_rfl
theorem zc27t : ((Try.prog.info? 27).bind (·.zero)).map (·.cells.toList) = some [.int .i64 0, .int .i64 0, .slice none 0 0, .slice none 0 0] := by kernel_rfl

def baD (b : Int × Int × List Int × List Int) : List D := [.v (.int .i64 b.1), .v (.int .i64 b.2.1), .ns .i64 b.2.2.1, .ns .u8 b.2.2.2]
theorem es_get {A : List (Int × Int × Int × List Int)} {k : Nat} {i t q : Int} {d : List Int} (h : A[k]? = some (i, t, q, d)) : (A.map entD)[k]? = some [.v (.int .i64 i), .v (.int .i64 t), .v (.int .i64 q), .ns .u8 d] := by simp [h, entD]
theorem ba_get {A : List (Int × Int × List Int × List Int)} {k : Nat} {i t : Int} {c d : List Int} (h : A[k]? = some (i, t, c, d)) : (A.map baD)[k]? = some [.v (.int .i64 i), .v (.int .i64 t), .ns .i64 c, .ns .u8 d] := by simp [h, baD]
def es0 (ri rt rk : Int) (rd : List Int) (what : Nat) (l : List Int) : List (Int × Int × Int × List Int) := (ri, rt, rk, rd) :: entsN ((what : Int) + 1) l l.length
theorem entsN_ok (F : Int) (l : List Int) (hb : ∀ j, j < l.length → 0 ≤ l.getD j 0 ∧ l.getD j 0 ≤ 255) (hl : l.length ≤ 10) : ∀ n, n ≤ l.length → ∀ e ∈ entsN F l n, ByteL e.2.2.2 ∧ e.2.2.2.length ≤ 100
  | 0, _, e, he => by cases he
  | n + 1, hn, e, he => by
    rw [entsN] at he
    rcases List.mem_append.1 he with he | he
    · exact entsN_ok F l hb hl n (by omega) e he
    · have h1 := hb n (by omega)
      simp only [List.mem_cons, List.not_mem_nil, or_false] at he
      subst he
      unfold entOf
      dsimp only
      refine ⟨fun y hy => ?_, ?_⟩
      · split at hy
        · simp only [List.mem_cons, List.not_mem_nil, or_false] at hy; omega
        · split at hy
          · simp only [List.mem_cons, List.not_mem_nil, or_false] at hy; omega
          · cases hy
      · split
        · simp
        · split <;> simp
theorem es0_ok {ri rt rk : Int} {rd l : List Int} (what : Nat) (hrd : ByteL rd) (hr : rd.length ≤ 60) (hb : ∀ j, j < l.length → 0 ≤ l.getD j 0 ∧ l.getD j 0 ≤ 255) (hl : l.length ≤ 10) : ∀ e ∈ es0 ri rt rk rd what l, ByteL e.2.2.2 ∧ e.2.2.2.length ≤ 100 := by
  intro e he
  rcases List.mem_cons.1 he with rfl | he
  · exact ⟨hrd, by dsimp only; omega⟩
  · exact entsN_ok _ l hb hl _ (Nat.le_refl _) e he
theorem bentV_ok (i t k : Int) (d : List Int) (what v : Int) (hd : ByteL d ∧ d.length ≤ 100) : ByteL (bentV i t k d what v).2.2.2 ∧ (bentV i t k d what v).2.2.2.length ≤ 100 := by
  unfold bentV
  split
  · exact hd
  · split
    · exact hd
    · split
      · exact hd
      · refine ⟨fun y hy => ?_, by simp⟩
        have hw : ∀ z : Int, 0 ≤ IntKind.u8.wrap z ∧ IntKind.u8.wrap z ≤ 255 := fun z => by
          have : IntKind.u8.wrap z = z % 256 := rfl
          omega
        simp only [List.mem_cons, List.not_mem_nil, or_false] at hy
        rcases hy with rfl | rfl
        · exact hw _
        · exact hw _
theorem es_bent {A : List (Int × Int × Int × List Int)} (h : ∀ e ∈ A, ByteL e.2.2.2 ∧ e.2.2.2.length ≤ 100) {i t k : Int} {d : List Int} (he : ByteL (i, t, k, d).2.2.2 ∧ (i, t, k, d).2.2.2.length ≤ 100) {what v v' : Int} : ∀ e ∈ A ++ [bentV i t k d what v, bentV i t k d what v'], ByteL e.2.2.2 ∧ e.2.2.2.length ≤ 100 := by
  intro e hm
  rcases List.mem_append.1 hm with hm | hm
  · exact h e hm
  · simp only [List.mem_cons, List.not_mem_nil, or_false] at hm
    rcases hm with rfl | rfl
    · exact bentV_ok _ _ _ _ _ _ he
    · exact bentV_ok _ _ _ _ _ _ he
theorem entB_len (i t k : Int) (d : List Int) : (entB i t k d).length ≤ 40 + d.length := by
  have h1 := encs_len [i, t, k]
  have h2 := (enc_len (d.length : Int)).1
  simp only [entB, List.length_append, List.length_cons, List.length_nil] at h1 ⊢
  omega
theorem baseB_len (i t : Int) (cf d : List Int) (hc : cf.length ≤ 10) : (baseB i t cf d).length ≤ 140 + d.length := by
  have h1 := encs_len [i, t, (cf.length : Int)]
  have h2 := encs_len cf
  have h3 := (enc_len (d.length : Int)).1
  simp only [baseB, List.length_append, List.length_cons, List.length_nil] at h1 ⊢
  omega
theorem byte_app {a b : List Int} (ha : ByteL a) (hb : ByteL b) : ByteL (a ++ b) := fun y hy => (List.mem_append.1 hy).elim (ha y) (hb y)
theorem entB_ok {i t k : Int} {d more : List Int} (h : entOk i t k d = true) (hd : ByteL d) (hm : ByteL more) : ByteL (entB i t k d ++ more) := by
  have hb : i ≤ 1099511627776 ∧ t ≤ 1099511627776 ∧ k ≤ 2 ∧ d.length ≤ 32767 := by
    unfold entOk timeOk dataOk at h
    simp only [Bool.and_eq_true, decide_eq_true_eq] at h
    have h2 := h.2
    refine ⟨h.1.1.2, h.1.2.2, ?_⟩
    split at h2
    · simp only [decide_eq_true_eq] at h2; omega
    · split at h2
      · simp only [decide_eq_true_eq] at h2; omega
      · split at h2
        · simp only [decide_eq_true_eq] at h2; omega
        · cases h2
  exact byte_app (byte_app (encs_byte _ (by intro n hn; simp only [List.mem_cons, List.not_mem_nil, or_false] at hn; rcases hn with rfl | rfl | rfl <;> omega)) (byte_app (enc_bytes _ (by omega)) hd)) hm
theorem baseB_ok {i t : Int} {cf d more : List Int} (h : baseOk i t cf d = true) (hd : ByteL d) (hm : ByteL more) : ByteL (baseB i t cf d ++ more) := by
  have hb := baseOk_bd h
  have hc := right_bd hb.2.2.1
  exact byte_app (byte_app (encs_byte _ (by intro n hn; simp only [List.mem_cons, List.not_mem_nil, or_false] at hn; rcases hn with rfl | rfl | rfl <;> omega)) (byte_app (encs_byte _ (fun n hn => by
    obtain ⟨j, hj, e⟩ := List.getElem_of_mem hn
    have := hc.2 j hj
    simp [List.getD, hj, e] at this
    omega)) (byte_app (enc_bytes _ (by omega)) hd))) hm
set_option maxRecDepth 100000 in
set_option maxHeartbeats 8000000 in
theorem tells_walk (ri rt rk bi bt v : Int) (rd bc bd l more confs : List Int) (what : Nat) (p0 pb p1 p2 p5 p6 : Option Addr) (c0 cb c1 c2 c5 c6 : Nat) (w0 : World)
    (h0 : Rd (fun _ => True) w0 (.slice p0 rd.length c0) (.ns .u8 rd)) (hb0 : Rd (fun _ => True) w0 (.slice pb bc.length cb) (.ns .i64 bc)) (h1 : Rd (fun _ => True) w0 (.slice p1 bd.length c1) (.ns .u8 bd)) (h2 : Rd (fun _ => True) w0 (.slice p2 l.length c2) (.ns .u8 l)) (h5 : Rd (fun _ => True) w0 (.slice p5 more.length c5) (.ns .u8 more)) (h6 : Rd (fun _ => True) w0 (.slice p6 confs.length c6) (.ns .i64 confs))
    (hrd : ByteL rd) (hbd : ByteL bd) (hmore : ByteL more) (hbl : ∀ j, j < l.length → 0 ≤ l.getD j 0 ∧ l.getD j 0 ≤ 255) (hwhat : what ≤ 255) :
    Calls Try.prog 3 #[.agg #[.int .i64 ri, .int .i64 rt, .int .i64 rk, .slice p0 rd.length c0], .agg #[.int .i64 bi, .int .i64 bt, .slice pb bc.length cb, .slice p1 bd.length c1], .slice p2 l.length c2, .int .u8 (what : Int), .int .i64 v, .slice p5 more.length c5, .slice p6 confs.length c6] w0 fun e w' => e = .returned (.bool true) ∧ Below w0.heap.size w0 w' := by
  refine enter (fn := Try.f3) Try.func3 rfl Try.ntmps3 rfl (fun a0 ha0 => ?_)
  simp only [List.zipIdx_cons, List.zipIdx_nil, List.map_cons, List.map_nil, Nat.reduceAdd, Nat.zero_add] at ha0
  obtain ⟨v7, hv7⟩ : ∃ r, IntKind.i64.wrap ((BitVec.ofInt IntKind.i64.bits v &&& BitVec.ofInt IntKind.i64.bits 7).toNat : Int) = r := ⟨_, rfl⟩
  obtain ⟨va, hva⟩ : ∃ r, IntKind.i64.wrap ((BitVec.ofInt IntKind.i64.bits v &&& BitVec.ofInt IntKind.i64.bits 255).toNat : Int) = r := ⟨_, rfl⟩
  obtain ⟨ba, hba⟩ : ∃ r, IntKind.i64.wrap ((BitVec.ofInt IntKind.i64.bits bi &&& BitVec.ofInt IntKind.i64.bits 255).toNat : Int) = r := ⟨_, rfl⟩
  obtain ⟨bb, hbb⟩ : ∃ r, IntKind.i64.wrap ((BitVec.ofInt IntKind.i64.bits bt &&& BitVec.ofInt IntKind.i64.bits 255).toNat : Int) = r := ⟨_, rfl⟩
  have m200001 := (MemOk.start (fun _ => True) w0).dat 1 rfl (h0.cast (fun _ _ => free_nil (fun _ => trivial)))
  have m200002 := m200001.dat 2 rfl (hb0.cast (fun _ _ => free_add rfl (free_nil (fun _ => trivial))))
  have m200003 := m200002.dat 3 rfl (h1.cast (fun _ _ => free_add rfl (free_add rfl (free_nil (fun _ => trivial)))))
  have m200004 := m200003.dat 4 rfl (h2.cast (fun _ _ => free_add rfl (free_add rfl (free_add rfl (free_nil (fun _ => trivial))))))
  have m200005 := m200004.dat 5 rfl (h5.cast (fun _ _ => free_add rfl (free_add rfl (free_add rfl (free_add rfl (free_nil (fun _ => trivial)))))))
  have m0 := m200005.dat 6 rfl (h6.cast (fun _ _ => free_add rfl (free_add rfl (free_add rfl (free_add rfl (free_add rfl (free_nil (fun _ => trivial))))))))
  clear m200001 m200002 m200003 m200004 m200005
  refine wp_seq_k (fun K0 hK0 => ?_)
  refine wp_region_lit ?_
  refine wpList_plain rfl (fun K hK => ?_)
  refine e_box ha0 m0 7 (cs := [_, _, _, _]) rfl rfl rfl ?_
  clear ha0 a0 m0; intro g1 a2 w2 ha2 m2 hB2 hg2
  clear hB2 hg2
  refine hK _ _ ?_; clear hK K
  refine wpList_plain rfl (fun K hK => ?_)
  refine e_box ha2 m2 8 (cs := [_, _, _, _]) rfl rfl rfl ?_
  clear ha2 a2 m2; intro g3 a4 w4 ha4 m4 hB4 hg4
  clear hB4 hg4
  refine hK _ _ ?_; clear hK K
  refine st_y ha4 rfl (y_assign ha4 rfl) ?_
  clear ha4 a4; intro a5 ha5
  refine wpList_nil ?_
  refine hK0 _ _ ?_; clear hK0; try clear K0
  refine wp_seq_k (fun K1 hK1 => ?_)
  refine wp_seq_k (fun K2 hK2 => ?_)
  refine wp_region_lit ?_
  refine wpList_plain rfl (fun K hK => ?_)
  refine e_call ha5 Try.func6 rfl rfl rfl rfl (eknown_any _) ?_
  rintro e w6 ⟨rfl, hb6⟩
  have m7 := m4.later hb6
  clear m4
  clear hb6
  refine ⟨_, rfl, fun a8 ha8 => ?_⟩; clear ha5 a5
  refine hK _ _ ?_; clear hK K
  refine st_y ha8 rfl (y_not ha8 rfl) ?_
  clear ha8 a8; intro a9 ha9
  refine wpList_nil ?_
  refine hK2 _ _ ?_; clear hK2; try clear K2
  refine wp_cond_false (ha9.ev (x := .tmp 32) rfl) ?_
  refine wp_skip ?_
  refine hK1 _ _ ?_; clear hK1; try clear K1
  refine wp_seq_k (fun K3 hK3 => ?_)
  refine wp_seq_k (fun K4 hK4 => ?_)
  refine wp_region_lit ?_
  refine st_y ha9 rfl (y_fieldAddr ha9 (off := 3) rfl Try.underlying24 rfl (s := 0) (by kernel_rfl) rfl) ?_
  clear ha9 a9; intro a10 ha10
  refine st_y ha10 rfl (y_loadB1 ha10 m7 (i := 7) rfl rfl rfl Try.underlying22 rfl) ?_
  clear ha10 a10; intro a11 ha11
  refine st_y ha11 rfl (y_len ha11 rfl Try.underlying22) ?_
  clear ha11 a11; intro a12 ha12
  refine st_y ha12 rfl (y_gtr ha12 rfl rfl) ?_
  clear ha12 a12; intro a13 ha13
  refine st_y ha13 rfl (y_move ha13 rfl) ?_
  clear ha13 a13; intro a14 ha14
  refine bool_cases ha14 (t := 37) rfl (fun hb15 ha15 => ?_) (fun hb15 ha15 => ?_)
  · skip
    clear ha14
    try simp only [decide_eq_true_eq, decide_eq_false_iff_not, Bool.not_eq_true, Bool.not_eq_false, Bool.not_eq_eq_eq_not, Bool.not_true, Bool.not_false, Bool.not_not, Int.not_lt, Int.not_le, ne_eq, Decidable.not_not] at hb15
    refine st_skip ha15 rfl rfl rfl rfl ?_
    clear ha15 a14; intro a16 ha16
    refine st_skip ha16 rfl rfl rfl rfl ?_
    clear ha16 a16; intro a17 ha17
    refine st_skip ha17 rfl rfl rfl rfl ?_
    clear ha17 a17; intro a18 ha18
    refine st_skip ha18 rfl rfl rfl rfl ?_
    clear ha18 a18; intro a19 ha19
    refine st_y ha19 rfl (y_pickT ha19 rfl rfl) ?_
    clear ha19 a19; intro a20 ha20
    refine st_y ha20 rfl (y_move ha20 rfl) ?_
    clear ha20 a20; intro a21 ha21
    refine st_skip ha21 rfl rfl rfl rfl ?_
    clear ha21 a21; intro a22 ha22
    refine st_skip ha22 rfl rfl rfl rfl ?_
    clear ha22 a22; intro a23 ha23
    refine st_skip ha23 rfl rfl rfl rfl ?_
    clear ha23 a23; intro a24 ha24
    refine st_skip ha24 rfl rfl rfl rfl ?_
    clear ha24 a24; intro a25 ha25
    refine st_y ha25 rfl (y_pickT ha25 rfl rfl) ?_
    clear ha25 a25; intro a26 ha26
    refine st_y ha26 rfl (y_move ha26 rfl) ?_
    clear ha26 a26; intro a27 ha27
    refine st_skip ha27 rfl rfl rfl rfl ?_
    clear ha27 a27; intro a28 ha28
    refine st_skip ha28 rfl rfl rfl rfl ?_
    clear ha28 a28; intro a29 ha29
    refine st_skip ha29 rfl rfl rfl rfl ?_
    clear ha29 a29; intro a30 ha30
    refine st_y ha30 rfl (y_pickT ha30 rfl rfl) ?_
    clear ha30 a30; intro a31 ha31
    refine st_y ha31 rfl (y_move ha31 rfl) ?_
    clear ha31 a31; intro a32 ha32
    refine st_skip ha32 rfl rfl rfl rfl ?_
    clear ha32 a32; intro a33 ha33
    refine st_skip ha33 rfl rfl rfl rfl ?_
    clear ha33 a33; intro a34 ha34
    refine st_skip ha34 rfl rfl rfl rfl ?_
    clear ha34 a34; intro a35 ha35
    refine st_y ha35 rfl (y_pickT ha35 rfl rfl) ?_
    clear ha35 a35; intro a36 ha36
    refine st_y ha36 rfl (y_move ha36 rfl) ?_
    clear ha36 a36; intro a37 ha37
    refine st_skip ha37 rfl rfl rfl rfl ?_
    clear ha37 a37; intro a38 ha38
    refine st_skip ha38 rfl rfl rfl rfl ?_
    clear ha38 a38; intro a39 ha39
    refine st_skip ha39 rfl rfl rfl rfl ?_
    clear ha39 a39; intro a40 ha40
    refine st_y ha40 rfl (y_pickT ha40 rfl rfl) ?_
    clear ha40 a40; intro a41 ha41
    refine wpList_nil ?_
    refine hK4 _ _ ?_; clear hK4; try clear K4
    refine wp_cond_true (ha41.ev (x := .tmp 63) rfl) ?_
    refine wp_seq_k (fun K5 hK5 => ?_)
    have ha42 : Has 233 [(2, _), (3, _), (4, _), (5, _), (6, _), (7, _), (8, _), (14, _)] a41 := ha41.only [2, 3, 4, 5, 6, 7, 8, 14]; clear ha41
    refine wp_region_lit ?_
    refine st_y ha42 rfl (y_assign ha42 rfl) ?_
    clear ha42 a41; intro a43 ha43
    refine wpList_nil ?_
    refine hK5 _ _ ?_; clear hK5; try clear K5
    refine wp_ret ?_
    try dsimp only [Exit.then, Exit.inBlock]
    refine (ret1 (fn := Try.f3) ha43 rfl rfl ?_)
    exact ⟨rfl, m7.below⟩
  · skip
    clear ha14
    try simp only [decide_eq_true_eq, decide_eq_false_iff_not, Bool.not_eq_true, Bool.not_eq_false, Bool.not_eq_eq_eq_not, Bool.not_true, Bool.not_false, Bool.not_not, Int.not_lt, Int.not_le, ne_eq, Decidable.not_not] at hb15
    refine st_g ha15 rfl rfl rfl rfl (y_fieldAddr ha15 (off := 3) rfl Try.underlying27 rfl (s := 0) (by kernel_rfl) rfl) ?_
    clear ha15 a14; intro a44 ha44
    refine st_g ha44 rfl rfl rfl rfl (y_loadB1 ha44 m7 (i := 8) rfl rfl rfl Try.underlying22 rfl) ?_
    clear ha44 a44; intro a45 ha45
    refine st_g ha45 rfl rfl rfl rfl (y_len ha45 rfl Try.underlying22) ?_
    clear ha45 a45; intro a46 ha46
    refine st_g ha46 rfl rfl rfl rfl (y_gtr ha46 rfl rfl) ?_
    clear ha46 a46; intro a47 ha47
    refine st_y ha47 rfl (y_pickF ha47 rfl rfl) ?_
    clear ha47 a47; intro a48 ha48
    refine st_y ha48 rfl (y_move ha48 rfl) ?_
    clear ha48 a48; intro a49 ha49
    refine bool_cases ha49 (t := 43) rfl (fun hb50 ha50 => ?_) (fun hb50 ha50 => ?_)
    · skip
      clear ha49
      try simp only [decide_eq_true_eq, decide_eq_false_iff_not, Bool.not_eq_true, Bool.not_eq_false, Bool.not_eq_eq_eq_not, Bool.not_true, Bool.not_false, Bool.not_not, Int.not_lt, Int.not_le, ne_eq, Decidable.not_not] at hb50
      refine st_skip ha50 rfl rfl rfl rfl ?_
      clear ha50 a49; intro a51 ha51
      refine st_skip ha51 rfl rfl rfl rfl ?_
      clear ha51 a51; intro a52 ha52
      refine st_skip ha52 rfl rfl rfl rfl ?_
      clear ha52 a52; intro a53 ha53
      refine st_skip ha53 rfl rfl rfl rfl ?_
      clear ha53 a53; intro a54 ha54
      refine st_y ha54 rfl (y_pickT ha54 rfl rfl) ?_
      clear ha54 a54; intro a55 ha55
      refine st_y ha55 rfl (y_move ha55 rfl) ?_
      clear ha55 a55; intro a56 ha56
      refine st_skip ha56 rfl rfl rfl rfl ?_
      clear ha56 a56; intro a57 ha57
      refine st_skip ha57 rfl rfl rfl rfl ?_
      clear ha57 a57; intro a58 ha58
      refine st_skip ha58 rfl rfl rfl rfl ?_
      clear ha58 a58; intro a59 ha59
      refine st_y ha59 rfl (y_pickT ha59 rfl rfl) ?_
      clear ha59 a59; intro a60 ha60
      refine st_y ha60 rfl (y_move ha60 rfl) ?_
      clear ha60 a60; intro a61 ha61
      refine st_skip ha61 rfl rfl rfl rfl ?_
      clear ha61 a61; intro a62 ha62
      refine st_skip ha62 rfl rfl rfl rfl ?_
      clear ha62 a62; intro a63 ha63
      refine st_skip ha63 rfl rfl rfl rfl ?_
      clear ha63 a63; intro a64 ha64
      refine st_y ha64 rfl (y_pickT ha64 rfl rfl) ?_
      clear ha64 a64; intro a65 ha65
      refine st_y ha65 rfl (y_move ha65 rfl) ?_
      clear ha65 a65; intro a66 ha66
      refine st_skip ha66 rfl rfl rfl rfl ?_
      clear ha66 a66; intro a67 ha67
      refine st_skip ha67 rfl rfl rfl rfl ?_
      clear ha67 a67; intro a68 ha68
      refine st_skip ha68 rfl rfl rfl rfl ?_
      clear ha68 a68; intro a69 ha69
      refine st_y ha69 rfl (y_pickT ha69 rfl rfl) ?_
      clear ha69 a69; intro a70 ha70
      refine wpList_nil ?_
      refine hK4 _ _ ?_; clear hK4; try clear K4
      refine wp_cond_true (ha70.ev (x := .tmp 63) rfl) ?_
      refine wp_seq_k (fun K6 hK6 => ?_)
      have ha71 : Has 233 [(2, _), (3, _), (4, _), (5, _), (6, _), (7, _), (8, _), (14, _)] a70 := ha70.only [2, 3, 4, 5, 6, 7, 8, 14]; clear ha70
      refine wp_region_lit ?_
      refine st_y ha71 rfl (y_assign ha71 rfl) ?_
      clear ha71 a70; intro a72 ha72
      refine wpList_nil ?_
      refine hK6 _ _ ?_; clear hK6; try clear K6
      refine wp_ret ?_
      try dsimp only [Exit.then, Exit.inBlock]
      refine (ret1 (fn := Try.f3) ha72 rfl rfl ?_)
      exact ⟨rfl, m7.below⟩
    · skip
      clear ha49
      try simp only [decide_eq_true_eq, decide_eq_false_iff_not, Bool.not_eq_true, Bool.not_eq_false, Bool.not_eq_eq_eq_not, Bool.not_true, Bool.not_false, Bool.not_not, Int.not_lt, Int.not_le, ne_eq, Decidable.not_not] at hb50
      refine st_g ha50 rfl rfl rfl rfl (y_fieldAddr ha50 (off := 2) rfl Try.underlying27 rfl (s := 0) (by kernel_rfl) rfl) ?_
      clear ha50 a49; intro a73 ha73
      refine st_g ha73 rfl rfl rfl rfl (y_loadB1 ha73 m7 (i := 8) rfl rfl rfl Try.underlying25 rfl) ?_
      clear ha73 a73; intro a74 ha74
      refine st_g ha74 rfl rfl rfl rfl (y_len ha74 rfl Try.underlying25) ?_
      clear ha74 a74; intro a75 ha75
      refine st_g ha75 rfl rfl rfl rfl (y_gtr ha75 rfl rfl) ?_
      clear ha75 a75; intro a76 ha76
      refine st_y ha76 rfl (y_pickF ha76 rfl rfl) ?_
      clear ha76 a76; intro a77 ha77
      refine st_y ha77 rfl (y_move ha77 rfl) ?_
      clear ha77 a77; intro a78 ha78
      refine bool_cases ha78 (t := 49) rfl (fun hb79 ha79 => ?_) (fun hb79 ha79 => ?_)
      · skip
        clear ha78
        try simp only [decide_eq_true_eq, decide_eq_false_iff_not, Bool.not_eq_true, Bool.not_eq_false, Bool.not_eq_eq_eq_not, Bool.not_true, Bool.not_false, Bool.not_not, Int.not_lt, Int.not_le, ne_eq, Decidable.not_not] at hb79
        refine st_skip ha79 rfl rfl rfl rfl ?_
        clear ha79 a78; intro a80 ha80
        refine st_skip ha80 rfl rfl rfl rfl ?_
        clear ha80 a80; intro a81 ha81
        refine st_skip ha81 rfl rfl rfl rfl ?_
        clear ha81 a81; intro a82 ha82
        refine st_y ha82 rfl (y_pickT ha82 rfl rfl) ?_
        clear ha82 a82; intro a83 ha83
        refine st_y ha83 rfl (y_move ha83 rfl) ?_
        clear ha83 a83; intro a84 ha84
        refine st_skip ha84 rfl rfl rfl rfl ?_
        clear ha84 a84; intro a85 ha85
        refine st_skip ha85 rfl rfl rfl rfl ?_
        clear ha85 a85; intro a86 ha86
        refine st_skip ha86 rfl rfl rfl rfl ?_
        clear ha86 a86; intro a87 ha87
        refine st_y ha87 rfl (y_pickT ha87 rfl rfl) ?_
        clear ha87 a87; intro a88 ha88
        refine st_y ha88 rfl (y_move ha88 rfl) ?_
        clear ha88 a88; intro a89 ha89
        refine st_skip ha89 rfl rfl rfl rfl ?_
        clear ha89 a89; intro a90 ha90
        refine st_skip ha90 rfl rfl rfl rfl ?_
        clear ha90 a90; intro a91 ha91
        refine st_skip ha91 rfl rfl rfl rfl ?_
        clear ha91 a91; intro a92 ha92
        refine st_y ha92 rfl (y_pickT ha92 rfl rfl) ?_
        clear ha92 a92; intro a93 ha93
        refine wpList_nil ?_
        refine hK4 _ _ ?_; clear hK4; try clear K4
        refine wp_cond_true (ha93.ev (x := .tmp 63) rfl) ?_
        refine wp_seq_k (fun K7 hK7 => ?_)
        have ha94 : Has 233 [(2, _), (3, _), (4, _), (5, _), (6, _), (7, _), (8, _), (14, _)] a93 := ha93.only [2, 3, 4, 5, 6, 7, 8, 14]; clear ha93
        refine wp_region_lit ?_
        refine st_y ha94 rfl (y_assign ha94 rfl) ?_
        clear ha94 a93; intro a95 ha95
        refine wpList_nil ?_
        refine hK7 _ _ ?_; clear hK7; try clear K7
        refine wp_ret ?_
        try dsimp only [Exit.then, Exit.inBlock]
        refine (ret1 (fn := Try.f3) ha95 rfl rfl ?_)
        exact ⟨rfl, m7.below⟩
      · skip
        clear ha78
        try simp only [decide_eq_true_eq, decide_eq_false_iff_not, Bool.not_eq_true, Bool.not_eq_false, Bool.not_eq_eq_eq_not, Bool.not_true, Bool.not_false, Bool.not_not, Int.not_lt, Int.not_le, ne_eq, Decidable.not_not] at hb79
        refine st_g ha79 rfl rfl rfl rfl (y_move ha79 rfl) ?_
        clear ha79 a78; intro a96 ha96
        refine st_g ha96 rfl rfl rfl rfl (y_len ha96 rfl Try.underlying22) ?_
        clear ha96 a96; intro a97 ha97
        refine st_g ha97 rfl rfl rfl rfl (y_gtr ha97 rfl rfl) ?_
        clear ha97 a97; intro a98 ha98
        refine st_y ha98 rfl (y_pickF ha98 rfl rfl) ?_
        clear ha98 a98; intro a99 ha99
        refine st_y ha99 rfl (y_move ha99 rfl) ?_
        clear ha99 a99; intro a100 ha100
        refine bool_cases ha100 (t := 54) rfl (fun hb101 ha101 => ?_) (fun hb101 ha101 => ?_)
        · skip
          clear ha100
          try simp only [decide_eq_true_eq, decide_eq_false_iff_not, Bool.not_eq_true, Bool.not_eq_false, Bool.not_eq_eq_eq_not, Bool.not_true, Bool.not_false, Bool.not_not, Int.not_lt, Int.not_le, ne_eq, Decidable.not_not] at hb101
          refine st_skip ha101 rfl rfl rfl rfl ?_
          clear ha101 a100; intro a102 ha102
          refine st_skip ha102 rfl rfl rfl rfl ?_
          clear ha102 a102; intro a103 ha103
          refine st_skip ha103 rfl rfl rfl rfl ?_
          clear ha103 a103; intro a104 ha104
          refine st_y ha104 rfl (y_pickT ha104 rfl rfl) ?_
          clear ha104 a104; intro a105 ha105
          refine st_y ha105 rfl (y_move ha105 rfl) ?_
          clear ha105 a105; intro a106 ha106
          refine st_skip ha106 rfl rfl rfl rfl ?_
          clear ha106 a106; intro a107 ha107
          refine st_skip ha107 rfl rfl rfl rfl ?_
          clear ha107 a107; intro a108 ha108
          refine st_skip ha108 rfl rfl rfl rfl ?_
          clear ha108 a108; intro a109 ha109
          refine st_y ha109 rfl (y_pickT ha109 rfl rfl) ?_
          clear ha109 a109; intro a110 ha110
          refine wpList_nil ?_
          refine hK4 _ _ ?_; clear hK4; try clear K4
          refine wp_cond_true (ha110.ev (x := .tmp 63) rfl) ?_
          refine wp_seq_k (fun K8 hK8 => ?_)
          have ha111 : Has 233 [(2, _), (3, _), (4, _), (5, _), (6, _), (7, _), (8, _), (14, _)] a110 := ha110.only [2, 3, 4, 5, 6, 7, 8, 14]; clear ha110
          refine wp_region_lit ?_
          refine st_y ha111 rfl (y_assign ha111 rfl) ?_
          clear ha111 a110; intro a112 ha112
          refine wpList_nil ?_
          refine hK8 _ _ ?_; clear hK8; try clear K8
          refine wp_ret ?_
          try dsimp only [Exit.then, Exit.inBlock]
          refine (ret1 (fn := Try.f3) ha112 rfl rfl ?_)
          exact ⟨rfl, m7.below⟩
        · skip
          clear ha100
          try simp only [decide_eq_true_eq, decide_eq_false_iff_not, Bool.not_eq_true, Bool.not_eq_false, Bool.not_eq_eq_eq_not, Bool.not_true, Bool.not_false, Bool.not_not, Int.not_lt, Int.not_le, ne_eq, Decidable.not_not] at hb101
          refine st_g ha101 rfl rfl rfl rfl (y_move ha101 rfl) ?_
          clear ha101 a100; intro a113 ha113
          refine st_g ha113 rfl rfl rfl rfl (y_len ha113 rfl Try.underlying22) ?_
          clear ha113 a113; intro a114 ha114
          refine st_g ha114 rfl rfl rfl rfl (y_gtr ha114 rfl rfl) ?_
          clear ha114 a114; intro a115 ha115
          refine st_y ha115 rfl (y_pickF ha115 rfl rfl) ?_
          clear ha115 a115; intro a116 ha116
          refine st_y ha116 rfl (y_move ha116 rfl) ?_
          clear ha116 a116; intro a117 ha117
          refine bool_cases ha117 (t := 59) rfl (fun hb118 ha118 => ?_) (fun hb118 ha118 => ?_)
          · skip
            clear ha117
            try simp only [decide_eq_true_eq, decide_eq_false_iff_not, Bool.not_eq_true, Bool.not_eq_false, Bool.not_eq_eq_eq_not, Bool.not_true, Bool.not_false, Bool.not_not, Int.not_lt, Int.not_le, ne_eq, Decidable.not_not] at hb118
            refine st_skip ha118 rfl rfl rfl rfl ?_
            clear ha118 a117; intro a119 ha119
            refine st_skip ha119 rfl rfl rfl rfl ?_
            clear ha119 a119; intro a120 ha120
            refine st_skip ha120 rfl rfl rfl rfl ?_
            clear ha120 a120; intro a121 ha121
            refine st_y ha121 rfl (y_pickT ha121 rfl rfl) ?_
            clear ha121 a121; intro a122 ha122
            refine wpList_nil ?_
            refine hK4 _ _ ?_; clear hK4; try clear K4
            refine wp_cond_true (ha122.ev (x := .tmp 63) rfl) ?_
            refine wp_seq_k (fun K9 hK9 => ?_)
            have ha123 : Has 233 [(2, _), (3, _), (4, _), (5, _), (6, _), (7, _), (8, _), (14, _)] a122 := ha122.only [2, 3, 4, 5, 6, 7, 8, 14]; clear ha122
            refine wp_region_lit ?_
            refine st_y ha123 rfl (y_assign ha123 rfl) ?_
            clear ha123 a122; intro a124 ha124
            refine wpList_nil ?_
            refine hK9 _ _ ?_; clear hK9; try clear K9
            refine wp_ret ?_
            try dsimp only [Exit.then, Exit.inBlock]
            refine (ret1 (fn := Try.f3) ha124 rfl rfl ?_)
            exact ⟨rfl, m7.below⟩
          · skip
            clear ha117
            try simp only [decide_eq_true_eq, decide_eq_false_iff_not, Bool.not_eq_true, Bool.not_eq_false, Bool.not_eq_eq_eq_not, Bool.not_true, Bool.not_false, Bool.not_not, Int.not_lt, Int.not_le, ne_eq, Decidable.not_not] at hb118
            refine st_g ha118 rfl rfl rfl rfl (y_move ha118 rfl) ?_
            clear ha118 a117; intro a125 ha125
            refine st_g ha125 rfl rfl rfl rfl (y_len ha125 rfl Try.underlying25) ?_
            clear ha125 a125; intro a126 ha126
            refine st_g ha126 rfl rfl rfl rfl (y_gtr ha126 rfl rfl) ?_
            clear ha126 a126; intro a127 ha127
            refine st_y ha127 rfl (y_pickF ha127 rfl rfl) ?_
            clear ha127 a127; intro a128 ha128
            refine wpList_nil ?_
            refine hK4 _ _ ?_; clear hK4; try clear K4
            refine bool_cases ha128 (t := 63) rfl (fun hb129 ha129 => ?_) (fun hb129 ha129 => ?_)
            · skip
              clear ha128
              try simp only [decide_eq_true_eq, decide_eq_false_iff_not, Bool.not_eq_true, Bool.not_eq_false, Bool.not_eq_eq_eq_not, Bool.not_true, Bool.not_false, Bool.not_not, Int.not_lt, Int.not_le, ne_eq, Decidable.not_not] at hb129
              refine wp_cond_true (ha129.ev (x := .tmp 63) rfl) ?_
              refine wp_seq_k (fun K10 hK10 => ?_)
              have ha130 : Has 233 [(2, _), (3, _), (4, _), (5, _), (6, _), (7, _), (8, _), (14, _)] a128 := ha129.only [2, 3, 4, 5, 6, 7, 8, 14]; clear ha129
              refine wp_region_lit ?_
              refine st_y ha130 rfl (y_assign ha130 rfl) ?_
              clear ha130 a128; intro a131 ha131
              refine wpList_nil ?_
              refine hK10 _ _ ?_; clear hK10; try clear K10
              refine wp_ret ?_
              try dsimp only [Exit.then, Exit.inBlock]
              refine (ret1 (fn := Try.f3) ha131 rfl rfl ?_)
              exact ⟨rfl, m7.below⟩
            · skip
              clear ha128
              try simp only [decide_eq_true_eq, decide_eq_false_iff_not, Bool.not_eq_true, Bool.not_eq_false, Bool.not_eq_eq_eq_not, Bool.not_true, Bool.not_false, Bool.not_not, Int.not_lt, Int.not_le, ne_eq, Decidable.not_not] at hb129
              refine wp_cond_false (ha129.ev (x := .tmp 63) rfl) ?_
              refine wp_skip ?_
              refine hK3 _ _ ?_; clear hK3; try clear K3
              refine wp_seq_k (fun K11 hK11 => ?_)
              have hC11 : ∀ (a : Act) (w : World), (∃ (g7 g8 : Nat) (pE : Option Addr) (cE : Nat), Has 233 [(2, .slice p2 l.length c2), (3, .int .u8 (what : Int)), (4, .int .i64 v), (5, .slice p5 more.length c5), (6, .slice p6 confs.length c6), (7, .pointer (some ⟨g7, 0, none⟩)), (8, .pointer (some ⟨g8, 0, none⟩)), (15, .slice pE (((es0 ri rt rk rd what l)).map entD).length cE)] a ∧ MemOk (cx (fun _ => True) w0) w0 [(1, .dat (.slice p0 rd.length c0) (.ns .u8 rd)), (2, .dat (.slice pb bc.length cb) (.ns .i64 bc)), (3, .dat (.slice p1 bd.length c1) (.ns .u8 bd)), (4, .dat (.slice p2 l.length c2) (.ns .u8 l)), (5, .dat (.slice p5 more.length c5) (.ns .u8 more)), (6, .dat (.slice p6 confs.length c6) (.ns .i64 confs)), (7, .box g7 24 [.int .i64 ri, .int .i64 rt, .int .i64 rk, .slice p0 rd.length c0]), (8, .box g8 27 [.int .i64 bi, .int .i64 bt, .slice pb bc.length cb, .slice p1 bd.length c1]), (9, .row (.slice pE (((es0 ri rt rk rd what l)).map entD).length cE) 24 4 (((es0 ri rt rk rd what l)).map entD))] w) → K11 a w := by
                clear ha129 m7
                rintro a132 w132 ⟨g7, g8, pE, cE, ha132, m132⟩
                refine hK11 _ _ ?_; clear hK11; try clear K11
                refine wp_seq_k (fun K12 hK12 => ?_)
                have hC12 : ∀ (a : Act) (w : World), (∃ (ES : List (Int × Int × Int × List Int)) (g7 g8 : Nat) (pE : Option Addr) (cE : Nat), ES.length ≤ 20 ∧ (∀ e ∈ ES, ByteL e.2.2.2 ∧ e.2.2.2.length ≤ 100) ∧ Has 233 [(2, .slice p2 l.length c2), (3, .int .u8 (what : Int)), (4, .int .i64 v), (5, .slice p5 more.length c5), (6, .slice p6 confs.length c6), (7, .pointer (some ⟨g7, 0, none⟩)), (8, .pointer (some ⟨g8, 0, none⟩)), (15, .slice pE (ES.map entD).length cE)] a ∧ MemOk (cx (fun _ => True) w0) w0 [(1, .dat (.slice p0 rd.length c0) (.ns .u8 rd)), (2, .dat (.slice pb bc.length cb) (.ns .i64 bc)), (3, .dat (.slice p1 bd.length c1) (.ns .u8 bd)), (4, .dat (.slice p2 l.length c2) (.ns .u8 l)), (5, .dat (.slice p5 more.length c5) (.ns .u8 more)), (6, .dat (.slice p6 confs.length c6) (.ns .i64 confs)), (7, .box g7 24 [.int .i64 ri, .int .i64 rt, .int .i64 rk, .slice p0 rd.length c0]), (8, .box g8 27 [.int .i64 bi, .int .i64 bt, .slice pb bc.length cb, .slice p1 bd.length c1]), (9, .row (.slice pE (ES.map entD).length cE) 24 4 (ES.map entD))] w) → K12 a w := by
                  clear ha132 m132
                  rintro a133 w133 ⟨ES, g7, g8, pE, cE, hES, hEB, ha133, m133⟩
                  refine hK12 _ _ ?_; clear hK12; try clear K12
                  refine wp_seq_k (fun K13 hK13 => ?_)
                  refine wp_seq_k (fun K14 hK14 => ?_)
                  refine wp_region_lit ?_
                  refine st_y ha133 rfl (y_assign ha133 rfl) ?_
                  clear ha133 a133; intro a134 ha134
                  refine wpList_nil ?_
                  refine hK14 _ _ ?_; clear hK14; try clear K14
                  refine wp_block ?_
                  have m135 := m133.freezeR 9 rfl; clear m133
                  refine wp_loop_ghost (fun g a w => ∃ (k : Nat) (pE : Option Addr) (cE : Nat), k ≤ ES.length ∧ g = ES.length - k ∧ Has 233 [(2, .slice p2 l.length c2), (3, .int .u8 (what : Int)), (4, .int .i64 v), (5, .slice p5 more.length c5), (6, .slice p6 confs.length c6), (7, .pointer (some ⟨g7, 0, none⟩)), (8, .pointer (some ⟨g8, 0, none⟩)), (15, .slice pE (ES.map entD).length cE), (16, .int .i64 k)] a ∧ MemOk (cx (fun _ => True) w0) w0 [(1, .dat (.slice p0 rd.length c0) (.ns .u8 rd)), (2, .dat (.slice pb bc.length cb) (.ns .i64 bc)), (3, .dat (.slice p1 bd.length c1) (.ns .u8 bd)), (4, .dat (.slice p2 l.length c2) (.ns .u8 l)), (5, .dat (.slice p5 more.length c5) (.ns .u8 more)), (6, .dat (.slice p6 confs.length c6) (.ns .i64 confs)), (7, .box g7 24 [.int .i64 ri, .int .i64 rt, .int .i64 rk, .slice p0 rd.length c0]), (8, .box g8 27 [.int .i64 bi, .int .i64 bt, .slice pb bc.length cb, .slice p1 bd.length c1]), (9, .dat (.slice pE (ES.map entD).length cE) (.l 4 (ES.map entD)))] w) (ES.length) ?_ ?_
                  · exact ⟨0, _, _, Nat.zero_le _, rfl, ha134.only [2, 3, 4, 5, 6, 7, 8, 15, 16], m135.only [1, 2, 3, 4, 5, 6, 7, 8, 9]⟩
                  · skip
                    clear ha134 m135
                    rintro g a136 w136 ⟨k, pE, cE, hkl, hg, ha136, m136⟩
                    refine wp_seq_k (fun K15 hK15 => ?_)
                    refine wp_seq_k (fun K16 hK16 => ?_)
                    refine wp_region_lit ?_
                    refine st_y ha136 rfl (y_move ha136 rfl) ?_
                    clear ha136 a136; intro a137 ha137
                    refine st_y ha137 rfl (y_move ha137 rfl) ?_
                    clear ha137 a137; intro a138 ha138
                    refine st_y ha138 rfl (y_len ha138 rfl Try.underlying29) ?_
                    clear ha138 a138; intro a139 ha139
                    refine st_y ha139 rfl (y_lss ha139 rfl rfl) ?_
                    clear ha139 a139; intro a140 ha140
                    refine wpList_nil ?_
                    refine hK16 _ _ ?_; clear hK16; try clear K16
                    refine bool_cases ha140 (t := 94) rfl (fun hb141 ha141 => ?_) (fun hb141 ha141 => ?_)
                    · skip
                      clear ha140
                      try simp only [decide_eq_true_eq, decide_eq_false_iff_not, Bool.not_eq_true, Bool.not_eq_false, Bool.not_eq_eq_eq_not, Bool.not_true, Bool.not_false, Bool.not_not, Int.not_lt, Int.not_le, ne_eq, Decidable.not_not] at hb141
                      have hk : k < ES.length := by rw [List.length_map] at hb141; omega
                      obtain ⟨⟨ei, et, ek, ed⟩, hen⟩ : ∃ e, ES[k]? = some e := ⟨_, List.getElem?_eq_getElem hk⟩
                      obtain ⟨hed, hel⟩ := hEB _ (List.mem_of_getElem? hen)
                      dsimp only at hed hel
                      refine wp_cond_true (ha141.ev (x := .tmp 94) rfl) ?_
                      refine wp_skip ?_
                      refine hK15 _ _ ?_; clear hK15; try clear K15
                      refine wp_seq_k (fun K17 hK17 => ?_)
                      refine wp_block ?_
                      refine wp_seq_k (fun K18 hK18 => ?_)
                      refine wp_region_lit ?_
                      refine st_y ha141 rfl (y_move ha141 rfl) ?_
                      clear ha141 a140; intro a142 ha142
                      refine st_y ha142 rfl (y_move ha142 rfl) ?_
                      clear ha142 a142; intro a143 ha143
                      obtain ⟨b144, o144, vs144, hp144, hR144, ho144, m144⟩ := m136.openR (i := 9) rfl (k) (r := [.v (.int .i64 ei), .v (.int .i64 et), .v (.int .i64 ek), .ns .u8 ed]) (es_get hen) 300 rfl
                      cases hp144; clear m136 ho144
                      rcases hR144 with _ | ⟨hd144_0, _ | ⟨hd144_1, _ | ⟨hd144_2, _ | ⟨hd144_3, _ | _⟩⟩⟩⟩
                      obtain rfl := hd144_0.v_out
                      clear hd144_0
                      obtain rfl := hd144_1.v_out
                      clear hd144_1
                      obtain rfl := hd144_2.v_out
                      clear hd144_2
                      obtain ⟨p145, c145, hv145, hc145⟩ := hd144_3.ns_shape; subst hv145
                      have m145 := m144.dat 301 rfl (hd144_3.cast (fun _ h => (free_add rfl h))); clear m144 hd144_3
                      refine st_y ha143 rfl (y_idx ha143 rfl rfl Try.underlying29 sz24t (k) rfl (by rw [List.length_map]; exact hk)) ?_
                      clear ha143 a143; intro a146 ha146
                      refine st_y ha146 rfl (y_loadCR ha146 m145 (i := 300) rfl rfl Try.underlying24 rfl sz24t) ?_
                      clear ha146 a146; intro a147 ha147
                      refine wpList_plain rfl (fun K hK => ?_)
                      refine e_alloc ha147 m145 302 zc24t rfl ?_
                      clear ha147 a147 m145; intro g148 a149 w149 ha149 m149 hB149 hg149
                      clear hB149 hg149
                      refine hK _ _ ?_; clear hK K
                      refine wpList_plain rfl (fun K hK => ?_)
                      refine e_storeW ha149 m149 302 rfl rfl rfl rfl rfl sz24t ?_
                      clear m149; intro w150 m150 hB150
                      clear hB150
                      refine hK _ _ ?_; clear hK K
                      refine wpList_nil ?_
                      refine hK18 _ _ ?_; clear hK18; try clear K18
                      refine wp_seq_k (fun K19 hK19 => ?_)
                      have ha151 : Has 233 [(2, _), (3, _), (4, _), (5, _), (6, _), (7, _), (8, _), (15, _), (16, _), (17, _)] a149 := ha149.only [2, 3, 4, 5, 6, 7, 8, 15, 16, 17]; clear ha149
                      have m152 : MemOk _ _ [(1, _), (2, _), (3, _), (4, _), (5, _), (6, _), (7, _), (8, _), (9, _), (300, _), (301, _), (302, _)] _ := m150.only [1, 2, 3, 4, 5, 6, 7, 8, 9, 300, 301, 302]; clear m150
                      refine region_m 6 (B := [(1, _), (2, _), (3, _), (4, _), (5, _), (6, _), (7, _), (8, _), (9, _), (300, _), (301, _), (302, _)]) (m152.to ⟨.inl rfl, .inl rfl, .inl rfl, .inl rfl, .inl rfl, .inl rfl, .inl rfl, .inl rfl, .inl rfl, .inl rfl, .inl rfl, .inl rfl, trivial⟩) m152 (by kernel_rfl) (fun w153 mB153 m153 => ?_); clear m152 mB153
                      refine d_h 0 ha151 rfl rfl (m153.to ⟨.inl rfl, .inl rfl, .inl rfl, .inl rfl, .inl rfl, .inl rfl, .inl rfl, .inl rfl, .inl rfl, .inl rfl, .inl rfl, .inl rfl, trivial⟩) (by kernel_rfl) (by kernel_rfl) (by kernel_rfl) (by kernel_rfl) (by kernel_rfl) (fun _ _ _ h => h) (fun W hW => y_loadBR ha151 hW (i := 302) rfl rfl Try.underlying24 rfl sz24t (by simp) (by dsimp only [List.drop, List.take] <;> rfl)) ?_
                      clear ha151 a149; intro a154 ha154
                      refine d_h 2 ha154 rfl rfl (m153.to ⟨.inl rfl, .inl rfl, .inl rfl, .inl rfl, .inl rfl, .inl rfl, .inl rfl, .inl rfl, .inl rfl, .inl rfl, .inl rfl, .inl rfl, trivial⟩) (by kernel_rfl) (by kernel_rfl) (by kernel_rfl) (by kernel_rfl) (by kernel_rfl) (fun _ _ _ h => h) (fun W hW => y_loadBR ha154 hW (i := 302) rfl rfl Try.underlying24 rfl sz24t (by simp) (by dsimp only [List.drop, List.take] <;> rfl)) ?_
                      clear ha154 a154; intro a155 ha155
                      refine stepE_only 1 rfl (by kernel_rfl) rfl (fun K hK => ?_)
                      refine e_call ha155 Try.func9 rfl rfl rfl rfl (entPut_any _ _ _ _ _ _ (m153.nums (i := 301) rfl)) ?_
                      rintro e w156 ⟨u156, rfl, ho156, hb156⟩
                      replace ho156 : World.ownsRow w156 _ _ _ _ (entP ei et ek ed).length ((entP ei et ek ed).map (Value.int .u8)) := ho156
                      obtain ⟨pu156, cu156, hu156⟩ := ownsRow_shape ho156; subst hu156
                      have m157 := m153.newN 303 hb156 ho156
                      clear m153
                      clear hb156 ho156
                      refine ⟨_, rfl, fun a158 ha158 => ?_⟩; clear ha155 a155
                      refine hK _ _ (m157.to ⟨.inl rfl, .inl rfl, .inl rfl, .inl rfl, .inl rfl, .inl rfl, .inl rfl, .inl rfl, .inl rfl, .inl rfl, .inl rfl, .inl rfl, trivial⟩) ?_; clear hK K
                      have m159 := m157.freezeN 303 rfl; clear m157
                      refine stepE_only 3 rfl (by kernel_rfl) rfl (fun K hK => ?_)
                      refine e_call ha158 Try.func10 rfl rfl rfl rfl (rentPut_any _ _ _ _ _ _ (m159.nums (i := 301) rfl)) ?_
                      rintro e w160 ⟨u160, rfl, ho160, hb160⟩
                      replace ho160 : World.ownsRow w160 _ _ _ _ (entP ei et ek ed).length ((entP ei et ek ed).map (Value.int .u8)) := ho160
                      obtain ⟨pu160, cu160, hu160⟩ := ownsRow_shape ho160; subst hu160
                      have m161 := m159.newN 304 hb160 ho160
                      clear m159
                      clear hb160 ho160
                      refine ⟨_, rfl, fun a162 ha162 => ?_⟩; clear ha158 a158
                      refine hK _ _ (m161.to ⟨.inl rfl, .inl rfl, .inl rfl, .inl rfl, .inl rfl, .inl rfl, .inl rfl, .inl rfl, .inl rfl, .inl rfl, .inl rfl, .inl rfl, trivial⟩) ?_; clear hK K
                      have m163 := m161.freezeN 304 rfl; clear m161
                      refine d_y 4 ha162 rfl rfl (fun _ => (m163.to ⟨.inl rfl, .inl rfl, .inl rfl, .inl rfl, .inl rfl, .inl rfl, .inl rfl, .inl rfl, .inl rfl, .inl rfl, .inl rfl, .inl rfl, trivial⟩)) (by kernel_rfl) (by kernel_rfl) (by kernel_rfl) (by rfl) (fun _ _ _ h => h) (fun W => y_assign ha162 rfl) ?_
                      clear ha162 a162; intro a164 ha164
                      refine d_y 5 ha164 rfl rfl (fun _ => (m163.to ⟨.inl rfl, .inl rfl, .inl rfl, .inl rfl, .inl rfl, .inl rfl, .inl rfl, .inl rfl, .inl rfl, .inl rfl, .inl rfl, .inl rfl, trivial⟩)) (by kernel_rfl) (by kernel_rfl) (by kernel_rfl) (by rfl) (fun _ _ _ h => h) (fun W => y_assign ha164 rfl) ?_
                      clear ha164 a164; intro a165 ha165
                      refine wpAnyE_done (by kernel_rfl) ?_ _
                      refine hK19 _ _ ?_; clear hK19; try clear K19
                      refine wp_seq_k (fun K20 hK20 => ?_)
                      refine wp_seq_k (fun K21 hK21 => ?_)
                      have m166 : MemOk _ _ [(1, _), (2, _), (3, _), (4, _), (5, _), (6, _), (7, _), (8, _), (9, _), (300, _), (301, _), (302, _), (303, _), (304, _)] _ := m163.only [1, 2, 3, 4, 5, 6, 7, 8, 9, 300, 301, 302, 303, 304]; clear m163
                      refine region_m 21 (B := [(1, _), (2, _), (3, _), (4, _), (5, _), (6, _), (7, _), (8, _), (9, _), (300, _), (301, _), (302, _), (303, _), (304, _)]) (m166.to ⟨.inl rfl, .inl rfl, .inl rfl, .inl rfl, .inl rfl, .inl rfl, .inl rfl, .inl rfl, .inl rfl, .inl rfl, .inl rfl, .inl rfl, .inl rfl, .inl rfl, trivial⟩) m166 (by kernel_rfl) (fun w167 mB167 m167 => ?_); clear m166 mB167
                      refine d_y 0 ha165 rfl rfl (fun _ => (m167.to ⟨.inl rfl, .inl rfl, .inl rfl, .inl rfl, .inl rfl, .inl rfl, .inl rfl, .inl rfl, .inl rfl, .inl rfl, .inl rfl, .inl rfl, .inl rfl, .inl rfl, trivial⟩)) (by kernel_rfl) (by kernel_rfl) (by kernel_rfl) (by rfl) (fun _ _ _ h => h) (fun W => y_move ha165 rfl) ?_
                      clear ha165 a165; intro a168 ha168
                      refine d_h 1 ha168 rfl rfl (m167.to ⟨.inl rfl, .inl rfl, .inl rfl, .inl rfl, .inl rfl, .inl rfl, .inl rfl, .inl rfl, .inl rfl, .inl rfl, .inl rfl, .inl rfl, .inl rfl, .inl rfl, trivial⟩) (by kernel_rfl) (by kernel_rfl) (by kernel_rfl) (by kernel_rfl) (by kernel_rfl) (fun _ _ _ h => h) (fun W hW => y_str ha168 rfl (hW.nums (i := 303) rfl) Try.underlying22 Try.underlying5 Try.underlying9) ?_
                      clear ha168 a168; intro a169 ha169
                      refine d_y 2 ha169 rfl rfl (fun _ => (m167.to ⟨.inl rfl, .inl rfl, .inl rfl, .inl rfl, .inl rfl, .inl rfl, .inl rfl, .inl rfl, .inl rfl, .inl rfl, .inl rfl, .inl rfl, .inl rfl, .inl rfl, trivial⟩)) (by kernel_rfl) (by kernel_rfl) (by kernel_rfl) (by rfl) (fun _ _ _ h => h) (fun W => y_move ha169 rfl) ?_
                      clear ha169 a169; intro a170 ha170
                      refine d_h 3 ha170 rfl rfl (m167.to ⟨.inl rfl, .inl rfl, .inl rfl, .inl rfl, .inl rfl, .inl rfl, .inl rfl, .inl rfl, .inl rfl, .inl rfl, .inl rfl, .inl rfl, .inl rfl, .inl rfl, trivial⟩) (by kernel_rfl) (by kernel_rfl) (by kernel_rfl) (by kernel_rfl) (by kernel_rfl) (fun _ _ _ h => h) (fun W hW => y_str ha170 rfl (hW.nums (i := 304) rfl) Try.underlying22 Try.underlying5 Try.underlying9) ?_
                      clear ha170 a170; intro a171 ha171
                      refine d_y 4 ha171 rfl rfl (fun _ => (m167.to ⟨.inl rfl, .inl rfl, .inl rfl, .inl rfl, .inl rfl, .inl rfl, .inl rfl, .inl rfl, .inl rfl, .inl rfl, .inl rfl, .inl rfl, .inl rfl, .inl rfl, trivial⟩)) (by kernel_rfl) (by kernel_rfl) (by kernel_rfl) (by rfl) (fun _ _ _ h => h) (fun W => y_neqS ha171 rfl rfl) ?_
                      clear ha171 a171; intro a172 ha172
                      refine d_y 5 ha172 rfl rfl (fun _ => (m167.to ⟨.inl rfl, .inl rfl, .inl rfl, .inl rfl, .inl rfl, .inl rfl, .inl rfl, .inl rfl, .inl rfl, .inl rfl, .inl rfl, .inl rfl, .inl rfl, .inl rfl, trivial⟩)) (by kernel_rfl) (by kernel_rfl) (by kernel_rfl) (by rfl) (fun _ _ _ h => h) (fun W => y_move ha172 rfl) ?_
                      clear ha172 a172; intro a173 ha173
                      refine bool_cases ha173 (t := 110) rfl (fun hb174 ha174 => ?_) (fun hb174 ha174 => ?_)
                      · exact absurd hb174 (by simp)
                      clear ha173 hb174
                      refine d_hg 6 ha174 rfl rfl rfl rfl rfl (m167.to ⟨.inl rfl, .inl rfl, .inl rfl, .inl rfl, .inl rfl, .inl rfl, .inl rfl, .inl rfl, .inl rfl, .inl rfl, .inl rfl, .inl rfl, .inl rfl, .inl rfl, trivial⟩) (by kernel_rfl) (by kernel_rfl) (by kernel_rfl) (by kernel_rfl) (by kernel_rfl) (fun _ _ _ h => h) (fun W hW => y_loadBR ha174 hW (i := 302) rfl rfl Try.underlying24 rfl sz24t (by simp) (by dsimp only [List.drop, List.take] <;> rfl)) ?_
                      clear ha174 a173; intro a175 ha175
                      refine d_hg 8 ha175 rfl rfl rfl rfl rfl (m167.to ⟨.inl rfl, .inl rfl, .inl rfl, .inl rfl, .inl rfl, .inl rfl, .inl rfl, .inl rfl, .inl rfl, .inl rfl, .inl rfl, .inl rfl, .inl rfl, .inl rfl, trivial⟩) (by kernel_rfl) (by kernel_rfl) (by kernel_rfl) (by kernel_rfl) (by kernel_rfl) (fun _ _ _ h => h) (fun W hW => y_loadBR ha175 hW (i := 302) rfl rfl Try.underlying24 rfl sz24t (by simp) (by dsimp only [List.drop, List.take] <;> rfl)) ?_
                      clear ha175 a175; intro a176 ha176
                      refine stepE_only 7 rfl (by kernel_rfl) (wantedG ha176 rfl rfl rfl rfl) (fun K hK => ?_)
                      refine e_call ha176 Try.func11 rfl rfl rfl rfl (entRight_any _ _ _ _ _ _ (m167.nums (i := 301) rfl)) ?_
                      rintro e w177 ⟨rfl, hb177⟩
                      have m178 := m167.later hb177
                      clear m167
                      clear hb177
                      refine ⟨_, rfl, fun a179 ha179 => ?_⟩; clear ha176 a176
                      refine hK _ _ (m178.to ⟨.inl rfl, .inl rfl, .inl rfl, .inl rfl, .inl rfl, .inl rfl, .inl rfl, .inl rfl, .inl rfl, .inl rfl, .inl rfl, .inl rfl, .inl rfl, .inl rfl, trivial⟩) ?_; clear hK K
                      refine stepE_only 9 rfl (by kernel_rfl) (wantedG ha179 rfl rfl rfl rfl) (fun K hK => ?_)
                      refine e_call ha179 Try.func12 rfl rfl rfl rfl (rentRight_any _ _ _ _ _ _ (m178.nums (i := 301) rfl)) ?_
                      rintro e w180 ⟨rfl, hb180⟩
                      have m181 := m178.later hb180
                      clear m178
                      clear hb180
                      refine ⟨_, rfl, fun a182 ha182 => ?_⟩; clear ha179 a179
                      refine hK _ _ (m181.to ⟨.inl rfl, .inl rfl, .inl rfl, .inl rfl, .inl rfl, .inl rfl, .inl rfl, .inl rfl, .inl rfl, .inl rfl, .inl rfl, .inl rfl, .inl rfl, .inl rfl, trivial⟩) ?_; clear hK K
                      refine d_yg 10 ha182 rfl rfl rfl rfl rfl (fun _ => (m181.to ⟨.inl rfl, .inl rfl, .inl rfl, .inl rfl, .inl rfl, .inl rfl, .inl rfl, .inl rfl, .inl rfl, .inl rfl, .inl rfl, .inl rfl, .inl rfl, .inl rfl, trivial⟩)) (by kernel_rfl) (by kernel_rfl) (by kernel_rfl) (by rfl) (fun _ _ _ h => h) (fun W => y_neqB ha182 rfl rfl Try.underlying4) ?_
                      clear ha182 a182; intro a183 ha183
                      refine d_y 11 ha183 rfl rfl (fun _ => (m181.to ⟨.inl rfl, .inl rfl, .inl rfl, .inl rfl, .inl rfl, .inl rfl, .inl rfl, .inl rfl, .inl rfl, .inl rfl, .inl rfl, .inl rfl, .inl rfl, .inl rfl, trivial⟩)) (by kernel_rfl) (by kernel_rfl) (by kernel_rfl) (by rfl) (fun _ _ _ h => h) (fun W => y_pickF ha183 rfl rfl) ?_
                      clear ha183 a183; intro a184 ha184
                      refine d_y 12 ha184 rfl rfl (fun _ => (m181.to ⟨.inl rfl, .inl rfl, .inl rfl, .inl rfl, .inl rfl, .inl rfl, .inl rfl, .inl rfl, .inl rfl, .inl rfl, .inl rfl, .inl rfl, .inl rfl, .inl rfl, trivial⟩)) (by kernel_rfl) (by kernel_rfl) (by kernel_rfl) (by rfl) (fun _ _ _ h => h) (fun W => y_move ha184 rfl) ?_
                      clear ha184 a184; intro a185 ha185
                      refine bool_cases ha185 (t := 117) rfl (fun hb186 ha186 => ?_) (fun hb186 ha186 => ?_)
                      · exact absurd hb186 (by simp)
                      clear ha185 hb186
                      refine d_hg 13 ha186 rfl rfl rfl rfl rfl (m181.to ⟨.inl rfl, .inl rfl, .inl rfl, .inl rfl, .inl rfl, .inl rfl, .inl rfl, .inl rfl, .inl rfl, .inl rfl, .inl rfl, .inl rfl, .inl rfl, .inl rfl, trivial⟩) (by kernel_rfl) (by kernel_rfl) (by kernel_rfl) (by kernel_rfl) (by kernel_rfl) (fun _ _ _ h => h) (fun W hW => y_loadBR ha186 hW (i := 302) rfl rfl Try.underlying24 rfl sz24t (by simp) (by dsimp only [List.drop, List.take] <;> rfl)) ?_
                      clear ha186 a185; intro a187 ha187
                      refine d_hg 14 ha187 rfl rfl rfl rfl rfl (m181.to ⟨.inl rfl, .inl rfl, .inl rfl, .inl rfl, .inl rfl, .inl rfl, .inl rfl, .inl rfl, .inl rfl, .inl rfl, .inl rfl, .inl rfl, .inl rfl, .inl rfl, trivial⟩) (by kernel_rfl) (by kernel_rfl) (by kernel_rfl) (by kernel_rfl) (by kernel_rfl) (fun _ _ _ h => h) (fun W hW => y_loadBR ha187 hW (i := 7) rfl rfl Try.underlying24 rfl sz24t (by simp) (by dsimp only [List.drop, List.take] <;> rfl)) ?_
                      clear ha187 a187; intro a188 ha188
                      refine d_hg 16 ha188 rfl rfl rfl rfl rfl (m181.to ⟨.inl rfl, .inl rfl, .inl rfl, .inl rfl, .inl rfl, .inl rfl, .inl rfl, .inl rfl, .inl rfl, .inl rfl, .inl rfl, .inl rfl, .inl rfl, .inl rfl, trivial⟩) (by kernel_rfl) (by kernel_rfl) (by kernel_rfl) (by kernel_rfl) (by kernel_rfl) (fun _ _ _ h => h) (fun W hW => y_loadBR ha188 hW (i := 302) rfl rfl Try.underlying24 rfl sz24t (by simp) (by dsimp only [List.drop, List.take] <;> rfl)) ?_
                      clear ha188 a188; intro a189 ha189
                      refine d_hg 17 ha189 rfl rfl rfl rfl rfl (m181.to ⟨.inl rfl, .inl rfl, .inl rfl, .inl rfl, .inl rfl, .inl rfl, .inl rfl, .inl rfl, .inl rfl, .inl rfl, .inl rfl, .inl rfl, .inl rfl, .inl rfl, trivial⟩) (by kernel_rfl) (by kernel_rfl) (by kernel_rfl) (by kernel_rfl) (by kernel_rfl) (fun _ _ _ h => h) (fun W hW => y_loadBR ha189 hW (i := 7) rfl rfl Try.underlying24 rfl sz24t (by simp) (by dsimp only [List.drop, List.take] <;> rfl)) ?_
                      clear ha189 a189; intro a190 ha190
                      refine stepE_only 15 rfl (by kernel_rfl) (wantedG ha190 rfl rfl rfl rfl) (fun K hK => ?_)
                      refine e_call ha190 Try.func13 rfl rfl rfl rfl (entSame_any _ _ _ _ _ _ _ _ _ _ _ (m181.nums (i := 301) rfl) (m181.nums (i := 1) rfl) (by assumption) (by assumption)) ?_
                      rintro e w191 ⟨rfl, hb191⟩
                      have m192 := m181.later hb191
                      clear m181
                      clear hb191
                      refine ⟨_, rfl, fun a193 ha193 => ?_⟩; clear ha190 a190
                      refine hK _ _ (m192.to ⟨.inl rfl, .inl rfl, .inl rfl, .inl rfl, .inl rfl, .inl rfl, .inl rfl, .inl rfl, .inl rfl, .inl rfl, .inl rfl, .inl rfl, .inl rfl, .inl rfl, trivial⟩) ?_; clear hK K
                      refine stepE_only 18 rfl (by kernel_rfl) (wantedG ha193 rfl rfl rfl rfl) (fun K hK => ?_)
                      refine e_call ha193 Try.func14 rfl rfl rfl rfl (rentSame_any _ _ _ _ _ _ _ _ _ _ _ (m192.nums (i := 301) rfl) (m192.nums (i := 1) rfl) (by assumption) (by assumption)) ?_
                      rintro e w194 ⟨rfl, hb194⟩
                      have m195 := m192.later hb194
                      clear m192
                      clear hb194
                      refine ⟨_, rfl, fun a196 ha196 => ?_⟩; clear ha193 a193
                      refine hK _ _ (m195.to ⟨.inl rfl, .inl rfl, .inl rfl, .inl rfl, .inl rfl, .inl rfl, .inl rfl, .inl rfl, .inl rfl, .inl rfl, .inl rfl, .inl rfl, .inl rfl, .inl rfl, trivial⟩) ?_; clear hK K
                      refine d_yg 19 ha196 rfl rfl rfl rfl rfl (fun _ => (m195.to ⟨.inl rfl, .inl rfl, .inl rfl, .inl rfl, .inl rfl, .inl rfl, .inl rfl, .inl rfl, .inl rfl, .inl rfl, .inl rfl, .inl rfl, .inl rfl, .inl rfl, trivial⟩)) (by kernel_rfl) (by kernel_rfl) (by kernel_rfl) (by rfl) (fun _ _ _ h => h) (fun W => y_neqB ha196 rfl rfl Try.underlying4) ?_
                      clear ha196 a196; intro a197 ha197
                      refine d_y 20 ha197 rfl rfl (fun _ => (m195.to ⟨.inl rfl, .inl rfl, .inl rfl, .inl rfl, .inl rfl, .inl rfl, .inl rfl, .inl rfl, .inl rfl, .inl rfl, .inl rfl, .inl rfl, .inl rfl, .inl rfl, trivial⟩)) (by kernel_rfl) (by kernel_rfl) (by kernel_rfl) (by rfl) (fun _ _ _ h => h) (fun W => y_pickF ha197 rfl rfl) ?_
                      clear ha197 a197; intro a198 ha198
                      refine wpAnyE_done (by kernel_rfl) ?_ _
                      refine hK21 _ _ ?_; clear hK21; try clear K21
                      refine bool_cases ha198 (t := 125) rfl (fun hb199 ha199 => ?_) (fun hb199 ha199 => ?_)
                      · exact absurd hb199 (by simp)
                      clear ha198 hb199
                      refine wp_cond_false (ha199.ev (x := .tmp 125) rfl) ?_
                      refine wp_skip ?_
                      refine hK20 _ _ ?_; clear hK20; try clear K20
                      refine wp_seq_k (fun K22 hK22 => ?_)
                      refine wp_seq_k (fun K23 hK23 => ?_)
                      have ha200 : Has 233 [(2, _), (3, _), (4, _), (5, _), (6, _), (7, _), (8, _), (15, _), (16, _), (17, _), (19, _)] a198 := ha199.only [2, 3, 4, 5, 6, 7, 8, 15, 16, 17, 19]; clear ha199
                      refine wp_region_lit ?_
                      refine st_y ha200 rfl (y_move ha200 rfl) ?_
                      clear ha200 a198; intro a201 ha201
                      refine st_y ha201 rfl (y_len ha201 rfl Try.underlying22) ?_
                      clear ha201 a201; intro a202 ha202
                      refine st_y ha202 rfl (y_eql ha202 rfl rfl) ?_
                      clear ha202 a202; intro a203 ha203
                      refine wpList_nil ?_
                      refine hK23 _ _ ?_; clear hK23; try clear K23
                      refine bool_cases ha203 (t := 128) rfl (fun hb204 ha204 => ?_) (fun hb204 ha204 => ?_)
                      · skip
                        clear ha203
                        try simp only [decide_eq_true_eq, decide_eq_false_iff_not, Bool.not_eq_true, Bool.not_eq_false, Bool.not_eq_eq_eq_not, Bool.not_true, Bool.not_false, Bool.not_not, Int.not_lt, Int.not_le, ne_eq, Decidable.not_not] at hb204
                        refine wp_cond_true (ha204.ev (x := .tmp 128) rfl) ?_
                        refine wp_exit ?_
                        refine hK17 _ _ ?_; clear hK17; try clear K17
                        refine wp_region_lit ?_
                        refine st_y ha204 rfl (y_move ha204 rfl) ?_
                        clear ha204 a203; intro a205 ha205
                        refine st_y ha205 rfl (y_add ha205 rfl rfl (r := ((k + 1 : Nat) : Int)) (by rw [IntWalk.i64_in _ (by omega)]; omega)) ?_
                        clear ha205 a205; intro a206 ha206
                        refine st_y ha206 rfl (y_assign ha206 rfl) ?_
                        clear ha206 a206; intro a207 ha207
                        refine wpList_nil ?_
                        show ∃ n', n' < _ ∧ _
                        exact ⟨ES.length - (k + 1), by omega, k + 1, _, _, by omega, rfl, ha207.only [2, 3, 4, 5, 6, 7, 8, 15, 16], m195.only [1, 2, 3, 4, 5, 6, 7, 8, 9]⟩
                      · skip
                        clear ha203
                        try simp only [decide_eq_true_eq, decide_eq_false_iff_not, Bool.not_eq_true, Bool.not_eq_false, Bool.not_eq_eq_eq_not, Bool.not_true, Bool.not_false, Bool.not_not, Int.not_lt, Int.not_le, ne_eq, Decidable.not_not] at hb204
                        have hok : entOk ei et ek ed = true := by
                          cases h9 : entOk ei et ek ed with
                          | true => rfl
                          | false => exact absurd (by unfold entP; rw [h9]; rfl) hb204
                        have hPe : entP ei et ek ed = entB ei et ek ed := by unfold entP; rw [if_pos hok]
                        rw [hPe] at m195 ha204
                        obtain ⟨hB1, hB2, hB3⟩ := ent_back ei et ek ed more hok (by omega)
                        have hBy := entB_ok hok hed hmore
                        have hBl : (entB ei et ek ed ++ more).length ≤ 1000 := by have := entB_len ei et ek ed; simp; omega
                        have hBl2 : (entB ei et ek ed).length ≤ 200 := by have := entB_len ei et ek ed; omega
                        refine wp_cond_false (ha204.ev (x := .tmp 128) rfl) ?_
                        refine wp_skip ?_
                        refine hK22 _ _ ?_; clear hK22; try clear K22
                        refine wp_seq_k (fun K24 hK24 => ?_)
                        refine wp_region_lit ?_
                        refine st_y ha204 rfl (y_move ha204 rfl) ?_
                        clear ha204 a203; intro a208 ha208
                        refine wpList_plain rfl (fun K hK => ?_)
                        refine e_app0N ha208 m195 305 rfl rfl (m195.nums (i := 304) rfl) Try.underlying22 inf5t (by decide) (by omega) rfl ?_
                        clear ha208 a208 m195; intro p209 c209 a210 w210 ha210 m210 
                        refine hK _ _ ?_; clear hK K
                        refine st_y ha210 rfl (y_move ha210 rfl) ?_
                        clear ha210 a210; intro a211 ha211
                        refine wpList_plain rfl (fun K hK => ?_)
                        refine e_appN ha211 m210 305 rfl rfl rfl (m210.nums (i := 5) rfl) Try.underlying22 inf5t (by decide) (by omega) rfl ?_
                        clear ha211 a211 m210; intro p212 c212 a213 w213 ha213 m213 
                        refine hK _ _ ?_; clear hK K
                        refine wpList_plain rfl (fun K hK => ?_)
                        refine e_call ha213 Try.func15 rfl rfl rfl rfl (new_any _ _ _ (m213.numsO (i := 305) rfl) hBy (Nat.le_trans hBl (by decide))) ?_
                        rintro e w214 ⟨B214, u214, rfl, hBl214, hR214, hb214⟩
                        have hBN214 : w0.heap.size ≤ B214 := Nat.le_trans m213.keep.size (Nat.le_of_lt hBl214)
                        have m215 := m213.callAny 306 hb214 (Nat.le_of_lt hBl214) hR214.lt
                        clear m213
                        clear hb214 hBl214
                        refine ⟨_, rfl, fun a216 ha216 => ?_⟩; clear ha213 a213
                        refine hK _ _ ?_; clear hK K
                        refine st_y ha216 rfl (y_assign ha216 rfl) ?_
                        clear ha216 a216; intro a217 ha217
                        refine wpList_nil ?_
                        refine hK24 _ _ ?_; clear hK24; try clear K24
                        refine wp_seq_k (fun K25 hK25 => ?_)
                        have ha218 : Has 233 [(2, _), (3, _), (4, _), (5, _), (6, _), (7, _), (8, _), (15, _), (16, _), (17, _), (20, _)] a217 := ha217.only [2, 3, 4, 5, 6, 7, 8, 15, 16, 17, 20]; clear ha217
                        refine wp_region_lit ?_
                        refine st_y ha218 rfl (y_move ha218 rfl) ?_
                        clear ha218 a217; intro a219 ha219
                        refine wpList_plain rfl (fun K hK => ?_)
                        refine e_call ha219 Try.func16 rfl rfl rfl rfl (entRead_any _ _ _ 0 _ hR214 (by omega)) ?_
                        rintro e w220 ⟨u220, he220, ho220, ⟨v220, hr220⟩, hon220⟩
                        rw [hB1, hB2] at he220
                        rw [hB1] at ho220
                        rw [hB3] at hr220
                        dsimp only at he220 ho220
                        subst he220
                        obtain ⟨pu220, cu220, hu220⟩ := ownsRow_shape ho220; subst hu220
                        obtain ⟨pv220, cv220, hv220⟩ := reader_shape hr220; subst hv220
                        have m221 := m215.onlyN 306 rfl hon220.keep 307 rfl ho220
                        clear m215
                        have m222 := m221.freezeN 307 rfl
                        clear m221
                        have m223 := m222.shut 306 rfl hBN214 (reader_range hr220)
                        clear m222
                        clear ho220 hr220 hon220 hR214
                        refine ⟨_, rfl, fun a224 ha224 => ?_⟩; clear ha219 a219
                        refine hK _ _ ?_; clear hK K
                        refine st_y ha224 rfl (y_move ha224 rfl) ?_
                        clear ha224 a224; intro a225 ha225
                        refine st_y ha225 rfl (y_extract ha225 rfl rfl) ?_
                        clear ha225 a225; intro a226 ha226
                        refine st_y ha226 rfl (y_extract ha226 rfl rfl) ?_
                        clear ha226 a226; intro a227 ha227
                        refine wpList_plain rfl (fun K hK => ?_)
                        refine e_alloc ha227 m223 308 zc24t rfl ?_
                        clear ha227 a227 m223; intro g228 a229 w229 ha229 m229 hB229 hg229
                        clear hB229 hg229
                        refine hK _ _ ?_; clear hK K
                        refine wpList_plain rfl (fun K hK => ?_)
                        refine e_storeW ha229 m229 308 rfl rfl rfl rfl rfl sz24t ?_
                        clear m229; intro w230 m230 hB230
                        clear hB230
                        refine hK _ _ ?_; clear hK K
                        refine st_y ha229 rfl (y_assign ha229 rfl) ?_
                        clear ha229 a229; intro a231 ha231
                        refine wpList_nil ?_
                        refine hK25 _ _ ?_; clear hK25; try clear K25
                        refine wp_seq_k (fun K26 hK26 => ?_)
                        refine wp_region_lit ?_
                        refine st_y ha231 rfl (y_move ha231 rfl) ?_
                        clear ha231 a231; intro a232 ha232
                        refine st_y ha232 rfl (y_not ha232 rfl) ?_
                        clear ha232 a232; intro a233 ha233
                        refine st_y ha233 rfl (y_move ha233 rfl) ?_
                        clear ha233 a233; intro a234 ha234
                        refine st_g ha234 rfl rfl rfl rfl (y_loadBR ha234 m230 (i := 308) rfl rfl Try.underlying24 rfl sz24t (by simp) (by dsimp only [List.drop, List.take] <;> rfl)) ?_
                        clear ha234 a234; intro a235 ha235
                        refine st_g ha235 rfl rfl rfl rfl (y_loadBR ha235 m230 (i := 302) rfl rfl Try.underlying24 rfl sz24t (by simp) (by dsimp only [List.drop, List.take] <;> rfl)) ?_
                        clear ha235 a235; intro a236 ha236
                        refine st_ge ha236 rfl rfl rfl rfl (fun K hK => ?_)
                        refine e_call ha236 Try.func14 rfl rfl rfl rfl (rentSame_any _ _ _ _ _ _ _ _ _ _ _ (m230.nums (i := 307) rfl) (m230.nums (i := 301) rfl) (by assumption) (by assumption)) ?_
                        rintro e w237 ⟨rfl, hb237⟩
                        have m238 := m230.later hb237
                        clear m230
                        clear hb237
                        refine ⟨_, rfl, fun a239 ha239 => ?_⟩; clear ha236 a236
                        refine hK _ _ ?_; clear hK K
                        refine st_g ha239 rfl rfl rfl rfl (y_not ha239 rfl) ?_
                        clear ha239 a239; intro a240 ha240
                        refine st_y ha240 rfl (y_pickF ha240 rfl rfl) ?_
                        clear ha240 a240; intro a241 ha241
                        refine st_y ha241 rfl (y_move ha241 rfl) ?_
                        clear ha241 a241; intro a242 ha242
                        refine bool_cases ha242 (t := 147) rfl (fun hb243 ha243 => ?_) (fun hb243 ha243 => ?_)
                        · exact absurd hb243 (by simp)
                        clear ha242 hb243
                        refine st_g ha243 rfl rfl rfl rfl (y_move ha243 rfl) ?_
                        clear ha243 a242; intro a244 ha244
                        refine st_ge ha244 rfl rfl rfl rfl (fun K hK => ?_)
                        refine e_call ha244 Try.func17 rfl rfl rfl rfl (left_cel _ _ _ _ _ ((m238.ok 306 _ rfl : Res.ok _ _ _ _ (.cel _ _ _)).2.2 0 _ rfl)) ?_
                        rintro e w245 ⟨rfl, hb245⟩
                        subst hb245
                        have m246 := m238
                        clear m238
                        refine ⟨_, rfl, fun a247 ha247 => ?_⟩; clear ha244 a244
                        refine hK _ _ ?_; clear hK K
                        refine st_g ha247 rfl rfl rfl rfl (y_move ha247 rfl) ?_
                        clear ha247 a247; intro a248 ha248
                        refine st_g ha248 rfl rfl rfl rfl (y_len ha248 rfl Try.underlying22) ?_
                        clear ha248 a248; intro a249 ha249
                        refine st_g ha249 rfl rfl rfl rfl (y_neq ha249 rfl rfl) ?_
                        clear ha249 a249; intro a250 ha250
                        refine st_y ha250 rfl (y_pickF ha250 rfl rfl) ?_
                        clear ha250 a250; intro a251 ha251
                        refine wpList_nil ?_
                        refine hK26 _ _ ?_; clear hK26; try clear K26
                        refine bool_cases ha251 (t := 153) rfl (fun hb252 ha252 => ?_) (fun hb252 ha252 => ?_)
                        · exact absurd hb252 (by simp)
                        clear ha251 hb252
                        refine wp_cond_false (ha252.ev (x := .tmp 153) rfl) ?_
                        refine wp_skip ?_
                        refine hK17 _ _ ?_; clear hK17; try clear K17
                        have ha253 : Has 233 [(2, _), (3, _), (4, _), (5, _), (6, _), (7, _), (8, _), (15, _), (16, _)] a251 := ha252.only [2, 3, 4, 5, 6, 7, 8, 15, 16]; clear ha252
                        refine wp_region_lit ?_
                        refine st_y ha253 rfl (y_move ha253 rfl) ?_
                        clear ha253 a251; intro a254 ha254
                        refine st_y ha254 rfl (y_add ha254 rfl rfl (r := ((k + 1 : Nat) : Int)) (by rw [IntWalk.i64_in _ (by omega)]; omega)) ?_
                        clear ha254 a254; intro a255 ha255
                        refine st_y ha255 rfl (y_assign ha255 rfl) ?_
                        clear ha255 a255; intro a256 ha256
                        refine wpList_nil ?_
                        show ∃ n', n' < _ ∧ _
                        exact ⟨ES.length - (k + 1), by omega, k + 1, _, _, by omega, rfl, ha256.only [2, 3, 4, 5, 6, 7, 8, 15, 16], m246.only [1, 2, 3, 4, 5, 6, 7, 8, 9]⟩
                    · skip
                      clear ha140
                      try simp only [decide_eq_true_eq, decide_eq_false_iff_not, Bool.not_eq_true, Bool.not_eq_false, Bool.not_eq_eq_eq_not, Bool.not_true, Bool.not_false, Bool.not_not, Int.not_lt, Int.not_le, ne_eq, Decidable.not_not] at hb141
                      refine wp_cond_false (ha141.ev (x := .tmp 94) rfl) ?_
                      refine wp_exit ?_
                      refine hK13 _ _ ?_; clear hK13; try clear K13
                      refine wp_seq_k (fun K27 hK27 => ?_)
                      refine wp_region_lit ?_
                      refine st_y ha141 rfl (y_move ha141 rfl) ?_
                      clear ha141 a140; intro a257 ha257
                      refine st_y ha257 rfl (y_conv ha257 rfl Try.underlying5 Try.underlying3 (IntWalk.i64_in _ (by omega))) ?_
                      clear ha257 a257; intro a258 ha258
                      refine st_y ha258 rfl (y_move ha258 rfl) ?_
                      clear ha258 a258; intro a259 ha259
                      refine st_y ha259 rfl (y_and ha259 rfl rfl (r := va) hva) ?_
                      clear ha259 a259; intro a260 ha260
                      refine st_y ha260 rfl (y_move ha260 rfl) ?_
                      clear ha260 a260; intro a261 ha261
                      refine wpList_plain rfl (fun K hK => ?_)
                      refine e_call ha261 Try.func18 rfl rfl rfl rfl (rof_any _ _ _ (m136.nums (i := 6) rfl) (by omega)) ?_
                      rintro e w262 ⟨u262, rfl, ho262, hb262⟩
                      obtain ⟨pu262, cu262, hu262⟩ := ownsRow_shape ho262; subst hu262
                      have m263 := m136.newN 300 hb262 ho262
                      clear m136
                      clear hb262 ho262
                      refine ⟨_, rfl, fun a264 ha264 => ?_⟩; clear ha261 a261
                      refine hK _ _ ?_; clear hK K
                      have m265 := m263.freezeN 300 rfl; clear m263
                      refine st_y ha264 rfl (y_move ha264 rfl) ?_
                      clear ha264 a264; intro a266 ha266
                      refine st_y ha266 rfl (y_build ha266 rfl zc27t fl27t rfl (by dsimp only [setL, List.set] <;> rfl)) ?_
                      clear ha266 a266; intro a267 ha267
                      refine wpList_plain rfl (fun K hK => ?_)
                      refine e_alloc ha267 m265 301 zc27t rfl ?_
                      clear ha267 a267 m265; intro g268 a269 w269 ha269 m269 hB269 hg269
                      clear hB269 hg269
                      refine hK _ _ ?_; clear hK K
                      refine wpList_plain rfl (fun K hK => ?_)
                      refine e_storeW ha269 m269 301 rfl rfl rfl rfl rfl sz27t ?_
                      clear m269; intro w270 m270 hB270
                      clear hB270
                      refine hK _ _ ?_; clear hK K
                      refine wpList_nil ?_
                      refine hK27 _ _ ?_; clear hK27; try clear K27
                      refine wp_seq_k (fun K28 hK28 => ?_)
                      refine wp_seq_k (fun K29 hK29 => ?_)
                      have ha271 : Has 233 [(2, _), (3, _), (4, _), (5, _), (6, _), (7, _), (8, _), (15, _), (16, _), (23, _)] a269 := ha269.only [2, 3, 4, 5, 6, 7, 8, 15, 16, 23]; clear ha269
                      refine wp_region_lit ?_
                      refine st_y ha271 rfl (y_loadBR ha271 m270 (i := 8) rfl rfl Try.underlying27 rfl sz27t (by simp) (by dsimp only [List.drop, List.take] <;> rfl)) ?_
                      clear ha271 a269; intro a272 ha272
                      refine st_y ha272 rfl (y_loadBR ha272 m270 (i := 301) rfl rfl Try.underlying27 rfl sz27t (by simp) (by dsimp only [List.drop, List.take] <;> rfl)) ?_
                      clear ha272 a272; intro a273 ha273
                      refine st_y ha273 rfl (y_fieldAddr ha273 (off := 0) rfl Try.underlying27 rfl (s := 0) (by kernel_rfl) rfl) ?_
                      clear ha273 a273; intro a274 ha274
                      refine st_y ha274 rfl (y_loadB1 ha274 m270 (i := 8) rfl rfl rfl Try.underlying3 rfl) ?_
                      clear ha274 a274; intro a275 ha275
                      refine st_y ha275 rfl (y_and ha275 rfl rfl (r := ba) hba) ?_
                      clear ha275 a275; intro a276 ha276
                      refine st_y ha276 rfl (y_fieldAddr ha276 (off := 1) rfl Try.underlying27 rfl (s := 0) (by kernel_rfl) rfl) ?_
                      clear ha276 a276; intro a277 ha277
                      refine st_y ha277 rfl (y_loadB1 ha277 m270 (i := 8) rfl rfl rfl Try.underlying3 rfl) ?_
                      clear ha277 a277; intro a278 ha278
                      refine st_y ha278 rfl (y_and ha278 rfl rfl (r := bb) hbb) ?_
                      clear ha278 a278; intro a279 ha279
                      refine st_y ha279 rfl (y_move ha279 rfl) ?_
                      clear ha279 a279; intro a280 ha280
                      refine st_y ha280 rfl (y_move ha280 rfl) ?_
                      clear ha280 a280; intro a281 ha281
                      refine st_y ha281 rfl (y_build ha281 rfl zc27t fl27t rfl (by dsimp only [setL, List.set] <;> rfl)) ?_
                      clear ha281 a281; intro a282 ha282
                      refine wpList_plain rfl (fun K hK => ?_)
                      refine e_litR ha282 m270 302 (mm := 4) rfl (.cons rfl rfl (.cons (.v _) (.cons (.v _) (.cons (m270.rd (i := 2) rfl) (.cons (m270.rd (i := 3) rfl) .nil)))) <| .cons rfl rfl (.cons (.v _) (.cons (.v _) (.cons (m270.rd (i := 300) rfl) (.cons (m270.rd (i := 5) rfl) .nil)))) <| .cons rfl rfl (.cons (.v _) (.cons (.v _) (.cons (m270.rd (i := 6) rfl) (.cons (m270.rd (i := 5) rfl) .nil)))) <| .nil) Try.underlying41 inf27t rfl rfl rfl rfl rfl ?_
                      clear ha282 a282 m270; intro g283 a284 w284 ha284 m284 
                      refine hK _ _ ?_; clear hK K
                      refine st_y ha284 rfl (y_len ha284 rfl Try.underlying41) ?_
                      clear ha284 a284; intro a285 ha285
                      refine st_y ha285 rfl (y_move ha285 rfl) ?_
                      clear ha285 a285; intro a286 ha286
                      refine wpList_nil ?_
                      refine hK29 _ _ ?_; clear hK29; try clear K29
                      refine wp_block ?_
                      have m287 := m284.freezeR 302 rfl; clear m284
                      obtain ⟨BS, hBS, hBL, hBE⟩ : ∃ BS : List (Int × Int × List Int × List Int), BS.length = 3 ∧ (∀ b ∈ BS, ByteL b.2.2.2 ∧ b.2.2.2.length ≤ 100 ∧ b.2.2.1.length ≤ 10) ∧ [[D.v (.int .i64 bi), .v (.int .i64 bt), .ns .i64 bc, .ns .u8 bd], [.v (.int .i64 what), .v (.int .i64 va), .ns .i64 (canon confs), .ns .u8 more], [.v (.int .i64 ba), .v (.int .i64 bb), .ns .i64 confs, .ns .u8 more]] = BS.map baD := ⟨[(bi, bt, bc, bd), ((what : Int), va, canon confs, more), (ba, bb, confs, more)], rfl, by have := canon_len confs; simp; exact ⟨⟨hbd, by omega, by omega⟩, ⟨hmore, by omega, by omega⟩, hmore, by omega, by omega⟩, rfl⟩
                      have hcl := canon_len confs
                      rw [hBE] at m287
                      skip
                      refine wp_loop_ghost (fun g a w => ∃ (k : Nat) (pE : Option Addr) (cE g23 : Nat) (pc : Option Addr) (cc : Nat), k ≤ 3 ∧ g = 3 - k ∧ Has 233 [(5, .slice p5 more.length c5), (23, .pointer (some ⟨g23, 0, none⟩)), (173, .slice pE 3 cE), (174, .int .i64 3), (175, .int .i64 k)] a ∧ MemOk (cx (fun _ => True) w0) w0 [(5, .dat (.slice p5 more.length c5) (.ns .u8 more)), (300, .dat (.slice pc (canon confs).length cc) (.ns .i64 (canon confs))), (301, .box g23 27 [.int .i64 what, .int .i64 va, .slice pc (canon confs).length cc, .slice p5 more.length c5]), (302, .dat (.slice pE 3 cE) (.l 4 (BS.map baD)))] w) (3) ?_ ?_
                      · exact ⟨0, _, _, _, _, _, Nat.zero_le _, rfl, ha286.only [5, 23, 173, 174, 175], m287.only [5, 300, 301, 302]⟩
                      · skip
                        clear ha286 m287
                        rintro g a288 w288 ⟨k, pE, cE, g23, pc, cc, hkl, hg, ha288, m288⟩
                        refine wp_seq_k (fun K30 hK30 => ?_)
                        refine wp_region_lit ?_
                        refine st_y ha288 rfl (y_lss ha288 rfl rfl) ?_
                        clear ha288 a288; intro a289 ha289
                        refine wpList_nil ?_
                        refine hK30 _ _ ?_; clear hK30; try clear K30
                        refine wp_seq_k (fun K31 hK31 => ?_)
                        refine bool_cases ha289 (t := 176) rfl (fun hb290 ha290 => ?_) (fun hb290 ha290 => ?_)
                        · skip
                          clear ha289
                          try simp only [decide_eq_true_eq, decide_eq_false_iff_not, Bool.not_eq_true, Bool.not_eq_false, Bool.not_eq_eq_eq_not, Bool.not_true, Bool.not_false, Bool.not_not, Int.not_lt, Int.not_le, ne_eq, Decidable.not_not] at hb290
                          have hk : k < BS.length := by omega
                          obtain ⟨⟨ai, at1, ac, ad⟩, hbn⟩ : ∃ e, BS[k]? = some e := ⟨_, List.getElem?_eq_getElem hk⟩
                          obtain ⟨had, hadl, hacl⟩ := hBL _ (List.mem_of_getElem? hbn)
                          dsimp only at had hadl hacl
                          refine wp_cond_true (ha290.ev (x := .tmp 176) rfl) ?_
                          refine wp_skip ?_
                          refine hK31 _ _ ?_; clear hK31; try clear K31
                          refine wp_seq_k (fun K32 hK32 => ?_)
                          refine wp_block ?_
                          refine wp_seq_k (fun K33 hK33 => ?_)
                          refine wp_region_lit ?_
                          obtain ⟨b291, o291, vs291, hp291, hR291, ho291, m291⟩ := m288.openR (i := 302) rfl (k) (r := [.v (.int .i64 ai), .v (.int .i64 at1), .ns .i64 ac, .ns .u8 ad]) (ba_get hbn) 400 rfl
                          cases hp291; clear m288 ho291
                          rcases hR291 with _ | ⟨hd291_0, _ | ⟨hd291_1, _ | ⟨hd291_2, _ | ⟨hd291_3, _ | _⟩⟩⟩⟩
                          obtain rfl := hd291_0.v_out
                          clear hd291_0
                          obtain rfl := hd291_1.v_out
                          clear hd291_1
                          obtain ⟨p292, c292, hv292, hc292⟩ := hd291_2.ns_shape; subst hv292
                          have m292 := m291.dat 401 rfl (hd291_2.cast (fun _ h => (free_add rfl h))); clear m291 hd291_2
                          obtain ⟨p293, c293, hv293, hc293⟩ := hd291_3.ns_shape; subst hv293
                          have m293 := m292.dat 402 rfl (hd291_3.cast (fun _ h => (free_add rfl (free_add rfl h)))); clear m292 hd291_3
                          refine st_y ha290 rfl (y_idx ha290 rfl rfl Try.underlying41 sz27t (k) rfl (by omega)) ?_
                          clear ha290 a289; intro a294 ha294
                          refine st_y ha294 rfl (y_loadCR ha294 m293 (i := 400) rfl rfl Try.underlying27 rfl sz27t) ?_
                          clear ha294 a294; intro a295 ha295
                          refine wpList_plain rfl (fun K hK => ?_)
                          refine e_alloc ha295 m293 403 zc27t rfl ?_
                          clear ha295 a295 m293; intro g296 a297 w297 ha297 m297 hB297 hg297
                          clear hB297 hg297
                          refine hK _ _ ?_; clear hK K
                          refine wpList_plain rfl (fun K hK => ?_)
                          refine e_storeW ha297 m297 403 rfl rfl rfl rfl rfl sz27t ?_
                          clear m297; intro w298 m298 hB298
                          clear hB298
                          refine hK _ _ ?_; clear hK K
                          refine wpList_nil ?_
                          refine hK33 _ _ ?_; clear hK33; try clear K33
                          refine wp_seq_k (fun K34 hK34 => ?_)
                          have m299 : MemOk _ _ [(5, _), (300, _), (301, _), (302, _), (400, _), (401, _), (402, _), (403, _)] _ := m298.only [5, 300, 301, 302, 400, 401, 402, 403]; clear m298
                          refine region_m 6 (B := [(5, _), (300, _), (301, _), (302, _), (400, _), (401, _), (402, _), (403, _)]) (m299.to ⟨.inl rfl, .inl rfl, .inl rfl, .inl rfl, .inl rfl, .inl rfl, .inl rfl, .inl rfl, trivial⟩) m299 (by kernel_rfl) (fun w300 mB300 m300 => ?_); clear m299 mB300
                          refine d_h 0 ha297 rfl rfl (m300.to ⟨.inl rfl, .inl rfl, .inl rfl, .inl rfl, .inl rfl, .inl rfl, .inl rfl, .inl rfl, trivial⟩) (by kernel_rfl) (by kernel_rfl) (by kernel_rfl) (by kernel_rfl) (by kernel_rfl) (fun _ _ _ h => h) (fun W hW => y_loadBR ha297 hW (i := 403) rfl rfl Try.underlying27 rfl sz27t (by simp) (by dsimp only [List.drop, List.take] <;> rfl)) ?_
                          clear ha297 a297; intro a301 ha301
                          refine d_h 2 ha301 rfl rfl (m300.to ⟨.inl rfl, .inl rfl, .inl rfl, .inl rfl, .inl rfl, .inl rfl, .inl rfl, .inl rfl, trivial⟩) (by kernel_rfl) (by kernel_rfl) (by kernel_rfl) (by kernel_rfl) (by kernel_rfl) (fun _ _ _ h => h) (fun W hW => y_loadBR ha301 hW (i := 403) rfl rfl Try.underlying27 rfl sz27t (by simp) (by dsimp only [List.drop, List.take] <;> rfl)) ?_
                          clear ha301 a301; intro a302 ha302
                          refine stepE_only 1 rfl (by kernel_rfl) rfl (fun K hK => ?_)
                          refine e_call ha302 Try.func19 rfl rfl rfl rfl (basePut_any _ _ _ _ _ _ _ (m300.nums (i := 401) rfl) (m300.nums (i := 402) rfl) (by omega)) ?_
                          rintro e w303 ⟨u303, rfl, ho303, hb303⟩
                          replace ho303 : World.ownsRow w303 _ _ _ _ (baseP ai at1 ac ad).length ((baseP ai at1 ac ad).map (Value.int .u8)) := ho303
                          obtain ⟨pu303, cu303, hu303⟩ := ownsRow_shape ho303; subst hu303
                          have m304 := m300.newN 404 hb303 ho303
                          clear m300
                          clear hb303 ho303
                          refine ⟨_, rfl, fun a305 ha305 => ?_⟩; clear ha302 a302
                          refine hK _ _ (m304.to ⟨.inl rfl, .inl rfl, .inl rfl, .inl rfl, .inl rfl, .inl rfl, .inl rfl, .inl rfl, trivial⟩) ?_; clear hK K
                          have m306 := m304.freezeN 404 rfl; clear m304
                          refine stepE_only 3 rfl (by kernel_rfl) rfl (fun K hK => ?_)
                          refine e_call ha305 Try.func20 rfl rfl rfl rfl (rbasePut_any _ _ _ _ _ _ _ (m306.nums (i := 401) rfl) (m306.nums (i := 402) rfl) (by omega)) ?_
                          rintro e w307 ⟨u307, rfl, ho307, hb307⟩
                          replace ho307 : World.ownsRow w307 _ _ _ _ (baseP ai at1 ac ad).length ((baseP ai at1 ac ad).map (Value.int .u8)) := ho307
                          obtain ⟨pu307, cu307, hu307⟩ := ownsRow_shape ho307; subst hu307
                          have m308 := m306.newN 405 hb307 ho307
                          clear m306
                          clear hb307 ho307
                          refine ⟨_, rfl, fun a309 ha309 => ?_⟩; clear ha305 a305
                          refine hK _ _ (m308.to ⟨.inl rfl, .inl rfl, .inl rfl, .inl rfl, .inl rfl, .inl rfl, .inl rfl, .inl rfl, trivial⟩) ?_; clear hK K
                          have m310 := m308.freezeN 405 rfl; clear m308
                          refine d_y 4 ha309 rfl rfl (fun _ => (m310.to ⟨.inl rfl, .inl rfl, .inl rfl, .inl rfl, .inl rfl, .inl rfl, .inl rfl, .inl rfl, trivial⟩)) (by kernel_rfl) (by kernel_rfl) (by kernel_rfl) (by rfl) (fun _ _ _ h => h) (fun W => y_assign ha309 rfl) ?_
                          clear ha309 a309; intro a311 ha311
                          refine d_y 5 ha311 rfl rfl (fun _ => (m310.to ⟨.inl rfl, .inl rfl, .inl rfl, .inl rfl, .inl rfl, .inl rfl, .inl rfl, .inl rfl, trivial⟩)) (by kernel_rfl) (by kernel_rfl) (by kernel_rfl) (by rfl) (fun _ _ _ h => h) (fun W => y_assign ha311 rfl) ?_
                          clear ha311 a311; intro a312 ha312
                          refine wpAnyE_done (by kernel_rfl) ?_ _
                          refine hK34 _ _ ?_; clear hK34; try clear K34
                          refine wp_seq_k (fun K35 hK35 => ?_)
                          refine wp_seq_k (fun K36 hK36 => ?_)
                          have ha313 : Has 233 [(5, _), (23, _), (173, _), (174, _), (175, _), (25, _), (26, _), (27, _)] a312 := ha312.only [5, 23, 173, 174, 175, 25, 26, 27]; clear ha312
                          have m314 : MemOk _ _ [(5, _), (300, _), (301, _), (302, _), (400, _), (401, _), (402, _), (403, _), (404, _), (405, _)] _ := m310.only [5, 300, 301, 302, 400, 401, 402, 403, 404, 405]; clear m310
                          refine region_m 21 (B := [(5, _), (300, _), (301, _), (302, _), (400, _), (401, _), (402, _), (403, _), (404, _), (405, _)]) (m314.to ⟨.inl rfl, .inl rfl, .inl rfl, .inl rfl, .inl rfl, .inl rfl, .inl rfl, .inl rfl, .inl rfl, .inl rfl, trivial⟩) m314 (by kernel_rfl) (fun w315 mB315 m315 => ?_); clear m314 mB315
                          refine d_y 0 ha313 rfl rfl (fun _ => (m315.to ⟨.inl rfl, .inl rfl, .inl rfl, .inl rfl, .inl rfl, .inl rfl, .inl rfl, .inl rfl, .inl rfl, .inl rfl, trivial⟩)) (by kernel_rfl) (by kernel_rfl) (by kernel_rfl) (by rfl) (fun _ _ _ h => h) (fun W => y_move ha313 rfl) ?_
                          clear ha313 a312; intro a316 ha316
                          refine d_h 1 ha316 rfl rfl (m315.to ⟨.inl rfl, .inl rfl, .inl rfl, .inl rfl, .inl rfl, .inl rfl, .inl rfl, .inl rfl, .inl rfl, .inl rfl, trivial⟩) (by kernel_rfl) (by kernel_rfl) (by kernel_rfl) (by kernel_rfl) (by kernel_rfl) (fun _ _ _ h => h) (fun W hW => y_str ha316 rfl (hW.nums (i := 404) rfl) Try.underlying22 Try.underlying5 Try.underlying9) ?_
                          clear ha316 a316; intro a317 ha317
                          refine d_y 2 ha317 rfl rfl (fun _ => (m315.to ⟨.inl rfl, .inl rfl, .inl rfl, .inl rfl, .inl rfl, .inl rfl, .inl rfl, .inl rfl, .inl rfl, .inl rfl, trivial⟩)) (by kernel_rfl) (by kernel_rfl) (by kernel_rfl) (by rfl) (fun _ _ _ h => h) (fun W => y_move ha317 rfl) ?_
                          clear ha317 a317; intro a318 ha318
                          refine d_h 3 ha318 rfl rfl (m315.to ⟨.inl rfl, .inl rfl, .inl rfl, .inl rfl, .inl rfl, .inl rfl, .inl rfl, .inl rfl, .inl rfl, .inl rfl, trivial⟩) (by kernel_rfl) (by kernel_rfl) (by kernel_rfl) (by kernel_rfl) (by kernel_rfl) (fun _ _ _ h => h) (fun W hW => y_str ha318 rfl (hW.nums (i := 405) rfl) Try.underlying22 Try.underlying5 Try.underlying9) ?_
                          clear ha318 a318; intro a319 ha319
                          refine d_y 4 ha319 rfl rfl (fun _ => (m315.to ⟨.inl rfl, .inl rfl, .inl rfl, .inl rfl, .inl rfl, .inl rfl, .inl rfl, .inl rfl, .inl rfl, .inl rfl, trivial⟩)) (by kernel_rfl) (by kernel_rfl) (by kernel_rfl) (by rfl) (fun _ _ _ h => h) (fun W => y_neqS ha319 rfl rfl) ?_
                          clear ha319 a319; intro a320 ha320
                          refine d_y 5 ha320 rfl rfl (fun _ => (m315.to ⟨.inl rfl, .inl rfl, .inl rfl, .inl rfl, .inl rfl, .inl rfl, .inl rfl, .inl rfl, .inl rfl, .inl rfl, trivial⟩)) (by kernel_rfl) (by kernel_rfl) (by kernel_rfl) (by rfl) (fun _ _ _ h => h) (fun W => y_move ha320 rfl) ?_
                          clear ha320 a320; intro a321 ha321
                          refine bool_cases ha321 (t := 188) rfl (fun hb322 ha322 => ?_) (fun hb322 ha322 => ?_)
                          · exact absurd hb322 (by simp)
                          clear ha321 hb322
                          refine d_hg 6 ha322 rfl rfl rfl rfl rfl (m315.to ⟨.inl rfl, .inl rfl, .inl rfl, .inl rfl, .inl rfl, .inl rfl, .inl rfl, .inl rfl, .inl rfl, .inl rfl, trivial⟩) (by kernel_rfl) (by kernel_rfl) (by kernel_rfl) (by kernel_rfl) (by kernel_rfl) (fun _ _ _ h => h) (fun W hW => y_loadBR ha322 hW (i := 403) rfl rfl Try.underlying27 rfl sz27t (by simp) (by dsimp only [List.drop, List.take] <;> rfl)) ?_
                          clear ha322 a321; intro a323 ha323
                          refine d_hg 8 ha323 rfl rfl rfl rfl rfl (m315.to ⟨.inl rfl, .inl rfl, .inl rfl, .inl rfl, .inl rfl, .inl rfl, .inl rfl, .inl rfl, .inl rfl, .inl rfl, trivial⟩) (by kernel_rfl) (by kernel_rfl) (by kernel_rfl) (by kernel_rfl) (by kernel_rfl) (fun _ _ _ h => h) (fun W hW => y_loadBR ha323 hW (i := 403) rfl rfl Try.underlying27 rfl sz27t (by simp) (by dsimp only [List.drop, List.take] <;> rfl)) ?_
                          clear ha323 a323; intro a324 ha324
                          refine stepE_only 7 rfl (by kernel_rfl) (wantedG ha324 rfl rfl rfl rfl) (fun K hK => ?_)
                          refine e_call ha324 Try.func21 rfl rfl rfl rfl (baseRight_any _ _ _ _ _ _ _ (m315.nums (i := 401) rfl) (m315.nums (i := 402) rfl) (by omega)) ?_
                          rintro e w325 ⟨rfl, hb325⟩
                          have m326 := m315.later hb325
                          clear m315
                          clear hb325
                          refine ⟨_, rfl, fun a327 ha327 => ?_⟩; clear ha324 a324
                          refine hK _ _ (m326.to ⟨.inl rfl, .inl rfl, .inl rfl, .inl rfl, .inl rfl, .inl rfl, .inl rfl, .inl rfl, .inl rfl, .inl rfl, trivial⟩) ?_; clear hK K
                          refine stepE_only 9 rfl (by kernel_rfl) (wantedG ha327 rfl rfl rfl rfl) (fun K hK => ?_)
                          refine e_call ha327 Try.func22 rfl rfl rfl rfl (rbaseRight_any _ _ _ _ _ _ _ (m326.nums (i := 401) rfl) (m326.nums (i := 402) rfl) (by omega)) ?_
                          rintro e w328 ⟨rfl, hb328⟩
                          have m329 := m326.later hb328
                          clear m326
                          clear hb328
                          refine ⟨_, rfl, fun a330 ha330 => ?_⟩; clear ha327 a327
                          refine hK _ _ (m329.to ⟨.inl rfl, .inl rfl, .inl rfl, .inl rfl, .inl rfl, .inl rfl, .inl rfl, .inl rfl, .inl rfl, .inl rfl, trivial⟩) ?_; clear hK K
                          refine d_yg 10 ha330 rfl rfl rfl rfl rfl (fun _ => (m329.to ⟨.inl rfl, .inl rfl, .inl rfl, .inl rfl, .inl rfl, .inl rfl, .inl rfl, .inl rfl, .inl rfl, .inl rfl, trivial⟩)) (by kernel_rfl) (by kernel_rfl) (by kernel_rfl) (by rfl) (fun _ _ _ h => h) (fun W => y_neqB ha330 rfl rfl Try.underlying4) ?_
                          clear ha330 a330; intro a331 ha331
                          refine d_y 11 ha331 rfl rfl (fun _ => (m329.to ⟨.inl rfl, .inl rfl, .inl rfl, .inl rfl, .inl rfl, .inl rfl, .inl rfl, .inl rfl, .inl rfl, .inl rfl, trivial⟩)) (by kernel_rfl) (by kernel_rfl) (by kernel_rfl) (by rfl) (fun _ _ _ h => h) (fun W => y_pickF ha331 rfl rfl) ?_
                          clear ha331 a331; intro a332 ha332
                          refine d_y 12 ha332 rfl rfl (fun _ => (m329.to ⟨.inl rfl, .inl rfl, .inl rfl, .inl rfl, .inl rfl, .inl rfl, .inl rfl, .inl rfl, .inl rfl, .inl rfl, trivial⟩)) (by kernel_rfl) (by kernel_rfl) (by kernel_rfl) (by rfl) (fun _ _ _ h => h) (fun W => y_move ha332 rfl) ?_
                          clear ha332 a332; intro a333 ha333
                          refine bool_cases ha333 (t := 195) rfl (fun hb334 ha334 => ?_) (fun hb334 ha334 => ?_)
                          · exact absurd hb334 (by simp)
                          clear ha333 hb334
                          refine d_hg 13 ha334 rfl rfl rfl rfl rfl (m329.to ⟨.inl rfl, .inl rfl, .inl rfl, .inl rfl, .inl rfl, .inl rfl, .inl rfl, .inl rfl, .inl rfl, .inl rfl, trivial⟩) (by kernel_rfl) (by kernel_rfl) (by kernel_rfl) (by kernel_rfl) (by kernel_rfl) (fun _ _ _ h => h) (fun W hW => y_loadBR ha334 hW (i := 403) rfl rfl Try.underlying27 rfl sz27t (by simp) (by dsimp only [List.drop, List.take] <;> rfl)) ?_
                          clear ha334 a333; intro a335 ha335
                          refine d_hg 14 ha335 rfl rfl rfl rfl rfl (m329.to ⟨.inl rfl, .inl rfl, .inl rfl, .inl rfl, .inl rfl, .inl rfl, .inl rfl, .inl rfl, .inl rfl, .inl rfl, trivial⟩) (by kernel_rfl) (by kernel_rfl) (by kernel_rfl) (by kernel_rfl) (by kernel_rfl) (fun _ _ _ h => h) (fun W hW => y_loadBR ha335 hW (i := 301) rfl rfl Try.underlying27 rfl sz27t (by simp) (by dsimp only [List.drop, List.take] <;> rfl)) ?_
                          clear ha335 a335; intro a336 ha336
                          refine d_hg 16 ha336 rfl rfl rfl rfl rfl (m329.to ⟨.inl rfl, .inl rfl, .inl rfl, .inl rfl, .inl rfl, .inl rfl, .inl rfl, .inl rfl, .inl rfl, .inl rfl, trivial⟩) (by kernel_rfl) (by kernel_rfl) (by kernel_rfl) (by kernel_rfl) (by kernel_rfl) (fun _ _ _ h => h) (fun W hW => y_loadBR ha336 hW (i := 403) rfl rfl Try.underlying27 rfl sz27t (by simp) (by dsimp only [List.drop, List.take] <;> rfl)) ?_
                          clear ha336 a336; intro a337 ha337
                          refine d_hg 17 ha337 rfl rfl rfl rfl rfl (m329.to ⟨.inl rfl, .inl rfl, .inl rfl, .inl rfl, .inl rfl, .inl rfl, .inl rfl, .inl rfl, .inl rfl, .inl rfl, trivial⟩) (by kernel_rfl) (by kernel_rfl) (by kernel_rfl) (by kernel_rfl) (by kernel_rfl) (fun _ _ _ h => h) (fun W hW => y_loadBR ha337 hW (i := 301) rfl rfl Try.underlying27 rfl sz27t (by simp) (by dsimp only [List.drop, List.take] <;> rfl)) ?_
                          clear ha337 a337; intro a338 ha338
                          refine stepE_only 15 rfl (by kernel_rfl) (wantedG ha338 rfl rfl rfl rfl) (fun K hK => ?_)
                          refine e_call ha338 Try.func23 rfl rfl rfl rfl (baseSame_any _ _ _ _ _ _ _ _ _ _ _ _ _ (m329.nums (i := 401) rfl) (m329.nums (i := 300) rfl) (m329.nums (i := 402) rfl) (m329.nums (i := 5) rfl) (by assumption) (by assumption) (by omega)) ?_
                          rintro e w339 ⟨rfl, hb339⟩
                          have m340 := m329.later hb339
                          clear m329
                          clear hb339
                          refine ⟨_, rfl, fun a341 ha341 => ?_⟩; clear ha338 a338
                          refine hK _ _ (m340.to ⟨.inl rfl, .inl rfl, .inl rfl, .inl rfl, .inl rfl, .inl rfl, .inl rfl, .inl rfl, .inl rfl, .inl rfl, trivial⟩) ?_; clear hK K
                          refine stepE_only 18 rfl (by kernel_rfl) (wantedG ha341 rfl rfl rfl rfl) (fun K hK => ?_)
                          refine e_call ha341 Try.func24 rfl rfl rfl rfl (rbaseSame_any _ _ _ _ _ _ _ _ _ _ _ _ _ (m340.nums (i := 401) rfl) (m340.nums (i := 300) rfl) (m340.nums (i := 402) rfl) (m340.nums (i := 5) rfl) (by assumption) (by assumption) (by omega)) ?_
                          rintro e w342 ⟨rfl, hb342⟩
                          have m343 := m340.later hb342
                          clear m340
                          clear hb342
                          refine ⟨_, rfl, fun a344 ha344 => ?_⟩; clear ha341 a341
                          refine hK _ _ (m343.to ⟨.inl rfl, .inl rfl, .inl rfl, .inl rfl, .inl rfl, .inl rfl, .inl rfl, .inl rfl, .inl rfl, .inl rfl, trivial⟩) ?_; clear hK K
                          refine d_yg 19 ha344 rfl rfl rfl rfl rfl (fun _ => (m343.to ⟨.inl rfl, .inl rfl, .inl rfl, .inl rfl, .inl rfl, .inl rfl, .inl rfl, .inl rfl, .inl rfl, .inl rfl, trivial⟩)) (by kernel_rfl) (by kernel_rfl) (by kernel_rfl) (by rfl) (fun _ _ _ h => h) (fun W => y_neqB ha344 rfl rfl Try.underlying4) ?_
                          clear ha344 a344; intro a345 ha345
                          refine d_y 20 ha345 rfl rfl (fun _ => (m343.to ⟨.inl rfl, .inl rfl, .inl rfl, .inl rfl, .inl rfl, .inl rfl, .inl rfl, .inl rfl, .inl rfl, .inl rfl, trivial⟩)) (by kernel_rfl) (by kernel_rfl) (by kernel_rfl) (by rfl) (fun _ _ _ h => h) (fun W => y_pickF ha345 rfl rfl) ?_
                          clear ha345 a345; intro a346 ha346
                          refine wpAnyE_done (by kernel_rfl) ?_ _
                          refine hK36 _ _ ?_; clear hK36; try clear K36
                          refine bool_cases ha346 (t := 203) rfl (fun hb347 ha347 => ?_) (fun hb347 ha347 => ?_)
                          · exact absurd hb347 (by simp)
                          clear ha346 hb347
                          refine wp_cond_false (ha347.ev (x := .tmp 203) rfl) ?_
                          refine wp_skip ?_
                          refine hK35 _ _ ?_; clear hK35; try clear K35
                          refine wp_seq_k (fun K37 hK37 => ?_)
                          refine wp_seq_k (fun K38 hK38 => ?_)
                          have ha348 : Has 233 [(5, _), (23, _), (173, _), (174, _), (175, _), (25, _), (27, _)] a346 := ha347.only [5, 23, 173, 174, 175, 25, 27]; clear ha347
                          refine wp_region_lit ?_
                          refine st_y ha348 rfl (y_move ha348 rfl) ?_
                          clear ha348 a346; intro a349 ha349
                          refine st_y ha349 rfl (y_len ha349 rfl Try.underlying22) ?_
                          clear ha349 a349; intro a350 ha350
                          refine st_y ha350 rfl (y_eql ha350 rfl rfl) ?_
                          clear ha350 a350; intro a351 ha351
                          refine wpList_nil ?_
                          refine hK38 _ _ ?_; clear hK38; try clear K38
                          refine bool_cases ha351 (t := 206) rfl (fun hb352 ha352 => ?_) (fun hb352 ha352 => ?_)
                          · skip
                            clear ha351
                            try simp only [decide_eq_true_eq, decide_eq_false_iff_not, Bool.not_eq_true, Bool.not_eq_false, Bool.not_eq_eq_eq_not, Bool.not_true, Bool.not_false, Bool.not_not, Int.not_lt, Int.not_le, ne_eq, Decidable.not_not] at hb352
                            refine wp_cond_true (ha352.ev (x := .tmp 206) rfl) ?_
                            refine wp_exit ?_
                            refine hK32 _ _ ?_; clear hK32; try clear K32
                            refine wp_region_lit ?_
                            refine st_y ha352 rfl (y_add ha352 rfl rfl (r := ((k + 1 : Nat) : Int)) (by rw [IntWalk.i64_in _ (by omega)]; omega)) ?_
                            clear ha352 a351; intro a353 ha353
                            refine st_y ha353 rfl (y_move ha353 rfl) ?_
                            clear ha353 a353; intro a354 ha354
                            refine wpList_nil ?_
                            show ∃ n', n' < _ ∧ _
                            exact ⟨3 - (k + 1), by omega, k + 1, _, _, _, _, _, by omega, rfl, ha354.only [5, 23, 173, 174, 175], m343.only [5, 300, 301, 302]⟩
                          · skip
                            clear ha351
                            try simp only [decide_eq_true_eq, decide_eq_false_iff_not, Bool.not_eq_true, Bool.not_eq_false, Bool.not_eq_eq_eq_not, Bool.not_true, Bool.not_false, Bool.not_not, Int.not_lt, Int.not_le, ne_eq, Decidable.not_not] at hb352
                            have hok : baseOk ai at1 ac ad = true := by
                              cases h9 : baseOk ai at1 ac ad with
                              | true => rfl
                              | false => exact absurd (by unfold baseP; rw [h9]; rfl) hb352
                            have hPe : baseP ai at1 ac ad = baseB ai at1 ac ad := by unfold baseP; rw [if_pos hok]
                            rw [hPe] at m343 ha352
                            obtain ⟨hB1, hB2, hB3⟩ := base_back ai at1 ac ad more hok (by omega)
                            have hBy := baseB_ok hok had hmore
                            have hBl : (baseB ai at1 ac ad ++ more).length ≤ 1000 := by have := baseB_len ai at1 ac ad hacl; simp; omega
                            have hBl2 : (baseB ai at1 ac ad).length ≤ 300 := by have := baseB_len ai at1 ac ad hacl; omega
                            refine wp_cond_false (ha352.ev (x := .tmp 206) rfl) ?_
                            refine wp_skip ?_
                            refine hK37 _ _ ?_; clear hK37; try clear K37
                            refine wp_seq_k (fun K39 hK39 => ?_)
                            refine wp_region_lit ?_
                            refine st_y ha352 rfl (y_move ha352 rfl) ?_
                            clear ha352 a351; intro a355 ha355
                            refine wpList_plain rfl (fun K hK => ?_)
                            refine e_app0N ha355 m343 406 rfl rfl (m343.nums (i := 405) rfl) Try.underlying22 inf5t (by decide) (by omega) rfl ?_
                            clear ha355 a355 m343; intro p356 c356 a357 w357 ha357 m357 
                            refine hK _ _ ?_; clear hK K
                            refine st_y ha357 rfl (y_move ha357 rfl) ?_
                            clear ha357 a357; intro a358 ha358
                            refine wpList_plain rfl (fun K hK => ?_)
                            refine e_appN ha358 m357 406 rfl rfl rfl (m357.nums (i := 5) rfl) Try.underlying22 inf5t (by decide) (by omega) rfl ?_
                            clear ha358 a358 m357; intro p359 c359 a360 w360 ha360 m360 
                            refine hK _ _ ?_; clear hK K
                            refine wpList_plain rfl (fun K hK => ?_)
                            refine e_call ha360 Try.func15 rfl rfl rfl rfl (new_any _ _ _ (m360.numsO (i := 406) rfl) hBy (Nat.le_trans hBl (by decide))) ?_
                            rintro e w361 ⟨B361, u361, rfl, hBl361, hR361, hb361⟩
                            have hBN361 : w0.heap.size ≤ B361 := Nat.le_trans m360.keep.size (Nat.le_of_lt hBl361)
                            have m362 := m360.callAny 407 hb361 (Nat.le_of_lt hBl361) hR361.lt
                            clear m360
                            clear hb361 hBl361
                            refine ⟨_, rfl, fun a363 ha363 => ?_⟩; clear ha360 a360
                            refine hK _ _ ?_; clear hK K
                            refine st_y ha363 rfl (y_assign ha363 rfl) ?_
                            clear ha363 a363; intro a364 ha364
                            refine wpList_nil ?_
                            refine hK39 _ _ ?_; clear hK39; try clear K39
                            refine wp_seq_k (fun K40 hK40 => ?_)
                            have ha365 : Has 233 [(5, _), (23, _), (173, _), (174, _), (175, _), (25, _), (28, _)] a364 := ha364.only [5, 23, 173, 174, 175, 25, 28]; clear ha364
                            refine wp_region_lit ?_
                            refine st_y ha365 rfl (y_move ha365 rfl) ?_
                            clear ha365 a364; intro a366 ha366
                            refine wpList_plain rfl (fun K hK => ?_)
                            refine e_call ha366 Try.func25 rfl rfl rfl rfl (baseRead_any _ _ _ 0 _ hR361 (by omega)) ?_
                            rintro e w367 ⟨uc367, u367, he367, hoc367, ho367, ⟨v367, hr367⟩, hon367⟩
                            rw [hB1, hB2] at he367
                            rw [hB1] at ho367 hoc367
                            rw [hB3] at hr367
                            dsimp only at he367 ho367 hoc367
                            subst he367
                            obtain ⟨pv367, cv367, hv367⟩ := reader_shape hr367; subst hv367
                            obtain ⟨puc367, cuc367, huc367⟩ := ownsRow_shape hoc367; subst huc367
                            obtain ⟨pu367, cu367, hu367⟩ := ownsRow_shape ho367; subst hu367
                            have hfo367 := fun b hb => MemOk.free_out m362 (b := b) (.inr hb)
                            have m368 := m362.only1 407 rfl hon367.keep 410 rfl
                            clear m362
                            have m369 := m368.dat 408 rfl (.ns (numsS_own hoc367 (fun b hb => free_add rfl (hfo367 b (World.ownsRow.lt hoc367 b hb).1))))
                            clear m368
                            have m370 := m369.dat 409 rfl (.ns (numsS_own ho367 (fun b hb => free_add rfl (free_add rfl (hfo367 b (World.ownsRow.lt ho367 b hb).1)))))
                            clear m369
                            have m371 := m370.shut 407 rfl hBN361 (reader_range hr367)
                            clear m370
                            clear ho367 hoc367 hr367 hon367 hfo367 hR361
                            refine ⟨_, rfl, fun a372 ha372 => ?_⟩; clear ha366 a366
                            refine hK _ _ ?_; clear hK K
                            refine st_y ha372 rfl (y_move ha372 rfl) ?_
                            clear ha372 a372; intro a373 ha373
                            refine st_y ha373 rfl (y_extract ha373 rfl rfl) ?_
                            clear ha373 a373; intro a374 ha374
                            refine st_y ha374 rfl (y_extract ha374 rfl rfl) ?_
                            clear ha374 a374; intro a375 ha375
                            refine wpList_plain rfl (fun K hK => ?_)
                            refine e_alloc ha375 m371 411 zc27t rfl ?_
                            clear ha375 a375 m371; intro g376 a377 w377 ha377 m377 hB377 hg377
                            clear hB377 hg377
                            refine hK _ _ ?_; clear hK K
                            refine wpList_plain rfl (fun K hK => ?_)
                            refine e_storeW ha377 m377 411 rfl rfl rfl rfl rfl sz27t ?_
                            clear m377; intro w378 m378 hB378
                            clear hB378
                            refine hK _ _ ?_; clear hK K
                            refine st_y ha377 rfl (y_assign ha377 rfl) ?_
                            clear ha377 a377; intro a379 ha379
                            refine wpList_nil ?_
                            refine hK40 _ _ ?_; clear hK40; try clear K40
                            refine wp_seq_k (fun K41 hK41 => ?_)
                            refine wp_region_lit ?_
                            refine st_y ha379 rfl (y_move ha379 rfl) ?_
                            clear ha379 a379; intro a380 ha380
                            refine st_y ha380 rfl (y_not ha380 rfl) ?_
                            clear ha380 a380; intro a381 ha381
                            refine st_y ha381 rfl (y_move ha381 rfl) ?_
                            clear ha381 a381; intro a382 ha382
                            refine st_g ha382 rfl rfl rfl rfl (y_loadBR ha382 m378 (i := 411) rfl rfl Try.underlying27 rfl sz27t (by simp) (by dsimp only [List.drop, List.take] <;> rfl)) ?_
                            clear ha382 a382; intro a383 ha383
                            refine st_g ha383 rfl rfl rfl rfl (y_loadBR ha383 m378 (i := 403) rfl rfl Try.underlying27 rfl sz27t (by simp) (by dsimp only [List.drop, List.take] <;> rfl)) ?_
                            clear ha383 a383; intro a384 ha384
                            refine st_ge ha384 rfl rfl rfl rfl (fun K hK => ?_)
                            refine e_call ha384 Try.func24 rfl rfl rfl rfl (rbaseSame_any _ _ _ _ _ _ _ _ _ _ _ _ _ (m378.nums (i := 408) rfl) (m378.nums (i := 401) rfl) (m378.nums (i := 409) rfl) (m378.nums (i := 402) rfl) (by assumption) (by assumption) (by omega)) ?_
                            rintro e w385 ⟨rfl, hb385⟩
                            have m386 := m378.later hb385
                            clear m378
                            clear hb385
                            refine ⟨_, rfl, fun a387 ha387 => ?_⟩; clear ha384 a384
                            refine hK _ _ ?_; clear hK K
                            refine st_g ha387 rfl rfl rfl rfl (y_not ha387 rfl) ?_
                            clear ha387 a387; intro a388 ha388
                            refine st_y ha388 rfl (y_pickF ha388 rfl rfl) ?_
                            clear ha388 a388; intro a389 ha389
                            refine st_y ha389 rfl (y_move ha389 rfl) ?_
                            clear ha389 a389; intro a390 ha390
                            refine bool_cases ha390 (t := 225) rfl (fun hb391 ha391 => ?_) (fun hb391 ha391 => ?_)
                            · exact absurd hb391 (by simp)
                            clear ha390 hb391
                            refine st_g ha391 rfl rfl rfl rfl (y_move ha391 rfl) ?_
                            clear ha391 a390; intro a392 ha392
                            refine st_ge ha392 rfl rfl rfl rfl (fun K hK => ?_)
                            refine e_call ha392 Try.func17 rfl rfl rfl rfl (left_cel _ _ _ _ _ ((m386.ok 407 _ rfl : Res.ok _ _ _ _ (.cel _ _ _)).2.2 0 _ rfl)) ?_
                            rintro e w393 ⟨rfl, hb393⟩
                            subst hb393
                            have m394 := m386
                            clear m386
                            refine ⟨_, rfl, fun a395 ha395 => ?_⟩; clear ha392 a392
                            refine hK _ _ ?_; clear hK K
                            refine st_g ha395 rfl rfl rfl rfl (y_move ha395 rfl) ?_
                            clear ha395 a395; intro a396 ha396
                            refine st_g ha396 rfl rfl rfl rfl (y_len ha396 rfl Try.underlying22) ?_
                            clear ha396 a396; intro a397 ha397
                            refine st_g ha397 rfl rfl rfl rfl (y_neq ha397 rfl rfl) ?_
                            clear ha397 a397; intro a398 ha398
                            refine st_y ha398 rfl (y_pickF ha398 rfl rfl) ?_
                            clear ha398 a398; intro a399 ha399
                            refine wpList_nil ?_
                            refine hK41 _ _ ?_; clear hK41; try clear K41
                            refine bool_cases ha399 (t := 231) rfl (fun hb400 ha400 => ?_) (fun hb400 ha400 => ?_)
                            · exact absurd hb400 (by simp)
                            clear ha399 hb400
                            refine wp_cond_false (ha400.ev (x := .tmp 231) rfl) ?_
                            refine wp_skip ?_
                            refine hK32 _ _ ?_; clear hK32; try clear K32
                            have ha401 : Has 233 [(5, _), (23, _), (173, _), (174, _), (175, _)] a399 := ha400.only [5, 23, 173, 174, 175]; clear ha400
                            refine wp_region_lit ?_
                            refine st_y ha401 rfl (y_add ha401 rfl rfl (r := ((k + 1 : Nat) : Int)) (by rw [IntWalk.i64_in _ (by omega)]; omega)) ?_
                            clear ha401 a399; intro a402 ha402
                            refine st_y ha402 rfl (y_move ha402 rfl) ?_
                            clear ha402 a402; intro a403 ha403
                            refine wpList_nil ?_
                            show ∃ n', n' < _ ∧ _
                            exact ⟨3 - (k + 1), by omega, k + 1, _, _, _, _, _, by omega, rfl, ha403.only [5, 23, 173, 174, 175], m394.only [5, 300, 301, 302]⟩
                        · skip
                          clear ha289
                          try simp only [decide_eq_true_eq, decide_eq_false_iff_not, Bool.not_eq_true, Bool.not_eq_false, Bool.not_eq_eq_eq_not, Bool.not_true, Bool.not_false, Bool.not_not, Int.not_lt, Int.not_le, ne_eq, Decidable.not_not] at hb290
                          refine wp_cond_false (ha290.ev (x := .tmp 176) rfl) ?_
                          refine wp_exit ?_
                          refine hK28 _ _ ?_; clear hK28; try clear K28
                          refine wp_seq_k (fun K42 hK42 => ?_)
                          refine wp_region_lit ?_
                          refine st_y ha290 rfl (y_assign ha290 rfl) ?_
                          clear ha290 a289; intro a404 ha404
                          refine wpList_nil ?_
                          refine hK42 _ _ ?_; clear hK42; try clear K42
                          refine wp_ret ?_
                          try dsimp only [Exit.then, Exit.inBlock]
                          refine (ret1 (fn := Try.f3) ha404 rfl rfl ?_)
                          exact ⟨rfl, m288.below⟩
                refine wp_seq_k (fun K43 hK43 => ?_)
                refine wp_region_lit ?_
                refine st_y ha132 rfl (y_move ha132 rfl) ?_
                clear ha132 a132; intro a405 ha405
                refine st_y ha405 rfl (y_len ha405 rfl Try.underlying22) ?_
                clear ha405 a405; intro a406 ha406
                refine st_y ha406 rfl (y_gtr ha406 rfl rfl) ?_
                clear ha406 a406; intro a407 ha407
                refine wpList_nil ?_
                refine hK43 _ _ ?_; clear hK43; try clear K43
                refine bool_cases ha407 (t := 74) rfl (fun hb408 ha408 => ?_) (fun hb408 ha408 => ?_)
                · skip
                  clear ha407
                  try simp only [decide_eq_true_eq, decide_eq_false_iff_not, Bool.not_eq_true, Bool.not_eq_false, Bool.not_eq_eq_eq_not, Bool.not_true, Bool.not_false, Bool.not_not, Int.not_lt, Int.not_le, ne_eq, Decidable.not_not] at hb408
                  have hES0 := es0_ok (ri := ri) (rt := rt) (rk := rk) what hrd (by omega) hbl (by omega)
                  obtain ⟨⟨e1i, e1t, e1k, e1d⟩, he1⟩ : ∃ e, (es0 ri rt rk rd what l)[1]? = some e := ⟨_, List.getElem?_eq_getElem (by simp [es0, entsN_len]; omega)⟩
                  have h1E : 1 < ((es0 ri rt rk rd what l).map entD).length := by simp [es0, entsN_len]; omega
                  have he1m := hES0 _ (List.mem_of_getElem? he1)
                  refine wp_cond_true (ha408.ev (x := .tmp 74) rfl) ?_
                  obtain ⟨gr410, cr410, hp410, m410⟩ := m132.openC (i := 9) rfl (Nat.lt_of_le_of_lt (Nat.zero_le _) h1E)
                  cases hp410; clear m132
                  obtain ⟨vs411, hc411, hR411⟩ := m410.eltC (i := 9) rfl (1) (r := [.v (.int .i64 e1i), .v (.int .i64 e1t), .v (.int .i64 e1k), .ns .u8 e1d]) (es_get he1)
                  rcases hR411 with _ | ⟨hd411_0, _ | ⟨hd411_1, _ | ⟨hd411_2, _ | ⟨hd411_3, _ | _⟩⟩⟩⟩
                  obtain rfl := hd411_0.v_out
                  clear hd411_0
                  obtain rfl := hd411_1.v_out
                  clear hd411_1
                  obtain rfl := hd411_2.v_out
                  clear hd411_2
                  obtain ⟨p412, c412, hv412, hw412⟩ := hd411_3.ns_shape; subst hv412
                  have m412 := m410.dat 100 rfl (hd411_3.cast (fun _ h => h)); clear m410 hd411_3
                  obtain ⟨vs414, hc414, hR414⟩ := m412.eltC (i := 9) rfl (1) (r := [.v (.int .i64 e1i), .v (.int .i64 e1t), .v (.int .i64 e1k), .ns .u8 e1d]) (es_get he1)
                  rcases hR414 with _ | ⟨hd414_0, _ | ⟨hd414_1, _ | ⟨hd414_2, _ | ⟨hd414_3, _ | _⟩⟩⟩⟩
                  obtain rfl := hd414_0.v_out
                  clear hd414_0
                  obtain rfl := hd414_1.v_out
                  clear hd414_1
                  obtain rfl := hd414_2.v_out
                  clear hd414_2
                  obtain ⟨p415, c415, hv415, hw415⟩ := hd414_3.ns_shape; subst hv415
                  have m415 := m412.dat 101 rfl (hd414_3.cast (fun _ h => h)); clear m412 hd414_3
                  have m416 : MemOk _ _ [(1, _), (2, _), (3, _), (4, _), (5, _), (6, _), (7, _), (8, _), (9, _), (100, _), (101, _)] _ := m415.only [1, 2, 3, 4, 5, 6, 7, 8, 9, 100, 101]; clear m415
                  refine region_m 13 (B := [(1, _), (2, _), (3, _), (4, _), (5, _), (6, _), (7, _), (8, _), (9, _), (100, _), (101, _)]) (m416.to ⟨.inl rfl, .inl rfl, .inl rfl, .inl rfl, .inl rfl, .inl rfl, .inl rfl, .inl rfl, .inl rfl, .inl rfl, .inl rfl, trivial⟩) m416 (by kernel_rfl) (fun w417 mB417 m417 => ?_); clear m416 mB417
                  refine d_y 0 ha408 rfl rfl (fun _ => (m417.to ⟨.inl rfl, .inl rfl, .inl rfl, .inl rfl, .inl rfl, .inl rfl, .inl rfl, .inl rfl, .inl rfl, .inl rfl, .inl rfl, trivial⟩)) (by kernel_rfl) (by kernel_rfl) (by kernel_rfl) (by rfl) (fun _ _ _ h => h) (fun W => y_move ha408 rfl) ?_
                  clear ha408 a407; intro a418 ha418
                  refine d_y 1 ha418 rfl rfl (fun _ => (m417.to ⟨.inl rfl, .inl rfl, .inl rfl, .inl rfl, .inl rfl, .inl rfl, .inl rfl, .inl rfl, .inl rfl, .inl rfl, .inl rfl, trivial⟩)) (by kernel_rfl) (by kernel_rfl) (by kernel_rfl) (by rfl) (fun _ _ _ h => h) (fun W => y_move ha418 rfl) ?_
                  clear ha418 a418; intro a419 ha419
                  refine d_y 2 ha419 rfl rfl (fun _ => (m417.to ⟨.inl rfl, .inl rfl, .inl rfl, .inl rfl, .inl rfl, .inl rfl, .inl rfl, .inl rfl, .inl rfl, .inl rfl, .inl rfl, trivial⟩)) (by kernel_rfl) (by kernel_rfl) (by kernel_rfl) (by rfl) (fun _ _ _ h => h) (fun W => y_idx ha419 rfl rfl Try.underlying29 sz24t (1) rfl h1E) ?_
                  clear ha419 a419; intro a420 ha420
                  refine d_r 3 ha420 rfl rfl (m417.to ⟨.inl rfl, .inl rfl, .inl rfl, .inl rfl, .inl rfl, .inl rfl, .inl rfl, .inl rfl, .inl rfl, .inl rfl, .inl rfl, trivial⟩) (by kernel_rfl) (by kernel_rfl) (by kernel_rfl) (by kernel_rfl) (by kernel_rfl) (fun _ _ _ h => h) (fun W hW => y_loadRC ha420 hW (i := 9) rfl (1) hc411 rfl Try.underlying24 rfl sz24t) ?_
                  clear ha420 a420; intro a421 ha421
                  refine d_y 4 ha421 rfl rfl (fun _ => (m417.to ⟨.inl rfl, .inl rfl, .inl rfl, .inl rfl, .inl rfl, .inl rfl, .inl rfl, .inl rfl, .inl rfl, .inl rfl, .inl rfl, trivial⟩)) (by kernel_rfl) (by kernel_rfl) (by kernel_rfl) (by rfl) (fun _ _ _ h => h) (fun W => y_move ha421 rfl) ?_
                  clear ha421 a421; intro a422 ha422
                  refine d_y 5 ha422 rfl rfl (fun _ => (m417.to ⟨.inl rfl, .inl rfl, .inl rfl, .inl rfl, .inl rfl, .inl rfl, .inl rfl, .inl rfl, .inl rfl, .inl rfl, .inl rfl, trivial⟩)) (by kernel_rfl) (by kernel_rfl) (by kernel_rfl) (by rfl) (fun _ _ _ h => h) (fun W => y_move ha422 rfl) ?_
                  clear ha422 a422; intro a423 ha423
                  refine d_y 7 ha423 rfl rfl (fun _ => (m417.to ⟨.inl rfl, .inl rfl, .inl rfl, .inl rfl, .inl rfl, .inl rfl, .inl rfl, .inl rfl, .inl rfl, .inl rfl, .inl rfl, trivial⟩)) (by kernel_rfl) (by kernel_rfl) (by kernel_rfl) (by rfl) (fun _ _ _ h => h) (fun W => y_move ha423 rfl) ?_
                  clear ha423 a423; intro a424 ha424
                  refine d_y 8 ha424 rfl rfl (fun _ => (m417.to ⟨.inl rfl, .inl rfl, .inl rfl, .inl rfl, .inl rfl, .inl rfl, .inl rfl, .inl rfl, .inl rfl, .inl rfl, .inl rfl, trivial⟩)) (by kernel_rfl) (by kernel_rfl) (by kernel_rfl) (by rfl) (fun _ _ _ h => h) (fun W => y_idx ha424 rfl rfl Try.underlying29 sz24t (1) rfl h1E) ?_
                  clear ha424 a424; intro a425 ha425
                  refine d_r 9 ha425 rfl rfl (m417.to ⟨.inl rfl, .inl rfl, .inl rfl, .inl rfl, .inl rfl, .inl rfl, .inl rfl, .inl rfl, .inl rfl, .inl rfl, .inl rfl, trivial⟩) (by kernel_rfl) (by kernel_rfl) (by kernel_rfl) (by kernel_rfl) (by kernel_rfl) (fun _ _ _ h => h) (fun W hW => y_loadRC ha425 hW (i := 9) rfl (1) hc414 rfl Try.underlying24 rfl sz24t) ?_
                  clear ha425 a425; intro a426 ha426
                  refine d_y 10 ha426 rfl rfl (fun _ => (m417.to ⟨.inl rfl, .inl rfl, .inl rfl, .inl rfl, .inl rfl, .inl rfl, .inl rfl, .inl rfl, .inl rfl, .inl rfl, .inl rfl, trivial⟩)) (by kernel_rfl) (by kernel_rfl) (by kernel_rfl) (by rfl) (fun _ _ _ h => h) (fun W => y_move ha426 rfl) ?_
                  clear ha426 a426; intro a427 ha427
                  refine d_y 11 ha427 rfl rfl (fun _ => (m417.to ⟨.inl rfl, .inl rfl, .inl rfl, .inl rfl, .inl rfl, .inl rfl, .inl rfl, .inl rfl, .inl rfl, .inl rfl, .inl rfl, trivial⟩)) (by kernel_rfl) (by kernel_rfl) (by kernel_rfl) (by rfl) (fun _ _ _ h => h) (fun W => y_move ha427 rfl) ?_
                  clear ha427 a427; intro a428 ha428
                  refine d_y 12 ha428 rfl rfl (fun _ => (m417.to ⟨.inl rfl, .inl rfl, .inl rfl, .inl rfl, .inl rfl, .inl rfl, .inl rfl, .inl rfl, .inl rfl, .inl rfl, .inl rfl, trivial⟩)) (by kernel_rfl) (by kernel_rfl) (by kernel_rfl) (by rfl) (fun _ _ _ h => h) (fun W => y_and ha428 rfl rfl (r := v7) hv7) ?_
                  clear ha428 a428; intro a429 ha429
                  refine stepE_only 6 rfl (by kernel_rfl) rfl (fun K hK => ?_)
                  refine e_call ha429 Try.func8 rfl rfl rfl rfl (bent_any _ _ _ _ _ _ _ _ _ _ (m417.rd (i := 100) rfl)) ?_
                  rintro e w430 ⟨p430, c430, rfl, hR430, hb430⟩
                  have m431 := m417.callD 102 rfl hb430 hR430
                  clear m417
                  clear hb430 hR430
                  refine ⟨_, rfl, fun a432 ha432 => ?_⟩; clear ha429 a429
                  refine hK _ _ (m431.to ⟨.inl rfl, .inl rfl, .inl rfl, .inl rfl, .inl rfl, .inl rfl, .inl rfl, .inl rfl, .inl rfl, .inl rfl, .inl rfl, trivial⟩) ?_; clear hK K
                  refine stepE_end 13 rfl (by kernel_rfl) rfl (by rfl) (fun K hK => ?_)
                  refine e_call ha432 Try.func8 rfl rfl rfl rfl (bent_any _ _ _ _ _ _ _ _ _ _ (m431.rd (i := 101) rfl)) ?_
                  rintro e w433 ⟨p433, c433, rfl, hR433, hb433⟩
                  have m434 := m431.callD 103 rfl hb433 hR433
                  clear m431
                  clear hb433 hR433
                  refine ⟨_, rfl, fun a435 ha435 => ?_⟩; clear ha432 a432
                  refine hK _ _ ?_; clear hK K
                  refine stepE_end 14 rfl (by kernel_rfl) rfl (by rfl) (fun K hK => ?_)
                  refine e_litR ha435 m434 104 (mm := 4) rfl (.cons rfl rfl (.cons (.v _) (.cons (.v _) (.cons (.v _) (.cons (m434.rd (i := 102) rfl) .nil)))) <| .cons rfl rfl (.cons (.v _) (.cons (.v _) (.cons (.v _) (.cons (m434.rd (i := 103) rfl) .nil)))) <| .nil) Try.underlying29 inf24t rfl rfl rfl rfl rfl ?_
                  clear ha435 a435 m434; intro g436 a437 w437 ha437 m437 
                  refine hK _ _ ?_; clear hK K
                  have m438 := m437.closeC 9 rfl; clear m437
                  have m440 := m438.freezeR 104 rfl; clear m438
                  refine stepE_end 15 rfl (by kernel_rfl) rfl (by rfl) (fun K hK => ?_)
                  refine e_appR ha437 m440 9 rfl rfl rfl (m440.rd (i := 104) rfl) Try.underlying29 inf24t rfl rfl (by decide) (by simp [es0, entsN_len]; omega) rfl ?_
                  clear ha437 a437 m440; intro p439 c439 a441 w441 ha441 m441 
                  refine hK _ _ ?_; clear hK K
                  refine d_y 16 ha441 rfl rfl (fun h => (Bool.false_ne_true (h.symm.trans (by rfl))).elim) (by kernel_rfl) (by kernel_rfl) (by kernel_rfl) (by rfl) (fun _ _ _ h => h) (fun W => y_assign ha441 rfl) ?_
                  clear ha441 a441; intro a442 ha442
                  refine wpAnyE_done (by kernel_rfl) ?_ _
                  have hE : ((es0 ri rt rk rd what l)).map entD ++ [[D.v (.int .i64 (bentV e1i e1t e1k e1d what v).1), .v (.int .i64 (bentV e1i e1t e1k e1d what v).2.1), .v (.int .i64 (bentV e1i e1t e1k e1d what v).2.2.1), .ns .u8 (bentV e1i e1t e1k e1d what v).2.2.2], [D.v (.int .i64 (bentV e1i e1t e1k e1d what v7).1), .v (.int .i64 (bentV e1i e1t e1k e1d what v7).2.1), .v (.int .i64 (bentV e1i e1t e1k e1d what v7).2.2.1), .ns .u8 (bentV e1i e1t e1k e1d what v7).2.2.2]] = ((es0 ri rt rk rd what l) ++ [bentV e1i e1t e1k e1d what v, bentV e1i e1t e1k e1d what v7]).map entD := by rw [List.map_append]; rfl
                  rw [hE] at m441 ha442
                  exact hC12 _ _ ⟨(es0 ri rt rk rd what l) ++ [bentV e1i e1t e1k e1d what v, bentV e1i e1t e1k e1d what v7], _, _, _, _, by simp [es0, entsN_len]; omega, es_bent hES0 he1m, ha442.only [2, 3, 4, 5, 6, 7, 8, 15], m441.only [1, 2, 3, 4, 5, 6, 7, 8, 9]⟩
                · skip
                  clear ha407
                  try simp only [decide_eq_true_eq, decide_eq_false_iff_not, Bool.not_eq_true, Bool.not_eq_false, Bool.not_eq_eq_eq_not, Bool.not_true, Bool.not_false, Bool.not_not, Int.not_lt, Int.not_le, ne_eq, Decidable.not_not] at hb408
                  have hES0 := es0_ok (ri := ri) (rt := rt) (rk := rk) what hrd (by omega) hbl (by omega)
                  refine wp_cond_false (ha408.ev (x := .tmp 74) rfl) ?_
                  refine wp_skip ?_
                  exact hC12 _ _ ⟨(es0 ri rt rk rd what l), _, _, _, _, by simp [es0, entsN_len]; omega, hES0, ha408.only [2, 3, 4, 5, 6, 7, 8, 15], m132.only [1, 2, 3, 4, 5, 6, 7, 8, 9]⟩
              have ha443 : Has 233 [(2, _), (3, _), (4, _), (5, _), (6, _), (7, _), (8, _), (14, _)] a128 := ha129.only [2, 3, 4, 5, 6, 7, 8, 14]; clear ha129
              have m444 : MemOk _ _ [(1, _), (2, _), (3, _), (4, _), (5, _), (6, _), (7, _), (8, _)] _ := m7.only [1, 2, 3, 4, 5, 6, 7, 8]; clear m7
              refine region_m 9 (B := [(1, _), (2, _), (3, _), (4, _), (5, _), (6, _), (7, _), (8, _)]) (m444.to ⟨.inl rfl, .inl rfl, .inl rfl, .inl rfl, .inl rfl, .inl rfl, .inl rfl, .inl rfl, trivial⟩) m444 (by kernel_rfl) (fun w445 mB445 m445 => ?_); clear m444 mB445
              refine d_h 0 ha443 rfl rfl (m445.to ⟨.inl rfl, .inl rfl, .inl rfl, .inl rfl, .inl rfl, .inl rfl, .inl rfl, .inl rfl, trivial⟩) (by kernel_rfl) (by kernel_rfl) (by kernel_rfl) (by kernel_rfl) (by kernel_rfl) (fun _ _ _ h => h) (fun W hW => y_loadBR ha443 hW (i := 7) rfl rfl Try.underlying24 rfl sz24t (by simp) (by dsimp only [List.drop, List.take] <;> rfl)) ?_
              clear ha443 a128; intro a446 ha446
              refine d_y 2 ha446 rfl rfl (fun _ => (m445.to ⟨.inl rfl, .inl rfl, .inl rfl, .inl rfl, .inl rfl, .inl rfl, .inl rfl, .inl rfl, trivial⟩)) (by kernel_rfl) (by kernel_rfl) (by kernel_rfl) (by rfl) (fun _ _ _ h => h) (fun W => y_move ha446 rfl) ?_
              clear ha446 a446; intro a447 ha447
              refine d_y 3 ha447 rfl rfl (fun _ => (m445.to ⟨.inl rfl, .inl rfl, .inl rfl, .inl rfl, .inl rfl, .inl rfl, .inl rfl, .inl rfl, trivial⟩)) (by kernel_rfl) (by kernel_rfl) (by kernel_rfl) (by rfl) (fun _ _ _ h => h) (fun W => y_conv ha447 rfl Try.underlying5 Try.underlying3 (IntWalk.i64_in _ (by omega))) ?_
              clear ha447 a447; intro a448 ha448
              refine d_y 4 ha448 rfl rfl (fun _ => (m445.to ⟨.inl rfl, .inl rfl, .inl rfl, .inl rfl, .inl rfl, .inl rfl, .inl rfl, .inl rfl, trivial⟩)) (by kernel_rfl) (by kernel_rfl) (by kernel_rfl) (by rfl) (fun _ _ _ h => h) (fun W => y_add ha448 rfl rfl (r := (what : Int) + 1) (IntWalk.i64_in _ (by omega))) ?_
              clear ha448 a448; intro a449 ha449
              refine d_y 5 ha449 rfl rfl (fun _ => (m445.to ⟨.inl rfl, .inl rfl, .inl rfl, .inl rfl, .inl rfl, .inl rfl, .inl rfl, .inl rfl, trivial⟩)) (by kernel_rfl) (by kernel_rfl) (by kernel_rfl) (by rfl) (fun _ _ _ h => h) (fun W => y_move ha449 rfl) ?_
              clear ha449 a449; intro a450 ha450
              refine d_two 1 6 rfl rfl (by kernel_rfl) rfl rfl (fun K hK => ?_) (fun K hK => ?_)
              · skip
                refine e_litR ha450 m445 9 (mm := 4) rfl (.cons rfl rfl (.cons (.v _) (.cons (.v _) (.cons (.v _) (.cons (m445.rd (i := 1) rfl) .nil)))) <| .nil) Try.underlying29 inf24t rfl rfl rfl rfl rfl ?_
                clear ha450 a450 m445; intro g451 a452 w452 ha452 m452 
                refine hK _ _ (fun _ => (m452.to ⟨.inl rfl, .inl rfl, .inl rfl, .inl rfl, .inl rfl, .inl rfl, .inl rfl, .inl rfl, trivial⟩)) ?_; clear hK K
                refine stepE_only 6 rfl (by kernel_rfl) rfl (fun K hK => ?_)
                refine e_call ha452 Try.func7 rfl rfl rfl rfl (ents_any _ ((what : Int) + 1) l _ _ _ (m452.rd (i := 4) rfl) (by omega) (by omega) hbl) ?_
                rintro e w453 ⟨po453, co453, rfl, hR453, hb453⟩
                have m454 := m452.callR 10 hb453 hR453
                clear m452
                clear hb453 hR453
                refine ⟨_, rfl, fun a455 ha455 => ?_⟩; clear ha452 a452
                refine hK _ _ (m454.to ⟨.inl rfl, .inl rfl, .inl rfl, .inl rfl, .inl rfl, .inl rfl, .inl rfl, .inl rfl, trivial⟩) ?_; clear hK K
                have m456 := m454.freezeR 10 rfl; clear m454
                refine stepE_only 7 rfl (by kernel_rfl) rfl (fun K hK => ?_)
                refine e_appR ha455 m456 9 rfl rfl rfl (m456.rd (i := 10) rfl) Try.underlying29 inf24t rfl rfl (by decide) (by simp [entsN_len]; omega) rfl ?_
                clear ha455 a455 m456; intro p457 c457 a458 w458 ha458 m458 
                refine hK _ _ (m458.to ⟨.inl rfl, .inl rfl, .inl rfl, .inl rfl, .inl rfl, .inl rfl, .inl rfl, .inl rfl, trivial⟩) ?_; clear hK K
                refine d_y 8 ha458 rfl rfl (fun _ => (m458.to ⟨.inl rfl, .inl rfl, .inl rfl, .inl rfl, .inl rfl, .inl rfl, .inl rfl, .inl rfl, trivial⟩)) (by kernel_rfl) (by kernel_rfl) (by kernel_rfl) (by rfl) (fun _ _ _ h => h) (fun W => y_assign ha458 rfl) ?_
                clear ha458 a458; intro a459 ha459
                refine wpAnyE_done (by kernel_rfl) ?_ _
                exact hC11 _ _ ⟨_, _, _, _, ha459.only [2, 3, 4, 5, 6, 7, 8, 15], m458.only [1, 2, 3, 4, 5, 6, 7, 8, 9]⟩
              · skip
                refine e_call ha450 Try.func7 rfl rfl rfl rfl (ents_any _ ((what : Int) + 1) l _ _ _ (m445.rd (i := 4) rfl) (by omega) (by omega) hbl) ?_
                rintro e w460 ⟨po460, co460, rfl, hR460, hb460⟩
                have m461 := m445.callR 9 hb460 hR460
                clear m445
                clear hb460 hR460
                refine ⟨_, rfl, fun a462 ha462 => ?_⟩; clear ha450 a450
                refine hK _ _ (fun _ => (m461.to ⟨.inl rfl, .inl rfl, .inl rfl, .inl rfl, .inl rfl, .inl rfl, .inl rfl, .inl rfl, trivial⟩)) ?_; clear hK K
                have m463 := m461.freezeR 9 rfl; clear m461
                refine stepE_only 1 rfl (by kernel_rfl) rfl (fun K hK => ?_)
                refine e_litR ha462 m463 10 (mm := 4) rfl (.cons rfl rfl (.cons (.v _) (.cons (.v _) (.cons (.v _) (.cons (m463.rd (i := 1) rfl) .nil)))) <| .nil) Try.underlying29 inf24t rfl rfl rfl rfl rfl ?_
                clear ha462 a462 m463; intro g464 a465 w465 ha465 m465 
                refine hK _ _ (m465.to ⟨.inl rfl, .inl rfl, .inl rfl, .inl rfl, .inl rfl, .inl rfl, .inl rfl, .inl rfl, trivial⟩) ?_; clear hK K
                refine stepE_only 7 rfl (by kernel_rfl) rfl (fun K hK => ?_)
                refine e_appR ha465 m465 10 rfl rfl rfl (m465.rd (i := 9) rfl) Try.underlying29 inf24t rfl rfl (by decide) (by simp [entsN_len]; omega) rfl ?_
                clear ha465 a465 m465; intro p466 c466 a467 w467 ha467 m467 
                refine hK _ _ (m467.to ⟨.inl rfl, .inl rfl, .inl rfl, .inl rfl, .inl rfl, .inl rfl, .inl rfl, .inl rfl, trivial⟩) ?_; clear hK K
                refine d_y 8 ha467 rfl rfl (fun _ => (m467.to ⟨.inl rfl, .inl rfl, .inl rfl, .inl rfl, .inl rfl, .inl rfl, .inl rfl, .inl rfl, trivial⟩)) (by kernel_rfl) (by kernel_rfl) (by kernel_rfl) (by rfl) (fun _ _ _ h => h) (fun W => y_assign ha467 rfl) ?_
                clear ha467 a467; intro a468 ha468
                refine wpAnyE_done (by kernel_rfl) ?_ _
                have m469 : MemOk (cx (fun _ => True) w0) w0 [(1, .dat (.slice p0 rd.length c0) (.ns .u8 rd)), (2, .dat (.slice pb bc.length cb) (.ns .i64 bc)), (3, .dat (.slice p1 bd.length c1) (.ns .u8 bd)), (4, .dat (.slice p2 l.length c2) (.ns .u8 l)), (5, .dat (.slice p5 more.length c5) (.ns .u8 more)), (6, .dat (.slice p6 confs.length c6) (.ns .i64 confs)), (7, .box _ 24 [.int .i64 ri, .int .i64 rt, .int .i64 rk, .slice p0 rd.length c0]), (8, .box _ 27 [.int .i64 bi, .int .i64 bt, .slice pb bc.length cb, .slice p1 bd.length c1]), (9, .row _ 24 4 (((es0 ri rt rk rd what l)).map entD))] _ := m467.ren [(1, 1), (2, 2), (3, 3), (4, 4), (5, 5), (6, 6), (7, 7), (8, 8), (9, 10)] (by decide); clear m467
                exact hC11 _ _ ⟨_, _, _, _, ha468.only [2, 3, 4, 5, 6, 7, 8, 15], m469⟩
end Go.Proofs.Ytkfcpnmdmoeioaa.K
