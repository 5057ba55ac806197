/- VolumeForms' walk. -/
import Derived.Test.YtocfbocdnklllaaVol9
namespace Go.Proofs.Ytocfbocdnklllaa.K
open Go.ChangeShapes Go.WideShapes Go.ChangeAt Go.RowKit
set_option linter.unusedVariables false
set_option linter.unusedSimpArgs false

theorem fl25vo : flatS Try.prog 25 [.int .i64 0, .int .i64 0, .int .i64 0, .int .i64 0, .int .i64 0, .slice none 0 0, .int .i64 0, .int .i64 0, .int .i64 0, .slice none 0 0] = true := by kernel_rfl
theorem inf3vo : (Try.prog.info? 3).map (fun i => (i.zero, i.size, i.bytes)) = some (some (.int .i64 0), 1, 8) := by kernel_rfl
theorem sz3vo : (Try.prog.info? 3).map (·.size) = some 1 := by kernel_rfl
theorem sz22vo : (Try.prog.info? 22).map (·.size) = some 1 := by kernel_rfl
theorem sz25vo : (Try.prog.info? 25).map (·.size) = some 10 := by kernel_rfl
theorem sz34vo : (Try.prog.info? 34).map (·.size) = some 11 := by kernel_rfl
theorem zc25vo : ((Try.prog.info? 25).bind (·.zero)).map (·.cells.toList) = some [.int .i64 0, .int .i64 0, .int .i64 0, .int .i64 0, .int .i64 0, .slice none 0 0, .int .i64 0, .int .i64 0, .int .i64 0, .slice none 0 0] := by kernel_rfl
theorem zc34vo : ((Try.prog.info? 34).bind (·.zero)).map (·.cells.toList) = some [.int .i64 0, .int .i64 0, .int .i64 0, .int .i64 0, .slice none 0 0, .int .i64 0, .int .i64 0, .bool false, .int .i64 0, .slice none 0 0, .slice none 0 0] := by kernel_rfl

def plL (i : Nat) : List Int := (List.range i).map (fun j : Nat => 1 + (j : Int) % 7)
theorem plL_len (i : Nat) : (plL i).length = i := by simp [plL]
theorem plL_snoc (i : Nat) : plL (i + 1) = plL i ++ [1 + (i : Int) % 7] := by simp [plL, List.range_succ]
theorem pl_ok (i : Nat) : ∀ g ∈ plL i, 1 ≤ g ∧ g ≤ 7 := fun g hg => by
  obtain ⟨j, -, rfl⟩ := List.mem_map.1 hg
  omega
theorem plset_ok {i : Nat} {v : Int} (hi : 1 ≤ i) : (∀ g ∈ (plL i).set (i - 1) v, 1 ≤ g ∧ g ≤ 7) ↔ (1 ≤ v ∧ v ≤ 7) := by
  constructor
  · intro h; exact h v (List.mem_set (by rw [plL_len]; omega) v)
  · intro h g hg
    rcases List.mem_or_eq_of_mem_set hg with hg | rfl
    · exact pl_ok i g hg
    · exact h
set_option maxRecDepth 100000
set_option maxHeartbeats 4000000
theorem forms_walk (bx px sx gx : Nat) (ls : Int) (w0 : World) (hbx : bx ≤ 65535) (hpx : px ≤ 65535) (hsx : sx ≤ 255) (hgx : gx ≤ 255) : Calls Try.prog 8 #[.int .u16 (bx : Int), .int .u16 (px : Int), .int .u8 (sx : Int), .int .u8 (gx : Int), .int .i8 ls] w0 fun e w' => e = .returned (.bool true) ∧ Below w0.heap.size w0 w' := by
  refine enter (fn := Try.f8) Try.func8 rfl Try.ntmps8 rfl (fun a0 ha0 => ?_)
  simp only [List.zipIdx_cons, List.zipIdx_nil, List.map_cons, List.map_nil, Nat.reduceAdd, Nat.zero_add] at ha0
  have m0 := MemOk.start (fun _ => False) w0
  obtain ⟨n, hn, hnb⟩ : ∃ x : Int, (bx : Int).tmod 300 = x ∧ 0 ≤ x ∧ x ≤ 299 := ⟨_, rfl, by rw [Int.tmod_eq_emod_of_nonneg (by omega)]; omega, by rw [Int.tmod_eq_emod_of_nonneg (by omega)]; omega⟩
  obtain ⟨p, hp, hpb⟩ : ∃ x : Int, (px : Int).tmod 300 = x ∧ 0 ≤ x ∧ x ≤ 299 := ⟨_, rfl, by rw [Int.tmod_eq_emod_of_nonneg (by omega)]; omega, by rw [Int.tmod_eq_emod_of_nonneg (by omega)]; omega⟩
  obtain ⟨k, hk0, hkb⟩ : ∃ x : Int, (sx : Int).tmod 40 = x ∧ 0 ≤ x ∧ x ≤ 39 := ⟨_, rfl, by rw [Int.tmod_eq_emod_of_nonneg (by omega)]; omega, by rw [Int.tmod_eq_emod_of_nonneg (by omega)]; omega⟩
  obtain ⟨g3, hg3, hg3b⟩ : ∃ x : Int, (gx : Int).tmod 3 = x ∧ 0 ≤ x ∧ x ≤ 2 := ⟨_, rfl, by rw [Int.tmod_eq_emod_of_nonneg (by omega)]; omega, by rw [Int.tmod_eq_emod_of_nonneg (by omega)]; omega⟩
  obtain ⟨g10, hg10, hg10b⟩ : ∃ x : Int, (gx : Int).tmod 10 = x ∧ 0 ≤ x ∧ x ≤ 9 := ⟨_, rfl, by rw [Int.tmod_eq_emod_of_nonneg (by omega)]; omega, by rw [Int.tmod_eq_emod_of_nonneg (by omega)]; omega⟩
  obtain ⟨lr, hlr, hlrb⟩ : ∃ x : Int, ls.tmod 2 = x ∧ -1 ≤ x ∧ x ≤ 1 := ⟨_, rfl, by have := Int.lt_tmod_of_pos ls (show (0 : Int) < 2 by decide); omega, by have := Int.tmod_lt_of_pos ls (show (0 : Int) < 2 by decide); omega⟩
  obtain ⟨pm, hpm⟩ : ∃ x : Int, max p 1 = x := ⟨_, rfl⟩
  obtain ⟨cc, hcc⟩ : ∃ x : Int, (n + pm - 1) / pm = x := ⟨_, rfl⟩
  have hccb : 0 ≤ cc ∧ cc ≤ 600 := by rw [← hcc]; have h1 := Int.ediv_nonneg (show 0 ≤ n + pm - 1 by omega) (show 0 ≤ pm by omega); have h2 := Int.ediv_le_self pm (show 0 ≤ n + pm - 1 by omega); omega
  have hcc1 : 1 ≤ n → 1 ≤ cc := fun h => by rw [← hcc]; exact (Int.le_ediv_iff_mul_le (by omega)).2 (by omega)
  obtain ⟨tot, htot⟩ : ∃ x : Int, cc + lr = x := ⟨_, rfl⟩
  refine wp_seq_k (fun K0 hK0 => ?_)
  refine wp_region_lit ?_
  refine st_y ha0 rfl (y_assign ha0 rfl) ?_
  clear ha0 a0; intro a1 ha1
  refine wpList_nil ?_
  refine hK0 _ _ ?_; clear hK0; try clear K0
  refine wp_seq_k (fun K1 hK1 => ?_)
  refine wp_seq_k (fun K2 hK2 => ?_)
  refine wp_region_lit ?_
  refine wpList_plain rfl (fun K hK => ?_)
  refine e_call ha1 Try.func9 rfl rfl rfl rfl (vknown_any _) ?_
  rintro e w2 ⟨rfl, hb2⟩
  have m3 := m0.later hb2
  clear m0
  clear hb2
  refine ⟨_, rfl, fun a4 ha4 => ?_⟩; clear ha1 a1
  refine hK _ _ ?_; clear hK K
  refine st_y ha4 rfl (y_not ha4 rfl) ?_
  clear ha4 a4; intro a5 ha5
  refine wpList_nil ?_
  refine hK2 _ _ ?_; clear hK2; try clear K2
  refine wp_cond_false (ha5.ev (x := .tmp 20) rfl) ?_
  refine wp_skip ?_
  refine hK1 _ _ ?_; clear hK1; try clear K1
  refine wp_seq_k (fun K3 hK3 => ?_)
  refine wp_region_lit ?_
  refine st_y ha5 rfl (y_move ha5 rfl) ?_
  clear ha5 a5; intro a6 ha6
  refine st_y ha6 rfl (y_rem ha6 rfl rfl (by decide) (r := n) hn) ?_
  clear ha6 a6; intro a7 ha7
  refine st_y ha7 rfl (y_conv ha7 rfl Try.underlying68 Try.underlying3 (r := n) (IntWalk.i64_in _ (by omega))) ?_
  clear ha7 a7; intro a8 ha8
  refine st_y ha8 rfl (y_move ha8 rfl) ?_
  clear ha8 a8; intro a9 ha9
  refine st_y ha9 rfl (y_rem ha9 rfl rfl (by decide) (r := p) hp) ?_
  clear ha9 a9; intro a10 ha10
  refine st_y ha10 rfl (y_conv ha10 rfl Try.underlying68 Try.underlying3 (r := p) (IntWalk.i64_in _ (by omega))) ?_
  clear ha10 a10; intro a11 ha11
  refine st_y ha11 rfl (y_move ha11 rfl) ?_
  clear ha11 a11; intro a12 ha12
  refine st_y ha12 rfl (y_rem ha12 rfl rfl (by decide) (r := k) hk0) ?_
  clear ha12 a12; intro a13 ha13
  refine st_y ha13 rfl (y_conv ha13 rfl Try.underlying5 Try.underlying3 (r := k) (IntWalk.i64_in _ (by omega))) ?_
  clear ha13 a13; intro a14 ha14
  refine st_y ha14 rfl (y_assign ha14 rfl) ?_
  clear ha14 a14; intro a15 ha15
  refine st_y ha15 rfl (y_assign ha15 rfl) ?_
  clear ha15 a15; intro a16 ha16
  refine st_y ha16 rfl (y_assign ha16 rfl) ?_
  clear ha16 a16; intro a17 ha17
  refine wpList_nil ?_
  refine hK3 _ _ ?_; clear hK3; try clear K3
  refine wp_seq_k (fun K4 hK4 => ?_)
  have ha18 : Has 152 [(3, _), (4, _), (10, _), (11, _), (12, _), (13, _)] a17 := ha17.only [3, 4, 10, 11, 12, 13]; clear ha17
  refine wp_region_lit ?_
  refine st_y ha18 rfl (y_move ha18 rfl) ?_
  clear ha18 a17; intro a19 ha19
  refine st_y ha19 rfl (y_move ha19 rfl) ?_
  clear ha19 a19; intro a20 ha20
  refine st_y ha20 rfl (y_move ha20 rfl) ?_
  clear ha20 a20; intro a21 ha21
  refine st_y ha21 rfl (y_build ha21 rfl zc25vo fl25vo rfl (by dsimp only [setL, List.set] <;> rfl)) ?_
  clear ha21 a21; intro a22 ha22
  refine wpList_plain rfl (fun K hK => ?_)
  refine e_alloc ha22 m3 20 zc25vo rfl ?_
  clear ha22 a22 m3; intro g23 a24 w24 ha24 m24 hB24 hg24
  clear hB24 hg24
  refine hK _ _ ?_; clear hK K
  refine wpList_plain rfl (fun K hK => ?_)
  refine e_storeW ha24 m24 20 rfl rfl rfl rfl rfl sz25vo ?_
  clear m24; intro w25 m25 hB25
  clear hB25
  refine hK _ _ ?_; clear hK K
  refine wpList_nil ?_
  refine hK4 _ _ ?_; clear hK4; try clear K4
  refine wp_seq_k (fun K5 hK5 => ?_)
  refine wp_seq_k (fun K6 hK6 => ?_)
  refine wp_region_lit ?_
  refine st_y ha24 rfl (y_assign ha24 rfl) ?_
  clear ha24 a24; intro a26 ha26
  refine wpList_nil ?_
  refine hK6 _ _ ?_; clear hK6; try clear K6
  refine wp_block ?_
  refine wp_loop_ghost (fun g a w => ∃ (i D : Nat) (q : Option Addr) (c : Nat), (i : Int) ≤ max tot 0 ∧ g = tot.toNat - i ∧ Has 152 [(3, .int .u8 (gx : Int)), (4, .int .i8 ls), (11, .int .i64 n), (12, .int .i64 p), (13, .int .i64 k), (14, .pointer (some ⟨D, 0, none⟩)), (15, .int .i64 (i : Int))] a ∧ MemOk (cn w0) w0 [(9, .box D 25 [.int .i64 0, .int .i64 7, .int .i64 n, .int .i64 k, .int .i64 p, .slice q (plL i).length c, .int .i64 0, .int .i64 0, .int .i64 0, .slice none 0 0]), (10, .num (.slice q (plL i).length c) 3 .i64 (plL i))] w) (tot.toNat) ?_ ?_
  · have mz := m25.nilN 10 3 .i64
    exact ⟨0, _, _, _, by omega, rfl, ha26.only [3, 4, 11, 12, 13, 14, 15], mz.ren [(9, 20), (10, 10)] (by decide)⟩
  · skip
    clear ha26 m25
    rintro g a27 w27 ⟨i, D, q, c, hit, hg, ha27, m27⟩
    have hpl : (plL i).length = i := plL_len i
    refine wp_seq_k (fun K7 hK7 => ?_)
    refine wp_seq_k (fun K8 hK8 => ?_)
    refine wp_region_lit ?_
    refine st_y ha27 rfl (y_move ha27 rfl) ?_
    clear ha27 a27; intro a28 ha28
    refine st_y ha28 rfl (y_move ha28 rfl) ?_
    clear ha28 a28; intro a29 ha29
    refine st_y ha29 rfl (y_move ha29 rfl) ?_
    clear ha29 a29; intro a30 ha30
    refine st_y ha30 rfl (y_max ha30 rfl rfl (r := pm) hpm) ?_
    clear ha30 a30; intro a31 ha31
    refine wpList_plain rfl (fun K hK => ?_)
    refine e_call ha31 Try.func33 rfl rfl rfl rfl (chunks_any n pm _ (by omega) (by omega)) ?_
    rintro e w32 ⟨rfl, hb32⟩
    have m33 := m27.later hb32
    clear m27
    clear hb32
    skip
    refine ⟨_, rfl, fun a34 ha34 => ?_⟩; clear ha31 a31
    refine hK _ _ ?_; clear hK K
    refine st_y ha34 rfl (y_move ha34 rfl) ?_
    clear ha34 a34; intro a35 ha35
    refine st_y ha35 rfl (y_rem ha35 rfl rfl (by decide) (r := lr) hlr) ?_
    clear ha35 a35; intro a36 ha36
    refine st_y ha36 rfl (y_conv ha36 rfl Try.underlying69 Try.underlying3 (r := lr) (IntWalk.i64_in _ (by omega))) ?_
    clear ha36 a36; intro a37 ha37
    refine st_y ha37 rfl (y_add ha37 rfl rfl (r := tot) (by rw [hcc, htot]; exact IntWalk.i64_in _ (by omega))) ?_
    clear ha37 a37; intro a38 ha38
    refine st_y ha38 rfl (y_lss ha38 rfl rfl) ?_
    clear ha38 a38; intro a39 ha39
    refine wpList_nil ?_
    refine hK8 _ _ ?_; clear hK8; try clear K8
    refine bool_cases ha39 (t := 43) rfl (fun hb40 ha40 => ?_) (fun hb40 ha40 => ?_)
    · skip
      clear ha39
      try simp only [decide_eq_true_eq, decide_eq_false_iff_not, Bool.not_eq_true, Bool.not_eq_false, Bool.not_eq_eq_eq_not, Bool.not_true, Bool.not_false, Bool.not_not, Int.not_lt, Int.not_le, ne_eq, Decidable.not_not] at hb40
      have hi3 : (i : Int) < tot := by omega
      have hi600 : i < 700 := by omega
      refine wp_cond_true (ha40.ev (x := .tmp 43) rfl) ?_
      refine wp_skip ?_
      refine hK7 _ _ ?_; clear hK7; try clear K7
      refine wp_seq_k (fun K9 hK9 => ?_)
      refine wp_block ?_
      have ha41 : Has 152 [(3, _), (4, _), (11, _), (12, _), (13, _), (14, _), (15, _)] a39 := ha40.only [3, 4, 11, 12, 13, 14, 15]; clear ha40
      refine wp_region_lit ?_
      refine st_y ha41 rfl (y_fieldAddr ha41 (off := 5) rfl Try.underlying25 rfl (s := 0) (by kernel_rfl) rfl) ?_
      clear ha41 a39; intro a42 ha42
      refine st_y ha42 rfl (y_loadB1 ha42 m33 (i := 9) rfl rfl rfl Try.underlying22 rfl) ?_
      clear ha42 a42; intro a43 ha43
      refine st_y ha43 rfl (y_move ha43 rfl) ?_
      clear ha43 a43; intro a44 ha44
      refine st_y ha44 rfl (y_rem ha44 rfl rfl (by decide) (Int.tmod_eq_emod_of_nonneg (by omega))) ?_
      clear ha44 a44; intro a45 ha45
      refine st_y ha45 rfl (y_add ha45 rfl rfl (r := 1 + (i : Int) % 7) (IntWalk.i64_in _ (by omega))) ?_
      clear ha45 a45; intro a46 ha46
      refine wpList_plain rfl (fun K hK => ?_)
      refine e_litN ha46 m33 100 (k := .i64) rfl rfl Try.underlying22 inf3vo rfl rfl rfl rfl ?_
      clear ha46 a46 m33; intro g47 a48 w48 ha48 m48 
      refine hK _ _ ?_; clear hK K
      refine wpList_plain rfl (fun K hK => ?_)
      refine e_appN ha48 m48 10 rfl rfl rfl (m48.numsO (i := 100) rfl) Try.underlying22 inf3vo (by decide) (by simp [plL_len]; omega) rfl ?_
      clear ha48 a48 m48; intro p49 c49 a50 w50 ha50 m50 
      refine hK _ _ ?_; clear hK K
      refine st_y ha50 rfl (y_fieldAddr ha50 (off := 5) rfl Try.underlying25 rfl (s := 0) (by kernel_rfl) rfl) ?_
      clear ha50 a50; intro a51 ha51
      refine wpList_plain rfl (fun K hK => ?_)
      refine e_store1 ha51 m50 9 rfl rfl rfl rfl rfl sz22vo (by dsimp only [List.set] <;> rfl) ?_
      clear m50; intro w52 m52 hB52
      clear hB52
      refine hK _ _ ?_; clear hK K
      refine wpList_nil ?_
      refine hK9 _ _ ?_; clear hK9; try clear K9
      have ha53 : Has 152 [(3, _), (4, _), (11, _), (12, _), (13, _), (14, _), (15, _)] a51 := ha51.only [3, 4, 11, 12, 13, 14, 15]; clear ha51
      refine wp_region_lit ?_
      refine st_y ha53 rfl (y_move ha53 rfl) ?_
      clear ha53 a51; intro a54 ha54
      refine st_y ha54 rfl (y_add ha54 rfl rfl (r := ((i + 1 : Nat) : Int)) (by rw [IntWalk.i64_in _ (by omega)]; omega)) ?_
      clear ha54 a54; intro a55 ha55
      refine st_y ha55 rfl (y_assign ha55 rfl) ?_
      clear ha55 a55; intro a56 ha56
      refine wpList_nil ?_
      show ∃ n', n' < _ ∧ _
      have hE : plL i ++ [1 + (i : Int) % 7] = plL (i + 1) := (plL_snoc i).symm
      rw [hE] at m52
      exact ⟨tot.toNat - (i + 1), by omega, i + 1, _, _, _, by omega, rfl, ha56.only [3, 4, 11, 12, 13, 14, 15], m52.only [9, 10]⟩
    · skip
      clear ha39
      try simp only [decide_eq_true_eq, decide_eq_false_iff_not, Bool.not_eq_true, Bool.not_eq_false, Bool.not_eq_eq_eq_not, Bool.not_true, Bool.not_false, Bool.not_not, Int.not_lt, Int.not_le, ne_eq, Decidable.not_not] at hb40
      refine wp_cond_false (ha40.ev (x := .tmp 43) rfl) ?_
      refine wp_exit ?_
      refine hK5 _ _ ?_; clear hK5; try clear K5
      refine wp_seq_k (fun K10 hK10 => ?_)
      have hC10 : ∀ (a : Act) (w : World), (∃ (pl : List Int) (D : Nat) (q : Option Addr) (c : Nat), ((pl.length : Int) = max tot 0) ∧ ((∀ g ∈ pl, 1 ≤ g ∧ g ≤ 7) ↔ (pl.length = 0 ∨ g3 ≠ 0 ∨ (2 ≤ g10 ∧ g10 ≤ 8))) ∧ Has 152 [(3, .int .u8 (gx : Int)), (4, .int .i8 ls), (11, .int .i64 n), (12, .int .i64 p), (13, .int .i64 k), (14, .pointer (some ⟨D, 0, none⟩))] a ∧ MemOk (cn w0) w0 [(9, .box D 25 [.int .i64 0, .int .i64 7, .int .i64 n, .int .i64 k, .int .i64 p, .slice q pl.length c, .int .i64 0, .int .i64 0, .int .i64 0, .slice none 0 0]), (10, .num (.slice q pl.length c) 3 .i64 pl)] w) → K10 a w := by
        clear ha40 m33
        rintro a57 w57 ⟨pl, D, q, c, hpl1, hpl2, ha57, m57⟩
        refine hK10 _ _ ?_; clear hK10; try clear K10
        refine wp_seq_k (fun K11 hK11 => ?_)
        have hC11 : ∀ (a : Act) (w : World), (∃ (b : Bool), (b = true ↔ (1 ≤ n ∧ n ≤ 256 ∧ 1 ≤ p ∧ p ≤ n ∧ 1 ≤ k ∧ k ≤ 32 ∧ lr = 0 ∧ (g3 ≠ 0 ∨ (2 ≤ g10 ∧ g10 ≤ 8)))) ∧ Has 152 [(3, .int .u8 (gx : Int)), (4, .int .i8 ls), (11, .int .i64 n), (12, .int .i64 p), (13, .int .i64 k), (14, .pointer (some ⟨D, 0, none⟩)), (16, .bool b)] a ∧ MemOk (cn w0) w0 [(9, .box D 25 [.int .i64 0, .int .i64 7, .int .i64 n, .int .i64 k, .int .i64 p, .slice q pl.length c, .int .i64 0, .int .i64 0, .int .i64 0, .slice none 0 0]), (10, .num (.slice q pl.length c) 3 .i64 pl)] w) → K11 a w := by
          clear ha57 m57
          rintro a58 w58 ⟨b, hbr, ha58, m58⟩
          refine hK11 _ _ ?_; clear hK11; try clear K11
          refine wp_seq_k (fun K12 hK12 => ?_)
          by_cases hN : NewOk 7 n k p 0 pl
          · skip
            obtain ⟨h1, h2, h3, h4, h5, h6, h7, h8, ⟨h9, h10⟩, h11, h12⟩ := id hN
            have hpp : pm = p := by omega
            rw [hpp] at hcc
            rw [hcc] at h10
            have hc1 := hcc1 (by omega)
            have hgg := hpl2.1 h9
            obtain rfl : b = true := hbr.2 (by omega)
            refine wp_region_lit ?_
            refine st_y ha58 rfl (y_loadBR ha58 m58 (i := 9) rfl rfl Try.underlying25 rfl sz25vo (by simp) (by dsimp only [List.drop, List.take] <;> rfl)) ?_
            clear ha58 a58; intro a59 ha59
            have m60 := m58.freezeN 10 rfl; clear m58
            refine wpList_plain rfl (fun K hK => ?_)
            refine e_call ha59 Try.func11 rfl rfl rfl rfl (vnew_yes _ 7 n k p 0 _ _ pl _ _ _ _ _ _ ((m60.rd (i := 10) rfl).any) (by omega) hN) ?_
            rintro e w61 ⟨p61, c61, rfl, hd61, hb61⟩
            have m62 := m60.callF 300 rfl hb61 hd61
            clear m60
            clear hb61 hd61
            refine ⟨_, rfl, fun a63 ha63 => ?_⟩; clear ha59 a59
            refine hK _ _ ?_; clear hK K
            refine st_y ha63 rfl (y_move ha63 rfl) ?_
            clear ha63 a63; intro a64 ha64
            refine st_y ha64 rfl (y_extract ha64 rfl rfl) ?_
            clear ha64 a64; intro a65 ha65
            refine st_y ha65 rfl (y_extract ha65 rfl rfl) ?_
            clear ha65 a65; intro a66 ha66
            refine wpList_plain rfl (fun K hK => ?_)
            refine e_alloc ha66 m62 301 zc34vo rfl ?_
            clear ha66 a66 m62; intro g67 a68 w68 ha68 m68 hB68 hg68
            clear hB68 hg68
            refine hK _ _ ?_; clear hK K
            refine wpList_plain rfl (fun K hK => ?_)
            refine e_storeW ha68 m68 301 rfl rfl rfl rfl rfl sz34vo ?_
            clear m68; intro w69 m69 hB69
            clear hB69
            refine hK _ _ ?_; clear hK K
            refine st_y ha68 rfl (y_assign ha68 rfl) ?_
            clear ha68 a68; intro a70 ha70
            refine wpList_nil ?_
            refine hK12 _ _ ?_; clear hK12; try clear K12
            refine wp_seq_k (fun K13 hK13 => ?_)
            refine wp_region_lit ?_
            refine st_y ha70 rfl (y_move ha70 rfl) ?_
            clear ha70 a70; intro a71 ha71
            refine st_y ha71 rfl (y_eql ha71 rfl rfl) ?_
            clear ha71 a71; intro a72 ha72
            refine st_y ha72 rfl (y_move ha72 rfl) ?_
            clear ha72 a72; intro a73 ha73
            refine st_y ha73 rfl (y_eqlB ha73 rfl rfl Try.underlying4) ?_
            clear ha73 a73; intro a74 ha74
            refine st_y ha74 rfl (y_move ha74 rfl) ?_
            clear ha74 a74; intro a75 ha75
            refine bool_cases ha75 (t := 126) rfl (fun hb76 ha76 => ?_) (fun hb76 ha76 => ?_)
            rotate_left
            · exact absurd hb76 (by first | decide | (simp; done))
            clear ha75 hb76
            refine st_g ha76 rfl rfl rfl rfl (y_move ha76 rfl) ?_
            clear ha76 a75; intro a77 ha77
            refine st_g ha77 rfl rfl rfl rfl (y_eql ha77 rfl rfl) ?_
            clear ha77 a77; intro a78 ha78
            refine st_g ha78 rfl rfl rfl rfl (y_move ha78 rfl) ?_
            clear ha78 a78; intro a79 ha79
            refine bool_cases ha79 (t := 129) rfl (fun hb80 ha80 => ?_) (fun hb80 ha80 => ?_)
            rotate_left
            · exact absurd hb80 (by first | decide | (simp; done))
            clear ha79 hb80
            refine st_skip ha80 rfl rfl rfl rfl ?_
            clear ha80 a79; intro a81 ha81
            refine st_skip ha81 rfl rfl rfl rfl ?_
            clear ha81 a81; intro a82 ha82
            refine st_g ha82 rfl rfl rfl rfl (y_pickT ha82 rfl rfl) ?_
            clear ha82 a82; intro a83 ha83
            refine st_y ha83 rfl (y_pickT ha83 rfl rfl) ?_
            clear ha83 a83; intro a84 ha84
            refine st_y ha84 rfl (y_move ha84 rfl) ?_
            clear ha84 a84; intro a85 ha85
            refine st_g ha85 rfl rfl rfl rfl (y_move ha85 rfl) ?_
            clear ha85 a85; intro a86 ha86
            refine st_g ha86 rfl rfl rfl rfl (y_not ha86 rfl) ?_
            clear ha86 a86; intro a87 ha87
            refine st_g ha87 rfl rfl rfl rfl (y_move ha87 rfl) ?_
            clear ha87 a87; intro a88 ha88
            refine st_g ha88 rfl rfl rfl rfl (y_loadBR ha88 m69 (i := 301) rfl rfl Try.underlying34 rfl sz34vo (by simp) (by dsimp only [List.drop, List.take] <;> rfl)) ?_
            clear ha88 a88; intro a89 ha89
            refine st_ge ha89 rfl rfl rfl rfl (fun K hK => ?_)
            refine e_call ha89 Try.func19 rfl rfl rfl rfl (vright_any 7 n k p 0 0 0 false pl [] [] _ _ _ _ _ _ _ ((m69.rd (i := 300) rfl).any) (Rd.nilN _ _ .i64 none) (.l0 none 0 2) (by omega) (by decide) (by decide) (fun _ h => by cases h)) ?_
            rintro e w90 ⟨rb, rfl, hrb, hb90⟩
            obtain rfl : rb = true := hrb.2 ⟨hN, by omega, by omega, (fun h => by cases h), (fun _ => rfl), by omega, by decide, (fun j hj => by simp at hj), (fun j hj => by simp at hj)⟩
            have m91 := m69.later hb90
            clear m69
            clear hb90
            refine ⟨_, rfl, fun a92 ha92 => ?_⟩; clear ha89 a89
            refine hK _ _ ?_; clear hK K
            refine st_g ha92 rfl rfl rfl rfl (y_move ha92 rfl) ?_
            clear ha92 a92; intro a93 ha93
            refine st_g ha93 rfl rfl rfl rfl (y_fieldAddr ha93 (off := 7) rfl Try.underlying34 rfl (s := 0) (by kernel_rfl) rfl) ?_
            clear ha93 a93; intro a94 ha94
            refine st_g ha94 rfl rfl rfl rfl (y_loadB1 ha94 m91 (i := 301) rfl rfl rfl Try.underlying4 rfl) ?_
            clear ha94 a94; intro a95 ha95
            refine st_g ha95 rfl rfl rfl rfl (y_not ha95 rfl) ?_
            clear ha95 a95; intro a96 ha96
            refine st_g ha96 rfl rfl rfl rfl (y_pickT ha96 rfl rfl) ?_
            clear ha96 a96; intro a97 ha97
            refine st_g ha97 rfl rfl rfl rfl (y_move ha97 rfl) ?_
            clear ha97 a97; intro a98 ha98
            refine st_g ha98 rfl rfl rfl rfl (y_loadBR ha98 m91 (i := 301) rfl rfl Try.underlying34 rfl sz34vo (by simp) (by dsimp only [List.drop, List.take] <;> rfl)) ?_
            clear ha98 a98; intro a99 ha99
            refine st_ge ha99 rfl rfl rfl rfl (fun K hK => ?_)
            refine e_call ha99 Try.func20 rfl rfl rfl rfl (vlen_any _ _ _ _ _ _ _ _ _ _ _ _ _ _ _ _ _ _) ?_
            rintro e w100 ⟨rfl, hb100⟩
            have m101 := m91.later hb100
            clear m91
            clear hb100
            refine ⟨_, rfl, fun a102 ha102 => ?_⟩; clear ha99 a99
            refine hK _ _ ?_; clear hK K
            refine st_g ha102 rfl rfl rfl rfl (y_eql ha102 rfl rfl) ?_
            clear ha102 a102; intro a103 ha103
            refine st_g ha103 rfl rfl rfl rfl (y_pickT ha103 rfl rfl) ?_
            clear ha103 a103; intro a104 ha104
            refine st_g ha104 rfl rfl rfl rfl (y_pickF ha104 rfl rfl) ?_
            clear ha104 a104; intro a105 ha105
            refine st_y ha105 rfl (y_pickT ha105 rfl rfl) ?_
            clear ha105 a105; intro a106 ha106
            refine st_y ha106 rfl (y_assign ha106 rfl) ?_
            clear ha106 a106; intro a107 ha107
            refine wpList_nil ?_
            refine hK13 _ _ ?_; clear hK13; try clear K13
            refine wp_ret ?_
            try dsimp only [Exit.then, Exit.inBlock]
            refine (ret1 (fn := Try.f8) ha107 rfl rfl ?_)
            exact ⟨by first | rfl | (simp; done) | simp_all, m101.below⟩
          · skip
            obtain rfl : b = false := by
              cases b with
              | false => rfl
              | true =>
                exfalso
                have hr := hbr.1 rfl
                have hpp : pm = p := by omega
                rw [hpp] at hcc
                exact hN ⟨by omega, by omega, by omega, by omega, by omega, by omega, by omega, by omega, ⟨hpl2.2 (by omega), by rw [hcc]; omega⟩, by omega, by omega⟩
            refine wp_region_lit ?_
            refine st_y ha58 rfl (y_loadBR ha58 m58 (i := 9) rfl rfl Try.underlying25 rfl sz25vo (by simp) (by dsimp only [List.drop, List.take] <;> rfl)) ?_
            clear ha58 a58; intro a108 ha108
            have m109 := m58.freezeN 10 rfl; clear m58
            refine wpList_plain rfl (fun K hK => ?_)
            refine e_call ha108 Try.func11 rfl rfl rfl rfl (vnew_no _ 7 n k p 0 _ _ pl _ _ _ _ _ _ ((m109.rd (i := 10) rfl).any) (by omega) hN) ?_
            rintro e w110 ⟨rfl, hb110⟩
            have m111 := m109.later hb110
            clear m109
            clear hb110
            refine ⟨_, rfl, fun a112 ha112 => ?_⟩; clear ha108 a108
            refine hK _ _ ?_; clear hK K
            refine st_y ha112 rfl (y_move ha112 rfl) ?_
            clear ha112 a112; intro a113 ha113
            refine st_y ha113 rfl (y_extract ha113 rfl rfl) ?_
            clear ha113 a113; intro a114 ha114
            refine st_y ha114 rfl (y_extract ha114 rfl rfl) ?_
            clear ha114 a114; intro a115 ha115
            refine wpList_plain rfl (fun K hK => ?_)
            refine e_alloc ha115 m111 300 zc34vo rfl ?_
            clear ha115 a115 m111; intro g116 a117 w117 ha117 m117 hB117 hg117
            clear hB117 hg117
            refine hK _ _ ?_; clear hK K
            refine wpList_plain rfl (fun K hK => ?_)
            refine e_storeW ha117 m117 300 rfl rfl rfl rfl rfl sz34vo ?_
            clear m117; intro w118 m118 hB118
            clear hB118
            refine hK _ _ ?_; clear hK K
            refine st_y ha117 rfl (y_assign ha117 rfl) ?_
            clear ha117 a117; intro a119 ha119
            refine wpList_nil ?_
            refine hK12 _ _ ?_; clear hK12; try clear K12
            refine wp_seq_k (fun K14 hK14 => ?_)
            refine wp_region_lit ?_
            refine st_y ha119 rfl (y_move ha119 rfl) ?_
            clear ha119 a119; intro a120 ha120
            refine st_y ha120 rfl (y_eql ha120 rfl rfl) ?_
            clear ha120 a120; intro a121 ha121
            refine st_y ha121 rfl (y_move ha121 rfl) ?_
            clear ha121 a121; intro a122 ha122
            refine st_y ha122 rfl (y_eqlB ha122 rfl rfl Try.underlying4) ?_
            clear ha122 a122; intro a123 ha123
            refine st_y ha123 rfl (y_move ha123 rfl) ?_
            clear ha123 a123; intro a124 ha124
            refine bool_cases ha124 (t := 126) rfl (fun hb125 ha125 => ?_) (fun hb125 ha125 => ?_)
            rotate_left
            · exact absurd hb125 (by first | decide | (simp; done))
            clear ha124 hb125
            refine st_g ha125 rfl rfl rfl rfl (y_move ha125 rfl) ?_
            clear ha125 a124; intro a126 ha126
            refine st_g ha126 rfl rfl rfl rfl (y_eql ha126 rfl rfl) ?_
            clear ha126 a126; intro a127 ha127
            refine st_g ha127 rfl rfl rfl rfl (y_move ha127 rfl) ?_
            clear ha127 a127; intro a128 ha128
            refine bool_cases ha128 (t := 129) rfl (fun hb129 ha129 => ?_) (fun hb129 ha129 => ?_)
            · exact absurd hb129 (by first | decide | (simp; done))
            clear ha128 hb129
            refine st_g ha129 rfl rfl rfl rfl (y_move ha129 rfl) ?_
            clear ha129 a128; intro a130 ha130
            refine st_g ha130 rfl rfl rfl rfl (y_eql ha130 rfl rfl) ?_
            clear ha130 a130; intro a131 ha131
            refine st_g ha131 rfl rfl rfl rfl (y_pickF ha131 rfl rfl) ?_
            clear ha131 a131; intro a132 ha132
            refine st_y ha132 rfl (y_pickT ha132 rfl rfl) ?_
            clear ha132 a132; intro a133 ha133
            refine st_y ha133 rfl (y_move ha133 rfl) ?_
            clear ha133 a133; intro a134 ha134
            refine bool_cases ha134 (t := 134) rfl (fun hb135 ha135 => ?_) (fun hb135 ha135 => ?_)
            rotate_left
            · exact absurd hb135 (by first | decide | (simp; done))
            clear ha134 hb135
            refine st_g ha135 rfl rfl rfl rfl (y_move ha135 rfl) ?_
            clear ha135 a134; intro a136 ha136
            refine st_g ha136 rfl rfl rfl rfl (y_not ha136 rfl) ?_
            clear ha136 a136; intro a137 ha137
            refine st_g ha137 rfl rfl rfl rfl (y_move ha137 rfl) ?_
            clear ha137 a137; intro a138 ha138
            refine st_skip ha138 rfl rfl rfl rfl ?_
            clear ha138 a138; intro a139 ha139
            refine st_skip ha139 rfl rfl rfl rfl ?_
            clear ha139 a139; intro a140 ha140
            refine st_skip ha140 rfl rfl rfl rfl ?_
            clear ha140 a140; intro a141 ha141
            refine st_skipU ha141 rfl rfl rfl rfl ?_
            clear ha141 a141; intro a142 ha142
            refine st_skipU ha142 rfl rfl rfl rfl ?_
            clear ha142 a142; intro a143 ha143
            refine st_skipU ha143 rfl rfl rfl rfl ?_
            clear ha143 a143; intro a144 ha144
            refine st_skip ha144 rfl rfl rfl rfl ?_
            clear ha144 a144; intro a145 ha145
            refine st_skip ha145 rfl rfl rfl rfl ?_
            clear ha145 a145; intro a146 ha146
            refine st_skipU ha146 rfl rfl rfl rfl ?_
            clear ha146 a146; intro a147 ha147
            refine st_skipU ha147 rfl rfl rfl rfl ?_
            clear ha147 a147; intro a148 ha148
            refine st_skipU ha148 rfl rfl rfl rfl ?_
            clear ha148 a148; intro a149 ha149
            refine st_skip ha149 rfl rfl rfl rfl ?_
            clear ha149 a149; intro a150 ha150
            refine st_g ha150 rfl rfl rfl rfl (y_pickT ha150 rfl rfl) ?_
            clear ha150 a150; intro a151 ha151
            refine st_y ha151 rfl (y_pickT ha151 rfl rfl) ?_
            clear ha151 a151; intro a152 ha152
            refine st_y ha152 rfl (y_assign ha152 rfl) ?_
            clear ha152 a152; intro a153 ha153
            refine wpList_nil ?_
            refine hK14 _ _ ?_; clear hK14; try clear K14
            refine wp_ret ?_
            try dsimp only [Exit.then, Exit.inBlock]
            refine (ret1 (fn := Try.f8) ha153 rfl rfl ?_)
            exact ⟨by first | rfl | (simp; done) | simp_all, m118.below⟩
        refine wp_region_lit ?_
        refine st_y ha57 rfl (y_move ha57 rfl) ?_
        clear ha57 a57; intro a154 ha154
        refine st_y ha154 rfl (y_geq ha154 rfl rfl) ?_
        clear ha154 a154; intro a155 ha155
        refine st_y ha155 rfl (y_move ha155 rfl) ?_
        clear ha155 a155; intro a156 ha156
        refine bool_cases ha156 (t := 76) rfl (fun hb157 ha157 => ?_) (fun hb157 ha157 => ?_)
        · skip
          clear ha156
          try simp only [decide_eq_true_eq, decide_eq_false_iff_not, Bool.not_eq_true, Bool.not_eq_false, Bool.not_eq_eq_eq_not, Bool.not_true, Bool.not_false, Bool.not_not, Int.not_lt, Int.not_le, ne_eq, Decidable.not_not] at hb157
          refine st_g ha157 rfl rfl rfl rfl (y_move ha157 rfl) ?_
          clear ha157 a156; intro a158 ha158
          refine st_g ha158 rfl rfl rfl rfl (y_leq ha158 rfl rfl) ?_
          clear ha158 a158; intro a159 ha159
          refine st_y ha159 rfl (y_pickT ha159 rfl rfl) ?_
          clear ha159 a159; intro a160 ha160
          refine st_y ha160 rfl (y_move ha160 rfl) ?_
          clear ha160 a160; intro a161 ha161
          refine bool_cases ha161 (t := 80) rfl (fun hb162 ha162 => ?_) (fun hb162 ha162 => ?_)
          · skip
            clear ha161
            try simp only [decide_eq_true_eq, decide_eq_false_iff_not, Bool.not_eq_true, Bool.not_eq_false, Bool.not_eq_eq_eq_not, Bool.not_true, Bool.not_false, Bool.not_not, Int.not_lt, Int.not_le, ne_eq, Decidable.not_not] at hb162
            refine st_g ha162 rfl rfl rfl rfl (y_move ha162 rfl) ?_
            clear ha162 a161; intro a163 ha163
            refine st_g ha163 rfl rfl rfl rfl (y_geq ha163 rfl rfl) ?_
            clear ha163 a163; intro a164 ha164
            refine st_y ha164 rfl (y_pickT ha164 rfl rfl) ?_
            clear ha164 a164; intro a165 ha165
            refine st_y ha165 rfl (y_move ha165 rfl) ?_
            clear ha165 a165; intro a166 ha166
            refine bool_cases ha166 (t := 84) rfl (fun hb167 ha167 => ?_) (fun hb167 ha167 => ?_)
            · skip
              clear ha166
              try simp only [decide_eq_true_eq, decide_eq_false_iff_not, Bool.not_eq_true, Bool.not_eq_false, Bool.not_eq_eq_eq_not, Bool.not_true, Bool.not_false, Bool.not_not, Int.not_lt, Int.not_le, ne_eq, Decidable.not_not] at hb167
              refine st_g ha167 rfl rfl rfl rfl (y_move ha167 rfl) ?_
              clear ha167 a166; intro a168 ha168
              refine st_g ha168 rfl rfl rfl rfl (y_move ha168 rfl) ?_
              clear ha168 a168; intro a169 ha169
              refine st_g ha169 rfl rfl rfl rfl (y_leq ha169 rfl rfl) ?_
              clear ha169 a169; intro a170 ha170
              refine st_y ha170 rfl (y_pickT ha170 rfl rfl) ?_
              clear ha170 a170; intro a171 ha171
              refine st_y ha171 rfl (y_move ha171 rfl) ?_
              clear ha171 a171; intro a172 ha172
              refine bool_cases ha172 (t := 89) rfl (fun hb173 ha173 => ?_) (fun hb173 ha173 => ?_)
              · skip
                clear ha172
                try simp only [decide_eq_true_eq, decide_eq_false_iff_not, Bool.not_eq_true, Bool.not_eq_false, Bool.not_eq_eq_eq_not, Bool.not_true, Bool.not_false, Bool.not_not, Int.not_lt, Int.not_le, ne_eq, Decidable.not_not] at hb173
                refine st_g ha173 rfl rfl rfl rfl (y_move ha173 rfl) ?_
                clear ha173 a172; intro a174 ha174
                refine st_g ha174 rfl rfl rfl rfl (y_geq ha174 rfl rfl) ?_
                clear ha174 a174; intro a175 ha175
                refine st_y ha175 rfl (y_pickT ha175 rfl rfl) ?_
                clear ha175 a175; intro a176 ha176
                refine st_y ha176 rfl (y_move ha176 rfl) ?_
                clear ha176 a176; intro a177 ha177
                refine bool_cases ha177 (t := 93) rfl (fun hb178 ha178 => ?_) (fun hb178 ha178 => ?_)
                · skip
                  clear ha177
                  try simp only [decide_eq_true_eq, decide_eq_false_iff_not, Bool.not_eq_true, Bool.not_eq_false, Bool.not_eq_eq_eq_not, Bool.not_true, Bool.not_false, Bool.not_not, Int.not_lt, Int.not_le, ne_eq, Decidable.not_not] at hb178
                  refine st_g ha178 rfl rfl rfl rfl (y_move ha178 rfl) ?_
                  clear ha178 a177; intro a179 ha179
                  refine st_g ha179 rfl rfl rfl rfl (y_leq ha179 rfl rfl) ?_
                  clear ha179 a179; intro a180 ha180
                  refine st_y ha180 rfl (y_pickT ha180 rfl rfl) ?_
                  clear ha180 a180; intro a181 ha181
                  refine st_y ha181 rfl (y_move ha181 rfl) ?_
                  clear ha181 a181; intro a182 ha182
                  refine bool_cases ha182 (t := 97) rfl (fun hb183 ha183 => ?_) (fun hb183 ha183 => ?_)
                  · skip
                    clear ha182
                    try simp only [decide_eq_true_eq, decide_eq_false_iff_not, Bool.not_eq_true, Bool.not_eq_false, Bool.not_eq_eq_eq_not, Bool.not_true, Bool.not_false, Bool.not_not, Int.not_lt, Int.not_le, ne_eq, Decidable.not_not] at hb183
                    refine st_g ha183 rfl rfl rfl rfl (y_move ha183 rfl) ?_
                    clear ha183 a182; intro a184 ha184
                    refine st_g ha184 rfl rfl rfl rfl (y_rem ha184 rfl rfl (by decide) (r := lr) hlr) ?_
                    clear ha184 a184; intro a185 ha185
                    refine st_g ha185 rfl rfl rfl rfl (y_eql ha185 rfl rfl) ?_
                    clear ha185 a185; intro a186 ha186
                    refine st_y ha186 rfl (y_pickT ha186 rfl rfl) ?_
                    clear ha186 a186; intro a187 ha187
                    refine st_y ha187 rfl (y_move ha187 rfl) ?_
                    clear ha187 a187; intro a188 ha188
                    refine bool_cases ha188 (t := 102) rfl (fun hb189 ha189 => ?_) (fun hb189 ha189 => ?_)
                    · skip
                      clear ha188
                      try simp only [decide_eq_true_eq, decide_eq_false_iff_not, Bool.not_eq_true, Bool.not_eq_false, Bool.not_eq_eq_eq_not, Bool.not_true, Bool.not_false, Bool.not_not, Int.not_lt, Int.not_le, ne_eq, Decidable.not_not] at hb189
                      refine st_g ha189 rfl rfl rfl rfl (y_move ha189 rfl) ?_
                      clear ha189 a188; intro a190 ha190
                      refine st_g ha190 rfl rfl rfl rfl (y_rem ha190 rfl rfl (by decide) (r := g3) hg3) ?_
                      clear ha190 a190; intro a191 ha191
                      refine st_g ha191 rfl rfl rfl rfl (y_neq ha191 rfl rfl) ?_
                      clear ha191 a191; intro a192 ha192
                      refine st_g ha192 rfl rfl rfl rfl (y_move ha192 rfl) ?_
                      clear ha192 a192; intro a193 ha193
                      refine bool_cases ha193 (t := 106) rfl (fun hb194 ha194 => ?_) (fun hb194 ha194 => ?_)
                      · skip
                        clear ha193
                        try simp only [decide_eq_true_eq, decide_eq_false_iff_not, Bool.not_eq_true, Bool.not_eq_false, Bool.not_eq_eq_eq_not, Bool.not_true, Bool.not_false, Bool.not_not, Int.not_lt, Int.not_le, ne_eq, Decidable.not_not] at hb194
                        refine st_skip ha194 rfl rfl rfl rfl ?_
                        clear ha194 a193; intro a195 ha195
                        refine st_skip ha195 rfl rfl rfl rfl ?_
                        clear ha195 a195; intro a196 ha196
                        refine st_skip ha196 rfl rfl rfl rfl ?_
                        clear ha196 a196; intro a197 ha197
                        refine st_skip ha197 rfl rfl rfl rfl ?_
                        clear ha197 a197; intro a198 ha198
                        refine st_skipU ha198 rfl rfl rfl rfl ?_
                        clear ha198 a198; intro a199 ha199
                        refine st_skipU ha199 rfl rfl rfl rfl ?_
                        clear ha199 a199; intro a200 ha200
                        refine st_skipU ha200 rfl rfl rfl rfl ?_
                        clear ha200 a200; intro a201 ha201
                        refine st_skip ha201 rfl rfl rfl rfl ?_
                        clear ha201 a201; intro a202 ha202
                        refine st_g ha202 rfl rfl rfl rfl (y_pickT ha202 rfl rfl) ?_
                        clear ha202 a202; intro a203 ha203
                        refine st_y ha203 rfl (y_pickT ha203 rfl rfl) ?_
                        clear ha203 a203; intro a204 ha204
                        refine st_y ha204 rfl (y_assign ha204 rfl) ?_
                        clear ha204 a204; intro a205 ha205
                        refine wpList_nil ?_
                        exact hC11 _ _ ⟨_, by first | exact iff_of_false (by simp) (by omega) | exact iff_of_true rfl (by omega) | (rw [decide_eq_true_eq]; omega) | (simp; omega), ha205.only [3, 4, 11, 12, 13, 14, 16], m57.only [9, 10]⟩
                      · skip
                        clear ha193
                        try simp only [decide_eq_true_eq, decide_eq_false_iff_not, Bool.not_eq_true, Bool.not_eq_false, Bool.not_eq_eq_eq_not, Bool.not_true, Bool.not_false, Bool.not_not, Int.not_lt, Int.not_le, ne_eq, Decidable.not_not] at hb194
                        refine st_g ha194 rfl rfl rfl rfl (y_move ha194 rfl) ?_
                        clear ha194 a193; intro a206 ha206
                        refine st_g ha206 rfl rfl rfl rfl (y_rem ha206 rfl rfl (by decide) (r := g10) hg10) ?_
                        clear ha206 a206; intro a207 ha207
                        refine st_g ha207 rfl rfl rfl rfl (y_geq ha207 rfl rfl) ?_
                        clear ha207 a207; intro a208 ha208
                        refine st_g ha208 rfl rfl rfl rfl (y_move ha208 rfl) ?_
                        clear ha208 a208; intro a209 ha209
                        refine bool_cases ha209 (t := 110) rfl (fun hb210 ha210 => ?_) (fun hb210 ha210 => ?_)
                        · skip
                          clear ha209
                          try simp only [decide_eq_true_eq, decide_eq_false_iff_not, Bool.not_eq_true, Bool.not_eq_false, Bool.not_eq_eq_eq_not, Bool.not_true, Bool.not_false, Bool.not_not, Int.not_lt, Int.not_le, ne_eq, Decidable.not_not] at hb210
                          refine st_g ha210 rfl rfl rfl rfl (y_move ha210 rfl) ?_
                          clear ha210 a209; intro a211 ha211
                          refine st_g ha211 rfl rfl rfl rfl (y_rem ha211 rfl rfl (by decide) (r := g10) hg10) ?_
                          clear ha211 a211; intro a212 ha212
                          refine st_g ha212 rfl rfl rfl rfl (y_leq ha212 rfl rfl) ?_
                          clear ha212 a212; intro a213 ha213
                          refine st_g ha213 rfl rfl rfl rfl (y_pickT ha213 rfl rfl) ?_
                          clear ha213 a213; intro a214 ha214
                          refine st_g ha214 rfl rfl rfl rfl (y_pickF ha214 rfl rfl) ?_
                          clear ha214 a214; intro a215 ha215
                          refine st_y ha215 rfl (y_pickT ha215 rfl rfl) ?_
                          clear ha215 a215; intro a216 ha216
                          refine st_y ha216 rfl (y_assign ha216 rfl) ?_
                          clear ha216 a216; intro a217 ha217
                          refine wpList_nil ?_
                          exact hC11 _ _ ⟨_, by first | exact iff_of_false (by simp) (by omega) | exact iff_of_true rfl (by omega) | (rw [decide_eq_true_eq]; omega) | (simp; omega), ha217.only [3, 4, 11, 12, 13, 14, 16], m57.only [9, 10]⟩
                        · skip
                          clear ha209
                          try simp only [decide_eq_true_eq, decide_eq_false_iff_not, Bool.not_eq_true, Bool.not_eq_false, Bool.not_eq_eq_eq_not, Bool.not_true, Bool.not_false, Bool.not_not, Int.not_lt, Int.not_le, ne_eq, Decidable.not_not] at hb210
                          refine st_skip ha210 rfl rfl rfl rfl ?_
                          clear ha210 a209; intro a218 ha218
                          refine st_skip ha218 rfl rfl rfl rfl ?_
                          clear ha218 a218; intro a219 ha219
                          refine st_skip ha219 rfl rfl rfl rfl ?_
                          clear ha219 a219; intro a220 ha220
                          refine st_g ha220 rfl rfl rfl rfl (y_pickF ha220 rfl rfl) ?_
                          clear ha220 a220; intro a221 ha221
                          refine st_g ha221 rfl rfl rfl rfl (y_pickF ha221 rfl rfl) ?_
                          clear ha221 a221; intro a222 ha222
                          refine st_y ha222 rfl (y_pickT ha222 rfl rfl) ?_
                          clear ha222 a222; intro a223 ha223
                          refine st_y ha223 rfl (y_assign ha223 rfl) ?_
                          clear ha223 a223; intro a224 ha224
                          refine wpList_nil ?_
                          exact hC11 _ _ ⟨_, by first | exact iff_of_false (by simp) (by omega) | exact iff_of_true rfl (by omega) | (rw [decide_eq_true_eq]; omega) | (simp; omega), ha224.only [3, 4, 11, 12, 13, 14, 16], m57.only [9, 10]⟩
                    · skip
                      clear ha188
                      try simp only [decide_eq_true_eq, decide_eq_false_iff_not, Bool.not_eq_true, Bool.not_eq_false, Bool.not_eq_eq_eq_not, Bool.not_true, Bool.not_false, Bool.not_not, Int.not_lt, Int.not_le, ne_eq, Decidable.not_not] at hb189
                      refine st_skip ha189 rfl rfl rfl rfl ?_
                      clear ha189 a188; intro a225 ha225
                      refine st_skip ha225 rfl rfl rfl rfl ?_
                      clear ha225 a225; intro a226 ha226
                      refine st_skip ha226 rfl rfl rfl rfl ?_
                      clear ha226 a226; intro a227 ha227
                      refine st_skip ha227 rfl rfl rfl rfl ?_
                      clear ha227 a227; intro a228 ha228
                      refine st_skipU ha228 rfl rfl rfl rfl ?_
                      clear ha228 a228; intro a229 ha229
                      refine st_skipU ha229 rfl rfl rfl rfl ?_
                      clear ha229 a229; intro a230 ha230
                      refine st_skipU ha230 rfl rfl rfl rfl ?_
                      clear ha230 a230; intro a231 ha231
                      refine st_skipU ha231 rfl rfl rfl rfl ?_
                      clear ha231 a231; intro a232 ha232
                      refine st_skipU ha232 rfl rfl rfl rfl ?_
                      clear ha232 a232; intro a233 ha233
                      refine st_skipU ha233 rfl rfl rfl rfl ?_
                      clear ha233 a233; intro a234 ha234
                      refine st_skipU ha234 rfl rfl rfl rfl ?_
                      clear ha234 a234; intro a235 ha235
                      refine st_skipU ha235 rfl rfl rfl rfl ?_
                      clear ha235 a235; intro a236 ha236
                      refine st_skip ha236 rfl rfl rfl rfl ?_
                      clear ha236 a236; intro a237 ha237
                      refine st_y ha237 rfl (y_pickF ha237 rfl rfl) ?_
                      clear ha237 a237; intro a238 ha238
                      refine st_y ha238 rfl (y_assign ha238 rfl) ?_
                      clear ha238 a238; intro a239 ha239
                      refine wpList_nil ?_
                      exact hC11 _ _ ⟨_, by first | exact iff_of_false (by simp) (by omega) | exact iff_of_true rfl (by omega) | (rw [decide_eq_true_eq]; omega) | (simp; omega), ha239.only [3, 4, 11, 12, 13, 14, 16], m57.only [9, 10]⟩
                  · skip
                    clear ha182
                    try simp only [decide_eq_true_eq, decide_eq_false_iff_not, Bool.not_eq_true, Bool.not_eq_false, Bool.not_eq_eq_eq_not, Bool.not_true, Bool.not_false, Bool.not_not, Int.not_lt, Int.not_le, ne_eq, Decidable.not_not] at hb183
                    refine st_skip ha183 rfl rfl rfl rfl ?_
                    clear ha183 a182; intro a240 ha240
                    refine st_skip ha240 rfl rfl rfl rfl ?_
                    clear ha240 a240; intro a241 ha241
                    refine st_skip ha241 rfl rfl rfl rfl ?_
                    clear ha241 a241; intro a242 ha242
                    refine st_y ha242 rfl (y_pickF ha242 rfl rfl) ?_
                    clear ha242 a242; intro a243 ha243
                    refine st_y ha243 rfl (y_move ha243 rfl) ?_
                    clear ha243 a243; intro a244 ha244
                    refine st_skip ha244 rfl rfl rfl rfl ?_
                    clear ha244 a244; intro a245 ha245
                    refine st_skip ha245 rfl rfl rfl rfl ?_
                    clear ha245 a245; intro a246 ha246
                    refine st_skip ha246 rfl rfl rfl rfl ?_
                    clear ha246 a246; intro a247 ha247
                    refine st_skip ha247 rfl rfl rfl rfl ?_
                    clear ha247 a247; intro a248 ha248
                    refine st_skipU ha248 rfl rfl rfl rfl ?_
                    clear ha248 a248; intro a249 ha249
                    refine st_skipU ha249 rfl rfl rfl rfl ?_
                    clear ha249 a249; intro a250 ha250
                    refine st_skipU ha250 rfl rfl rfl rfl ?_
                    clear ha250 a250; intro a251 ha251
                    refine st_skipU ha251 rfl rfl rfl rfl ?_
                    clear ha251 a251; intro a252 ha252
                    refine st_skipU ha252 rfl rfl rfl rfl ?_
                    clear ha252 a252; intro a253 ha253
                    refine st_skipU ha253 rfl rfl rfl rfl ?_
                    clear ha253 a253; intro a254 ha254
                    refine st_skipU ha254 rfl rfl rfl rfl ?_
                    clear ha254 a254; intro a255 ha255
                    refine st_skipU ha255 rfl rfl rfl rfl ?_
                    clear ha255 a255; intro a256 ha256
                    refine st_skip ha256 rfl rfl rfl rfl ?_
                    clear ha256 a256; intro a257 ha257
                    refine st_y ha257 rfl (y_pickF ha257 rfl rfl) ?_
                    clear ha257 a257; intro a258 ha258
                    refine st_y ha258 rfl (y_assign ha258 rfl) ?_
                    clear ha258 a258; intro a259 ha259
                    refine wpList_nil ?_
                    exact hC11 _ _ ⟨_, by first | exact iff_of_false (by simp) (by omega) | exact iff_of_true rfl (by omega) | (rw [decide_eq_true_eq]; omega) | (simp; omega), ha259.only [3, 4, 11, 12, 13, 14, 16], m57.only [9, 10]⟩
                · skip
                  clear ha177
                  try simp only [decide_eq_true_eq, decide_eq_false_iff_not, Bool.not_eq_true, Bool.not_eq_false, Bool.not_eq_eq_eq_not, Bool.not_true, Bool.not_false, Bool.not_not, Int.not_lt, Int.not_le, ne_eq, Decidable.not_not] at hb178
                  refine st_skip ha178 rfl rfl rfl rfl ?_
                  clear ha178 a177; intro a260 ha260
                  refine st_skip ha260 rfl rfl rfl rfl ?_
                  clear ha260 a260; intro a261 ha261
                  refine st_y ha261 rfl (y_pickF ha261 rfl rfl) ?_
                  clear ha261 a261; intro a262 ha262
                  refine st_y ha262 rfl (y_move ha262 rfl) ?_
                  clear ha262 a262; intro a263 ha263
                  refine st_skip ha263 rfl rfl rfl rfl ?_
                  clear ha263 a263; intro a264 ha264
                  refine st_skip ha264 rfl rfl rfl rfl ?_
                  clear ha264 a264; intro a265 ha265
                  refine st_skip ha265 rfl rfl rfl rfl ?_
                  clear ha265 a265; intro a266 ha266
                  refine st_y ha266 rfl (y_pickF ha266 rfl rfl) ?_
                  clear ha266 a266; intro a267 ha267
                  refine st_y ha267 rfl (y_move ha267 rfl) ?_
                  clear ha267 a267; intro a268 ha268
                  refine st_skip ha268 rfl rfl rfl rfl ?_
                  clear ha268 a268; intro a269 ha269
                  refine st_skip ha269 rfl rfl rfl rfl ?_
                  clear ha269 a269; intro a270 ha270
                  refine st_skip ha270 rfl rfl rfl rfl ?_
                  clear ha270 a270; intro a271 ha271
                  refine st_skip ha271 rfl rfl rfl rfl ?_
                  clear ha271 a271; intro a272 ha272
                  refine st_skipU ha272 rfl rfl rfl rfl ?_
                  clear ha272 a272; intro a273 ha273
                  refine st_skipU ha273 rfl rfl rfl rfl ?_
                  clear ha273 a273; intro a274 ha274
                  refine st_skipU ha274 rfl rfl rfl rfl ?_
                  clear ha274 a274; intro a275 ha275
                  refine st_skipU ha275 rfl rfl rfl rfl ?_
                  clear ha275 a275; intro a276 ha276
                  refine st_skipU ha276 rfl rfl rfl rfl ?_
                  clear ha276 a276; intro a277 ha277
                  refine st_skipU ha277 rfl rfl rfl rfl ?_
                  clear ha277 a277; intro a278 ha278
                  refine st_skipU ha278 rfl rfl rfl rfl ?_
                  clear ha278 a278; intro a279 ha279
                  refine st_skipU ha279 rfl rfl rfl rfl ?_
                  clear ha279 a279; intro a280 ha280
                  refine st_skip ha280 rfl rfl rfl rfl ?_
                  clear ha280 a280; intro a281 ha281
                  refine st_y ha281 rfl (y_pickF ha281 rfl rfl) ?_
                  clear ha281 a281; intro a282 ha282
                  refine st_y ha282 rfl (y_assign ha282 rfl) ?_
                  clear ha282 a282; intro a283 ha283
                  refine wpList_nil ?_
                  exact hC11 _ _ ⟨_, by first | exact iff_of_false (by simp) (by omega) | exact iff_of_true rfl (by omega) | (rw [decide_eq_true_eq]; omega) | (simp; omega), ha283.only [3, 4, 11, 12, 13, 14, 16], m57.only [9, 10]⟩
              · skip
                clear ha172
                try simp only [decide_eq_true_eq, decide_eq_false_iff_not, Bool.not_eq_true, Bool.not_eq_false, Bool.not_eq_eq_eq_not, Bool.not_true, Bool.not_false, Bool.not_not, Int.not_lt, Int.not_le, ne_eq, Decidable.not_not] at hb173
                refine st_skip ha173 rfl rfl rfl rfl ?_
                clear ha173 a172; intro a284 ha284
                refine st_skip ha284 rfl rfl rfl rfl ?_
                clear ha284 a284; intro a285 ha285
                refine st_y ha285 rfl (y_pickF ha285 rfl rfl) ?_
                clear ha285 a285; intro a286 ha286
                refine st_y ha286 rfl (y_move ha286 rfl) ?_
                clear ha286 a286; intro a287 ha287
                refine st_skip ha287 rfl rfl rfl rfl ?_
                clear ha287 a287; intro a288 ha288
                refine st_skip ha288 rfl rfl rfl rfl ?_
                clear ha288 a288; intro a289 ha289
                refine st_y ha289 rfl (y_pickF ha289 rfl rfl) ?_
                clear ha289 a289; intro a290 ha290
                refine st_y ha290 rfl (y_move ha290 rfl) ?_
                clear ha290 a290; intro a291 ha291
                refine st_skip ha291 rfl rfl rfl rfl ?_
                clear ha291 a291; intro a292 ha292
                refine st_skip ha292 rfl rfl rfl rfl ?_
                clear ha292 a292; intro a293 ha293
                refine st_skip ha293 rfl rfl rfl rfl ?_
                clear ha293 a293; intro a294 ha294
                refine st_y ha294 rfl (y_pickF ha294 rfl rfl) ?_
                clear ha294 a294; intro a295 ha295
                refine st_y ha295 rfl (y_move ha295 rfl) ?_
                clear ha295 a295; intro a296 ha296
                refine st_skip ha296 rfl rfl rfl rfl ?_
                clear ha296 a296; intro a297 ha297
                refine st_skip ha297 rfl rfl rfl rfl ?_
                clear ha297 a297; intro a298 ha298
                refine st_skip ha298 rfl rfl rfl rfl ?_
                clear ha298 a298; intro a299 ha299
                refine st_skip ha299 rfl rfl rfl rfl ?_
                clear ha299 a299; intro a300 ha300
                refine st_skipU ha300 rfl rfl rfl rfl ?_
                clear ha300 a300; intro a301 ha301
                refine st_skipU ha301 rfl rfl rfl rfl ?_
                clear ha301 a301; intro a302 ha302
                refine st_skipU ha302 rfl rfl rfl rfl ?_
                clear ha302 a302; intro a303 ha303
                refine st_skipU ha303 rfl rfl rfl rfl ?_
                clear ha303 a303; intro a304 ha304
                refine st_skipU ha304 rfl rfl rfl rfl ?_
                clear ha304 a304; intro a305 ha305
                refine st_skipU ha305 rfl rfl rfl rfl ?_
                clear ha305 a305; intro a306 ha306
                refine st_skipU ha306 rfl rfl rfl rfl ?_
                clear ha306 a306; intro a307 ha307
                refine st_skipU ha307 rfl rfl rfl rfl ?_
                clear ha307 a307; intro a308 ha308
                refine st_skip ha308 rfl rfl rfl rfl ?_
                clear ha308 a308; intro a309 ha309
                refine st_y ha309 rfl (y_pickF ha309 rfl rfl) ?_
                clear ha309 a309; intro a310 ha310
                refine st_y ha310 rfl (y_assign ha310 rfl) ?_
                clear ha310 a310; intro a311 ha311
                refine wpList_nil ?_
                exact hC11 _ _ ⟨_, by first | exact iff_of_false (by simp) (by omega) | exact iff_of_true rfl (by omega) | (rw [decide_eq_true_eq]; omega) | (simp; omega), ha311.only [3, 4, 11, 12, 13, 14, 16], m57.only [9, 10]⟩
            · skip
              clear ha166
              try simp only [decide_eq_true_eq, decide_eq_false_iff_not, Bool.not_eq_true, Bool.not_eq_false, Bool.not_eq_eq_eq_not, Bool.not_true, Bool.not_false, Bool.not_not, Int.not_lt, Int.not_le, ne_eq, Decidable.not_not] at hb167
              refine st_skip ha167 rfl rfl rfl rfl ?_
              clear ha167 a166; intro a312 ha312
              refine st_skip ha312 rfl rfl rfl rfl ?_
              clear ha312 a312; intro a313 ha313
              refine st_skip ha313 rfl rfl rfl rfl ?_
              clear ha313 a313; intro a314 ha314
              refine st_y ha314 rfl (y_pickF ha314 rfl rfl) ?_
              clear ha314 a314; intro a315 ha315
              refine st_y ha315 rfl (y_move ha315 rfl) ?_
              clear ha315 a315; intro a316 ha316
              refine st_skip ha316 rfl rfl rfl rfl ?_
              clear ha316 a316; intro a317 ha317
              refine st_skip ha317 rfl rfl rfl rfl ?_
              clear ha317 a317; intro a318 ha318
              refine st_y ha318 rfl (y_pickF ha318 rfl rfl) ?_
              clear ha318 a318; intro a319 ha319
              refine st_y ha319 rfl (y_move ha319 rfl) ?_
              clear ha319 a319; intro a320 ha320
              refine st_skip ha320 rfl rfl rfl rfl ?_
              clear ha320 a320; intro a321 ha321
              refine st_skip ha321 rfl rfl rfl rfl ?_
              clear ha321 a321; intro a322 ha322
              refine st_y ha322 rfl (y_pickF ha322 rfl rfl) ?_
              clear ha322 a322; intro a323 ha323
              refine st_y ha323 rfl (y_move ha323 rfl) ?_
              clear ha323 a323; intro a324 ha324
              refine st_skip ha324 rfl rfl rfl rfl ?_
              clear ha324 a324; intro a325 ha325
              refine st_skip ha325 rfl rfl rfl rfl ?_
              clear ha325 a325; intro a326 ha326
              refine st_skip ha326 rfl rfl rfl rfl ?_
              clear ha326 a326; intro a327 ha327
              refine st_y ha327 rfl (y_pickF ha327 rfl rfl) ?_
              clear ha327 a327; intro a328 ha328
              refine st_y ha328 rfl (y_move ha328 rfl) ?_
              clear ha328 a328; intro a329 ha329
              refine st_skip ha329 rfl rfl rfl rfl ?_
              clear ha329 a329; intro a330 ha330
              refine st_skip ha330 rfl rfl rfl rfl ?_
              clear ha330 a330; intro a331 ha331
              refine st_skip ha331 rfl rfl rfl rfl ?_
              clear ha331 a331; intro a332 ha332
              refine st_skip ha332 rfl rfl rfl rfl ?_
              clear ha332 a332; intro a333 ha333
              refine st_skipU ha333 rfl rfl rfl rfl ?_
              clear ha333 a333; intro a334 ha334
              refine st_skipU ha334 rfl rfl rfl rfl ?_
              clear ha334 a334; intro a335 ha335
              refine st_skipU ha335 rfl rfl rfl rfl ?_
              clear ha335 a335; intro a336 ha336
              refine st_skipU ha336 rfl rfl rfl rfl ?_
              clear ha336 a336; intro a337 ha337
              refine st_skipU ha337 rfl rfl rfl rfl ?_
              clear ha337 a337; intro a338 ha338
              refine st_skipU ha338 rfl rfl rfl rfl ?_
              clear ha338 a338; intro a339 ha339
              refine st_skipU ha339 rfl rfl rfl rfl ?_
              clear ha339 a339; intro a340 ha340
              refine st_skipU ha340 rfl rfl rfl rfl ?_
              clear ha340 a340; intro a341 ha341
              refine st_skip ha341 rfl rfl rfl rfl ?_
              clear ha341 a341; intro a342 ha342
              refine st_y ha342 rfl (y_pickF ha342 rfl rfl) ?_
              clear ha342 a342; intro a343 ha343
              refine st_y ha343 rfl (y_assign ha343 rfl) ?_
              clear ha343 a343; intro a344 ha344
              refine wpList_nil ?_
              exact hC11 _ _ ⟨_, by first | exact iff_of_false (by simp) (by omega) | exact iff_of_true rfl (by omega) | (rw [decide_eq_true_eq]; omega) | (simp; omega), ha344.only [3, 4, 11, 12, 13, 14, 16], m57.only [9, 10]⟩
          · skip
            clear ha161
            try simp only [decide_eq_true_eq, decide_eq_false_iff_not, Bool.not_eq_true, Bool.not_eq_false, Bool.not_eq_eq_eq_not, Bool.not_true, Bool.not_false, Bool.not_not, Int.not_lt, Int.not_le, ne_eq, Decidable.not_not] at hb162
            refine st_skip ha162 rfl rfl rfl rfl ?_
            clear ha162 a161; intro a345 ha345
            refine st_skip ha345 rfl rfl rfl rfl ?_
            clear ha345 a345; intro a346 ha346
            refine st_y ha346 rfl (y_pickF ha346 rfl rfl) ?_
            clear ha346 a346; intro a347 ha347
            refine st_y ha347 rfl (y_move ha347 rfl) ?_
            clear ha347 a347; intro a348 ha348
            refine st_skip ha348 rfl rfl rfl rfl ?_
            clear ha348 a348; intro a349 ha349
            refine st_skip ha349 rfl rfl rfl rfl ?_
            clear ha349 a349; intro a350 ha350
            refine st_skip ha350 rfl rfl rfl rfl ?_
            clear ha350 a350; intro a351 ha351
            refine st_y ha351 rfl (y_pickF ha351 rfl rfl) ?_
            clear ha351 a351; intro a352 ha352
            refine st_y ha352 rfl (y_move ha352 rfl) ?_
            clear ha352 a352; intro a353 ha353
            refine st_skip ha353 rfl rfl rfl rfl ?_
            clear ha353 a353; intro a354 ha354
            refine st_skip ha354 rfl rfl rfl rfl ?_
            clear ha354 a354; intro a355 ha355
            refine st_y ha355 rfl (y_pickF ha355 rfl rfl) ?_
            clear ha355 a355; intro a356 ha356
            refine st_y ha356 rfl (y_move ha356 rfl) ?_
            clear ha356 a356; intro a357 ha357
            refine st_skip ha357 rfl rfl rfl rfl ?_
            clear ha357 a357; intro a358 ha358
            refine st_skip ha358 rfl rfl rfl rfl ?_
            clear ha358 a358; intro a359 ha359
            refine st_y ha359 rfl (y_pickF ha359 rfl rfl) ?_
            clear ha359 a359; intro a360 ha360
            refine st_y ha360 rfl (y_move ha360 rfl) ?_
            clear ha360 a360; intro a361 ha361
            refine st_skip ha361 rfl rfl rfl rfl ?_
            clear ha361 a361; intro a362 ha362
            refine st_skip ha362 rfl rfl rfl rfl ?_
            clear ha362 a362; intro a363 ha363
            refine st_skip ha363 rfl rfl rfl rfl ?_
            clear ha363 a363; intro a364 ha364
            refine st_y ha364 rfl (y_pickF ha364 rfl rfl) ?_
            clear ha364 a364; intro a365 ha365
            refine st_y ha365 rfl (y_move ha365 rfl) ?_
            clear ha365 a365; intro a366 ha366
            refine st_skip ha366 rfl rfl rfl rfl ?_
            clear ha366 a366; intro a367 ha367
            refine st_skip ha367 rfl rfl rfl rfl ?_
            clear ha367 a367; intro a368 ha368
            refine st_skip ha368 rfl rfl rfl rfl ?_
            clear ha368 a368; intro a369 ha369
            refine st_skip ha369 rfl rfl rfl rfl ?_
            clear ha369 a369; intro a370 ha370
            refine st_skipU ha370 rfl rfl rfl rfl ?_
            clear ha370 a370; intro a371 ha371
            refine st_skipU ha371 rfl rfl rfl rfl ?_
            clear ha371 a371; intro a372 ha372
            refine st_skipU ha372 rfl rfl rfl rfl ?_
            clear ha372 a372; intro a373 ha373
            refine st_skipU ha373 rfl rfl rfl rfl ?_
            clear ha373 a373; intro a374 ha374
            refine st_skipU ha374 rfl rfl rfl rfl ?_
            clear ha374 a374; intro a375 ha375
            refine st_skipU ha375 rfl rfl rfl rfl ?_
            clear ha375 a375; intro a376 ha376
            refine st_skipU ha376 rfl rfl rfl rfl ?_
            clear ha376 a376; intro a377 ha377
            refine st_skipU ha377 rfl rfl rfl rfl ?_
            clear ha377 a377; intro a378 ha378
            refine st_skip ha378 rfl rfl rfl rfl ?_
            clear ha378 a378; intro a379 ha379
            refine st_y ha379 rfl (y_pickF ha379 rfl rfl) ?_
            clear ha379 a379; intro a380 ha380
            refine st_y ha380 rfl (y_assign ha380 rfl) ?_
            clear ha380 a380; intro a381 ha381
            refine wpList_nil ?_
            exact hC11 _ _ ⟨_, by first | exact iff_of_false (by simp) (by omega) | exact iff_of_true rfl (by omega) | (rw [decide_eq_true_eq]; omega) | (simp; omega), ha381.only [3, 4, 11, 12, 13, 14, 16], m57.only [9, 10]⟩
        · skip
          clear ha156
          try simp only [decide_eq_true_eq, decide_eq_false_iff_not, Bool.not_eq_true, Bool.not_eq_false, Bool.not_eq_eq_eq_not, Bool.not_true, Bool.not_false, Bool.not_not, Int.not_lt, Int.not_le, ne_eq, Decidable.not_not] at hb157
          refine st_skip ha157 rfl rfl rfl rfl ?_
          clear ha157 a156; intro a382 ha382
          refine st_skip ha382 rfl rfl rfl rfl ?_
          clear ha382 a382; intro a383 ha383
          refine st_y ha383 rfl (y_pickF ha383 rfl rfl) ?_
          clear ha383 a383; intro a384 ha384
          refine st_y ha384 rfl (y_move ha384 rfl) ?_
          clear ha384 a384; intro a385 ha385
          refine st_skip ha385 rfl rfl rfl rfl ?_
          clear ha385 a385; intro a386 ha386
          refine st_skip ha386 rfl rfl rfl rfl ?_
          clear ha386 a386; intro a387 ha387
          refine st_y ha387 rfl (y_pickF ha387 rfl rfl) ?_
          clear ha387 a387; intro a388 ha388
          refine st_y ha388 rfl (y_move ha388 rfl) ?_
          clear ha388 a388; intro a389 ha389
          refine st_skip ha389 rfl rfl rfl rfl ?_
          clear ha389 a389; intro a390 ha390
          refine st_skip ha390 rfl rfl rfl rfl ?_
          clear ha390 a390; intro a391 ha391
          refine st_skip ha391 rfl rfl rfl rfl ?_
          clear ha391 a391; intro a392 ha392
          refine st_y ha392 rfl (y_pickF ha392 rfl rfl) ?_
          clear ha392 a392; intro a393 ha393
          refine st_y ha393 rfl (y_move ha393 rfl) ?_
          clear ha393 a393; intro a394 ha394
          refine st_skip ha394 rfl rfl rfl rfl ?_
          clear ha394 a394; intro a395 ha395
          refine st_skip ha395 rfl rfl rfl rfl ?_
          clear ha395 a395; intro a396 ha396
          refine st_y ha396 rfl (y_pickF ha396 rfl rfl) ?_
          clear ha396 a396; intro a397 ha397
          refine st_y ha397 rfl (y_move ha397 rfl) ?_
          clear ha397 a397; intro a398 ha398
          refine st_skip ha398 rfl rfl rfl rfl ?_
          clear ha398 a398; intro a399 ha399
          refine st_skip ha399 rfl rfl rfl rfl ?_
          clear ha399 a399; intro a400 ha400
          refine st_y ha400 rfl (y_pickF ha400 rfl rfl) ?_
          clear ha400 a400; intro a401 ha401
          refine st_y ha401 rfl (y_move ha401 rfl) ?_
          clear ha401 a401; intro a402 ha402
          refine st_skip ha402 rfl rfl rfl rfl ?_
          clear ha402 a402; intro a403 ha403
          refine st_skip ha403 rfl rfl rfl rfl ?_
          clear ha403 a403; intro a404 ha404
          refine st_skip ha404 rfl rfl rfl rfl ?_
          clear ha404 a404; intro a405 ha405
          refine st_y ha405 rfl (y_pickF ha405 rfl rfl) ?_
          clear ha405 a405; intro a406 ha406
          refine st_y ha406 rfl (y_move ha406 rfl) ?_
          clear ha406 a406; intro a407 ha407
          refine st_skip ha407 rfl rfl rfl rfl ?_
          clear ha407 a407; intro a408 ha408
          refine st_skip ha408 rfl rfl rfl rfl ?_
          clear ha408 a408; intro a409 ha409
          refine st_skip ha409 rfl rfl rfl rfl ?_
          clear ha409 a409; intro a410 ha410
          refine st_skip ha410 rfl rfl rfl rfl ?_
          clear ha410 a410; intro a411 ha411
          refine st_skipU ha411 rfl rfl rfl rfl ?_
          clear ha411 a411; intro a412 ha412
          refine st_skipU ha412 rfl rfl rfl rfl ?_
          clear ha412 a412; intro a413 ha413
          refine st_skipU ha413 rfl rfl rfl rfl ?_
          clear ha413 a413; intro a414 ha414
          refine st_skipU ha414 rfl rfl rfl rfl ?_
          clear ha414 a414; intro a415 ha415
          refine st_skipU ha415 rfl rfl rfl rfl ?_
          clear ha415 a415; intro a416 ha416
          refine st_skipU ha416 rfl rfl rfl rfl ?_
          clear ha416 a416; intro a417 ha417
          refine st_skipU ha417 rfl rfl rfl rfl ?_
          clear ha417 a417; intro a418 ha418
          refine st_skipU ha418 rfl rfl rfl rfl ?_
          clear ha418 a418; intro a419 ha419
          refine st_skip ha419 rfl rfl rfl rfl ?_
          clear ha419 a419; intro a420 ha420
          refine st_y ha420 rfl (y_pickF ha420 rfl rfl) ?_
          clear ha420 a420; intro a421 ha421
          refine st_y ha421 rfl (y_assign ha421 rfl) ?_
          clear ha421 a421; intro a422 ha422
          refine wpList_nil ?_
          exact hC11 _ _ ⟨_, by first | exact iff_of_false (by simp) (by omega) | exact iff_of_true rfl (by omega) | (rw [decide_eq_true_eq]; omega) | (simp; omega), ha422.only [3, 4, 11, 12, 13, 14, 16], m57.only [9, 10]⟩
      refine wp_seq_k (fun K15 hK15 => ?_)
      have ha423 : Has 152 [(3, _), (4, _), (11, _), (12, _), (13, _), (14, _), (15, _)] a39 := ha40.only [3, 4, 11, 12, 13, 14, 15]; clear ha40
      refine wp_region_lit ?_
      refine st_y ha423 rfl (y_fieldAddr ha423 (off := 5) rfl Try.underlying25 rfl (s := 0) (by kernel_rfl) rfl) ?_
      clear ha423 a39; intro a424 ha424
      refine st_y ha424 rfl (y_loadB1 ha424 m33 (i := 9) rfl rfl rfl Try.underlying22 rfl) ?_
      clear ha424 a424; intro a425 ha425
      refine st_y ha425 rfl (y_len ha425 rfl Try.underlying22) ?_
      clear ha425 a425; intro a426 ha426
      refine st_y ha426 rfl (y_gtr ha426 rfl rfl) ?_
      clear ha426 a426; intro a427 ha427
      refine st_y ha427 rfl (y_move ha427 rfl) ?_
      clear ha427 a427; intro a428 ha428
      refine bool_cases ha428 (t := 58) rfl (fun hb429 ha429 => ?_) (fun hb429 ha429 => ?_)
      · skip
        clear ha428
        try simp only [decide_eq_true_eq, decide_eq_false_iff_not, Bool.not_eq_true, Bool.not_eq_false, Bool.not_eq_eq_eq_not, Bool.not_true, Bool.not_false, Bool.not_not, Int.not_lt, Int.not_le, ne_eq, Decidable.not_not] at hb429
        have hi1 : 1 ≤ i := by rw [hpl] at hb429; omega
        refine st_g ha429 rfl rfl rfl rfl (y_move ha429 rfl) ?_
        clear ha429 a428; intro a430 ha430
        refine st_g ha430 rfl rfl rfl rfl (y_rem ha430 rfl rfl (by decide) (r := g3) hg3) ?_
        clear ha430 a430; intro a431 ha431
        refine st_g ha431 rfl rfl rfl rfl (y_eql ha431 rfl rfl) ?_
        clear ha431 a431; intro a432 ha432
        refine st_y ha432 rfl (y_pickT ha432 rfl rfl) ?_
        clear ha432 a432; intro a433 ha433
        refine wpList_nil ?_
        refine hK15 _ _ ?_; clear hK15; try clear K15
        refine bool_cases ha433 (t := 62) rfl (fun hb434 ha434 => ?_) (fun hb434 ha434 => ?_)
        · skip
          clear ha433
          try simp only [decide_eq_true_eq, decide_eq_false_iff_not, Bool.not_eq_true, Bool.not_eq_false, Bool.not_eq_eq_eq_not, Bool.not_true, Bool.not_false, Bool.not_not, Int.not_lt, Int.not_le, ne_eq, Decidable.not_not] at hb434
          refine wp_cond_true (ha434.ev (x := .tmp 62) rfl) ?_
          have ha435 : Has 152 [(3, _), (4, _), (11, _), (12, _), (13, _), (14, _), (15, _)] a433 := ha434.only [3, 4, 11, 12, 13, 14, 15]; clear ha434
          refine wp_region_lit ?_
          refine st_y ha435 rfl (y_fieldAddr ha435 (off := 5) rfl Try.underlying25 rfl (s := 0) (by kernel_rfl) rfl) ?_
          clear ha435 a433; intro a436 ha436
          refine st_y ha436 rfl (y_loadB1 ha436 m33 (i := 9) rfl rfl rfl Try.underlying22 rfl) ?_
          clear ha436 a436; intro a437 ha437
          refine st_y ha437 rfl (y_fieldAddr ha437 (off := 5) rfl Try.underlying25 rfl (s := 0) (by kernel_rfl) rfl) ?_
          clear ha437 a437; intro a438 ha438
          refine st_y ha438 rfl (y_loadB1 ha438 m33 (i := 9) rfl rfl rfl Try.underlying22 rfl) ?_
          clear ha438 a438; intro a439 ha439
          refine st_y ha439 rfl (y_len ha439 rfl Try.underlying22) ?_
          clear ha439 a439; intro a440 ha440
          refine st_y ha440 rfl (y_sub ha440 rfl rfl (r := (i : Int) - 1) (by rw [hpl]; exact IntWalk.i64_in _ (by omega))) ?_
          clear ha440 a440; intro a441 ha441
          refine st_y ha441 rfl (y_move ha441 rfl) ?_
          clear ha441 a441; intro a442 ha442
          refine st_y ha442 rfl (y_rem ha442 rfl rfl (by decide) (r := g10) hg10) ?_
          clear ha442 a442; intro a443 ha443
          refine st_y ha443 rfl (y_conv ha443 rfl Try.underlying5 Try.underlying3 (r := g10) (IntWalk.i64_in _ (by omega))) ?_
          clear ha443 a443; intro a444 ha444
          refine st_y ha444 rfl (y_sub ha444 rfl rfl (r := g10 - 1) (IntWalk.i64_in _ (by omega))) ?_
          clear ha444 a444; intro a445 ha445
          obtain ⟨g446, hpg446⟩ := m33.openO (i := 10) rfl (Nat.lt_of_le_of_lt (Nat.zero_le _) (show i - 1 < (plL i).length by rw [hpl]; omega))
          cases hpg446
          refine st_y ha445 rfl (y_idxO ha445 rfl rfl Try.underlying22 sz3vo (i - 1) (by omega) (show i - 1 < (plL i).length by rw [hpl]; omega)) ?_
          clear ha445 a445; intro a447 ha447
          refine wpList_plain rfl (fun K hK => ?_)
          refine e_storeO ha447 m33 10 rfl rfl rfl rfl (show i - 1 < (plL i).length by rw [hpl]; omega) sz3vo ?_
          clear m33; intro w448 m448 
          refine hK _ _ ?_; clear hK K
          refine wpList_nil ?_
          rw [show (plL i).length = ((plL i).set (i - 1) (g10 - 1)).length from by simp] at m448
          exact hC10 _ _ ⟨((plL i).set (i - 1) (g10 - 1)), _, _, _, by simp [hpl]; omega, by rw [plset_ok (by omega)]; simp [hpl]; omega, ha447.only [3, 4, 11, 12, 13, 14], m448.only [9, 10]⟩
        · skip
          clear ha433
          try simp only [decide_eq_true_eq, decide_eq_false_iff_not, Bool.not_eq_true, Bool.not_eq_false, Bool.not_eq_eq_eq_not, Bool.not_true, Bool.not_false, Bool.not_not, Int.not_lt, Int.not_le, ne_eq, Decidable.not_not] at hb434
          refine wp_cond_false (ha434.ev (x := .tmp 62) rfl) ?_
          refine wp_skip ?_
          exact hC10 _ _ ⟨plL i, _, _, _, by rw [hpl]; omega, by refine iff_of_true (pl_ok i) ?_; rw [hpl] at *; omega, ha434.only [3, 4, 11, 12, 13, 14], m33.only [9, 10]⟩
      · skip
        clear ha428
        try simp only [decide_eq_true_eq, decide_eq_false_iff_not, Bool.not_eq_true, Bool.not_eq_false, Bool.not_eq_eq_eq_not, Bool.not_true, Bool.not_false, Bool.not_not, Int.not_lt, Int.not_le, ne_eq, Decidable.not_not] at hb429
        have hi0 : i = 0 := by rw [hpl] at hb429; omega
        refine st_skip ha429 rfl rfl rfl rfl ?_
        clear ha429 a428; intro a449 ha449
        refine st_skip ha449 rfl rfl rfl rfl ?_
        clear ha449 a449; intro a450 ha450
        refine st_skip ha450 rfl rfl rfl rfl ?_
        clear ha450 a450; intro a451 ha451
        refine st_y ha451 rfl (y_pickF ha451 rfl rfl) ?_
        clear ha451 a451; intro a452 ha452
        refine wpList_nil ?_
        refine hK15 _ _ ?_; clear hK15; try clear K15
        refine wp_cond_false (ha452.ev (x := .tmp 62) rfl) ?_
        refine wp_skip ?_
        exact hC10 _ _ ⟨plL i, _, _, _, by rw [hpl]; omega, by refine iff_of_true (pl_ok i) ?_; rw [hpl] at *; omega, ha452.only [3, 4, 11, 12, 13, 14], m33.only [9, 10]⟩
end Go.Proofs.Ytocfbocdnklllaa.K
