/- volume: the reference's items, Len, Low, own, write. -/
import Derived.Test.YtocfbocdnklllaaVol14
namespace Go.Proofs.Ytocfbocdnklllaa.K
open Go.ChangeShapes Go.WideShapes Go.ChangeAt Go.RowKit
set_option linter.unusedVariables false
set_option linter.unusedSimpArgs false

theorem sz67ri : (Try.prog.info? 67).map (·.size) = some 2 := by kernel_rfl

theorem sz2rw : (Try.prog.info? 2).map (·.size) = some 1 := by kernel_rfl
theorem sz34rw : (Try.prog.info? 34).map (·.size) = some 11 := by kernel_rfl
theorem fl67ro : flatS Try.prog 67 [.int .i64 0, .slice none 0 0] = true := by kernel_rfl
theorem inf5ro : (Try.prog.info? 5).map (fun i => (i.zero, i.size, i.bytes)) = some (some (.int .u8 0), 1, 1) := by kernel_rfl
theorem inf67ro : (Try.prog.info? 67).map (fun i => (i.zero, i.size, i.bytes)) = some (some (.agg #[.int .i64 0, .slice none 0 0]), 2, 32) := by kernel_rfl
theorem sz67ro : (Try.prog.info? 67).map (·.size) = some 2 := by kernel_rfl
theorem zc67ro : ((Try.prog.info? 67).bind (·.zero)).map (·.cells.toList) = some [.int .i64 0, .slice none 0 0] := by kernel_rfl
theorem fl55rr : flatS Try.prog 55 [.int .i64 0, .slice none 0 0] = true := by kernel_rfl
theorem inf55rr : (Try.prog.info? 55).map (fun i => (i.zero, i.size, i.bytes)) = some (some (.agg #[.int .i64 0, .slice none 0 0]), 2, 32) := by kernel_rfl
theorem sz32rr : (Try.prog.info? 32).map (·.size) = some 1 := by kernel_rfl
theorem sz34rr : (Try.prog.info? 34).map (·.size) = some 11 := by kernel_rfl
theorem zc34rr : ((Try.prog.info? 34).bind (·.zero)).map (·.cells.toList) = some [.int .i64 0, .int .i64 0, .int .i64 0, .int .i64 0, .slice none 0 0, .int .i64 0, .int .i64 0, .bool false, .int .i64 0, .slice none 0 0, .slice none 0 0] := by kernel_rfl
theorem zc55rr : ((Try.prog.info? 55).bind (·.zero)).map (·.cells.toList) = some [.int .i64 0, .slice none 0 0] := by kernel_rfl

theorem notin_take {l : List (Int × List Int)} {k : Nat} {xb : Int} (h : ∀ i, i < k → (l.getD i i0).1 ≠ xb) (hk : k ≤ l.length) : ¬ ∃ e ∈ l.take k, e.1 = xb := fun ⟨e, h1, h2⟩ => by
 obtain ⟨j, hj, rfl⟩ := List.getElem_of_mem h1
 have hj2 : j < k := by rw [List.length_take] at hj; omega
 have h3 := h j hj2
 rw [List.getD, List.getElem?_eq_getElem (by omega)] at h3
 rw [List.getElem_take] at h2
 exact h3 h2
set_option maxRecDepth 100000
set_option maxHeartbeats 4000000
theorem ritems_any (bl sz : Int) (l : List (Int × List Int)) (p : Option Addr) (nn c : Nat) (w0 : World) (h0 : Rd (fun _ => True) w0 (.slice p nn c) (.l 2 (l.map itD))) (hl : l.length ≤ 1000000) :
   Calls Try.prog 29 #[.int .i64 bl, .int .i64 sz, .slice p nn c] w0 fun e w' => ∃ b : Bool, e = .returned (.bool b) ∧ (b = true ↔ ItemsR bl sz l) ∧ Below w0.heap.size w0 w' := by
 obtain rfl : nn = l.length := by obtain ⟨pq, cq, hv, _⟩ := h0.l_shape; injection hv with _ e2 _; rw [List.length_map] at e2; exact e2
 refine enter (fn := Try.f29) Try.func29 rfl Try.ntmps29 rfl (fun a0 ha0 => ?_)
 simp only [List.zipIdx_cons, List.zipIdx_nil, List.map_cons, List.map_nil, Nat.reduceAdd, Nat.zero_add] at ha0
 have m0 := MemOk.start (fun _ => False) w0
 refine wp_seq_k (fun K0 hK0 => ?_)
 refine wp_region_lit ?_
 refine st_y ha0 rfl (y_assign ha0 rfl) ?_
 clear ha0 a0; intro a1 ha1
 refine wpList_nil ?_
 refine hK0 _ _ ?_; clear hK0; try clear K0
 refine wp_seq_k (fun K1 hK1 => ?_)
 refine wp_seq_k (fun K2 hK2 => ?_)
 refine wp_region_lit ?_
 refine st_y ha1 rfl (y_move ha1 rfl) ?_
 clear ha1 a1; intro a2 ha2
 refine st_y ha2 rfl (y_len ha2 rfl Try.underlying23) ?_
 clear ha2 a2; intro a3 ha3
 refine st_y ha3 rfl (y_lss ha3 rfl rfl) ?_
 clear ha3 a3; intro a4 ha4
 refine st_y ha4 rfl (y_move ha4 rfl) ?_
 clear ha4 a4; intro a5 ha5
 refine bool_cases ha5 (t := 12) rfl (fun hb6 ha6 => ?_) (fun hb6 ha6 => ?_)
 ·
  clear ha5
  try simp only [Q1x, Q2x, Q3x, Q4x, Q5x, Q6x, Q7x, Q8x, Q9x, Q0x, Qax, Qbx] at hb6
  refine st_skip ha6 rfl rfl rfl rfl ?_
  clear ha6 a5; intro a7 ha7
  refine st_skip ha7 rfl rfl rfl rfl ?_
  clear ha7 a7; intro a8 ha8
  refine st_skip ha8 rfl rfl rfl rfl ?_
  clear ha8 a8; intro a9 ha9
  refine st_y ha9 rfl (y_pickT ha9 rfl rfl) ?_
  clear ha9 a9; intro a10 ha10
  refine wpList_nil ?_
  refine hK2 _ _ ?_; clear hK2; try clear K2
  refine wp_cond_true (ha10.ev (x := .tmp 16) rfl) ?_
  refine wp_seq_k (fun K3 hK3 => ?_)
  have ha11 : Has 64 [(0, _), (1, _), (2, _), (6, _), (12, _), (16, _)] a10 := ha10.only [0, 1, 2, 6, 12, 16]; clear ha10
  refine wp_region_lit ?_
  refine st_y ha11 rfl (y_assign ha11 rfl) ?_
  clear ha11 a10; intro a12 ha12
  refine wpList_nil ?_
  refine hK3 _ _ ?_; clear hK3; try clear K3
  refine wp_ret ?_
  try dsimp only [Exit.then, Exit.inBlock]
  refine (ret1 (fn := Try.f29) ha12 rfl rfl ?_)
  exact ⟨false, rfl, iff_of_false (by simp) (fun h => by have h8 := h.1; have h9 := h.2.1; omega), m0.below⟩
 ·
  clear ha5
  try simp only [Q1x, Q2x, Q3x, Q4x, Q5x, Q6x, Q7x, Q8x, Q9x, Q0x, Qax, Qbx] at hb6
  refine st_g ha6 rfl rfl rfl rfl (y_move ha6 rfl) ?_
  clear ha6 a5; intro a13 ha13
  refine st_g ha13 rfl rfl rfl rfl (y_len ha13 rfl Try.underlying23) ?_
  clear ha13 a13; intro a14 ha14
  refine st_g ha14 rfl rfl rfl rfl (y_gtr ha14 rfl rfl) ?_
  clear ha14 a14; intro a15 ha15
  refine st_y ha15 rfl (y_pickF ha15 rfl rfl) ?_
  clear ha15 a15; intro a16 ha16
  refine wpList_nil ?_
  refine hK2 _ _ ?_; clear hK2; try clear K2
  refine bool_cases ha16 (t := 16) rfl (fun hb17 ha17 => ?_) (fun hb17 ha17 => ?_)
  ·
   clear ha16
   try simp only [Q1x, Q2x, Q3x, Q4x, Q5x, Q6x, Q7x, Q8x, Q9x, Q0x, Qax, Qbx] at hb17
   refine wp_cond_true (ha17.ev (x := .tmp 16) rfl) ?_
   refine wp_seq_k (fun K4 hK4 => ?_)
   have ha18 : Has 64 [(0, _), (1, _), (2, _), (6, _), (12, _), (16, _)] a16 := ha17.only [0, 1, 2, 6, 12, 16]; clear ha17
   refine wp_region_lit ?_
   refine st_y ha18 rfl (y_assign ha18 rfl) ?_
   clear ha18 a16; intro a19 ha19
   refine wpList_nil ?_
   refine hK4 _ _ ?_; clear hK4; try clear K4
   refine wp_ret ?_
   try dsimp only [Exit.then, Exit.inBlock]
   refine (ret1 (fn := Try.f29) ha19 rfl rfl ?_)
   exact ⟨false, rfl, iff_of_false (by simp) (fun h => by have h8 := h.1; have h9 := h.2.1; omega), m0.below⟩
  ·
   clear ha16
   try simp only [Q1x, Q2x, Q3x, Q4x, Q5x, Q6x, Q7x, Q8x, Q9x, Q0x, Qax, Qbx] at hb17
   refine wp_cond_false (ha17.ev (x := .tmp 16) rfl) ?_
   refine wp_skip ?_
   refine hK1 _ _ ?_; clear hK1; try clear K1
   refine wp_seq_k (fun K5 hK5 => ?_)
   refine wp_seq_k (fun K6 hK6 => ?_)
   have ha20 : Has 64 [(0, _), (1, _), (2, _), (6, _), (12, _), (16, _)] a16 := ha17.only [0, 1, 2, 6, 12, 16]; clear ha17
   refine wp_region_lit ?_
   refine st_y ha20 rfl (y_assign ha20 rfl) ?_
   clear ha20 a16; intro a21 ha21
   refine wpList_nil ?_
   refine hK6 _ _ ?_; clear hK6; try clear K6
   refine wp_block ?_
   refine wp_loop_ghost (fun g a w => ∃ k : Nat, k ≤ l.length ∧ g = l.length - k ∧ ItPre bl sz l k ∧ Has 64 [(0, .int .i64 bl), (1, .int .i64 sz), (2, .slice p l.length c), (7, .int .i64 k)] a ∧ MemOk (cn w0) w0 [] w) (l.length) ?_ ?_
   · exact ⟨0, Nat.zero_le _, rfl, (fun j hj => by omega), ha21.only [0, 1, 2, 7], m0.only []⟩
   ·
    clear ha21 m0
    rintro g a22 w22 ⟨k, hkl, hg, hall, ha22, m22⟩
    refine wp_seq_k (fun K7 hK7 => ?_)
    refine wp_seq_k (fun K8 hK8 => ?_)
    refine wp_region_lit ?_
    refine st_y ha22 rfl (y_move ha22 rfl) ?_
    clear ha22 a22; intro a23 ha23
    refine st_y ha23 rfl (y_move ha23 rfl) ?_
    clear ha23 a23; intro a24 ha24
    refine st_y ha24 rfl (y_len ha24 rfl Try.underlying23) ?_
    clear ha24 a24; intro a25 ha25
    refine st_y ha25 rfl (y_lss ha25 rfl rfl) ?_
    clear ha25 a25; intro a26 ha26
    refine wpList_nil ?_
    refine hK8 _ _ ?_; clear hK8; try clear K8
    refine bool_cases ha26 (t := 20) rfl (fun hb27 ha27 => ?_) (fun hb27 ha27 => ?_)
    ·
     clear ha26
     try simp only [Q1x, Q2x, Q3x, Q4x, Q5x, Q6x, Q7x, Q8x, Q9x, Q0x, Qax, Qbx] at hb27
     have hk : k < l.length := by omega
     obtain ⟨⟨xb, xd⟩, hes⟩ : ∃ e, l[k]? = some e := ⟨_, List.getElem?_eq_getElem hk⟩
     refine wp_cond_true (ha27.ev (x := .tmp 20) rfl) ?_
     refine wp_skip ?_
     refine hK7 _ _ ?_; clear hK7; try clear K7
     refine wp_seq_k (fun K9 hK9 => ?_)
     refine wp_block ?_
     refine wp_seq_k (fun K10 hK10 => ?_)
     refine wp_seq_k (fun K11 hK11 => ?_)
     refine wp_region_lit ?_
     refine st_y ha27 rfl (y_move ha27 rfl) ?_
     clear ha27 a26; intro a28 ha28
     refine st_y ha28 rfl (y_move ha28 rfl) ?_
     clear ha28 a28; intro a29 ha29
     obtain ⟨gx30, ox30, vx30, hp30, hl30, hR30, hrg30⟩ := h0.extA (k) (r := [.v (.int .i64 xb), .ns .u8 xd]) (itD_get hes)
     cases hp30; clear hl30
     rcases hR30 with _ | ⟨hd30_0, _ | ⟨hd30_1, _ | _⟩⟩
     obtain rfl := hd30_0.v_out
     clear hd30_0
     obtain ⟨p31, c31, hv31, hw31⟩ := hd30_1.ns_shape; subst hv31
     refine st_y ha29 rfl (y_idx ha29 rfl rfl Try.underlying23 sz67ri (k) rfl hk) ?_
     clear ha29 a29; intro a32 ha32
     refine st_y ha32 rfl (y_fieldAddrQ ha32 0 rfl Try.underlying67 rfl (s := 0) (by kernel_rfl) rfl) ?_
     clear ha32 a32; intro a33 ha33
     refine st_y ha33 rfl (y_loadAt1 ha33 (hrg30 m22 rfl) (q := 0) rfl rfl rfl Try.underlying3 rfl) ?_
     clear ha33 a33; intro a34 ha34
     refine st_y ha34 rfl (y_lss ha34 rfl rfl) ?_
     clear ha34 a34; intro a35 ha35
     refine st_y ha35 rfl (y_move ha35 rfl) ?_
     clear ha35 a35; intro a36 ha36
     refine bool_cases ha36 (t := 29) rfl (fun hb37 ha37 => ?_) (fun hb37 ha37 => ?_)
     ·
      clear ha36
      try simp only [Q1x, Q2x, Q3x, Q4x, Q5x, Q6x, Q7x, Q8x, Q9x, Q0x, Qax, Qbx] at hb37
      refine st_skip ha37 rfl rfl rfl rfl ?_
      clear ha37 a36; intro a38 ha38
      refine st_skip ha38 rfl rfl rfl rfl ?_
      clear ha38 a38; intro a39 ha39
      refine st_skip ha39 rfl rfl rfl rfl ?_
      clear ha39 a39; intro a40 ha40
      refine st_skip ha40 rfl rfl rfl rfl ?_
      clear ha40 a40; intro a41 ha41
      refine st_skip ha41 rfl rfl rfl rfl ?_
      clear ha41 a41; intro a42 ha42
      refine st_skip ha42 rfl rfl rfl rfl ?_
      clear ha42 a42; intro a43 ha43
      refine st_skip ha43 rfl rfl rfl rfl ?_
      clear ha43 a43; intro a44 ha44
      refine st_y ha44 rfl (y_pickT ha44 rfl rfl) ?_
      clear ha44 a44; intro a45 ha45
      refine st_y ha45 rfl (y_move ha45 rfl) ?_
      clear ha45 a45; intro a46 ha46
      refine st_skip ha46 rfl rfl rfl rfl ?_
      clear ha46 a46; intro a47 ha47
      refine st_skip ha47 rfl rfl rfl rfl ?_
      clear ha47 a47; intro a48 ha48
      refine st_skip ha48 rfl rfl rfl rfl ?_
      clear ha48 a48; intro a49 ha49
      refine st_skip ha49 rfl rfl rfl rfl ?_
      clear ha49 a49; intro a50 ha50
      refine st_skip ha50 rfl rfl rfl rfl ?_
      clear ha50 a50; intro a51 ha51
      refine st_skip ha51 rfl rfl rfl rfl ?_
      clear ha51 a51; intro a52 ha52
      refine st_skip ha52 rfl rfl rfl rfl ?_
      clear ha52 a52; intro a53 ha53
      refine st_skip ha53 rfl rfl rfl rfl ?_
      clear ha53 a53; intro a54 ha54
      refine st_y ha54 rfl (y_pickT ha54 rfl rfl) ?_
      clear ha54 a54; intro a55 ha55
      refine wpList_nil ?_
      refine hK11 _ _ ?_; clear hK11; try clear K11
      refine wp_cond_true (ha55.ev (x := .tmp 47) rfl) ?_
      refine wp_seq_k (fun K12 hK12 => ?_)
      have ha56 : Has 64 [(0, _), (1, _), (2, _), (7, _), (20, _), (29, _), (38, _), (47, _)] a55 := ha55.only [0, 1, 2, 7, 20, 29, 38, 47]; clear ha55
      refine wp_region_lit ?_
      refine st_y ha56 rfl (y_assign ha56 rfl) ?_
      clear ha56 a55; intro a57 ha57
      refine wpList_nil ?_
      refine hK12 _ _ ?_; clear hK12; try clear K12
      refine wp_ret ?_
      try dsimp only [Exit.then, Exit.inBlock]
      refine (ret1 (fn := Try.f29) ha57 rfl rfl ?_)
      exact ⟨false, rfl, iff_of_false (by simp) (fun h => by have h9 := h.2.2 k hk; rw [getI hes] at h9; dsimp only at h9; omega), m22.below⟩
     ·
      clear ha36
      try simp only [Q1x, Q2x, Q3x, Q4x, Q5x, Q6x, Q7x, Q8x, Q9x, Q0x, Qax, Qbx] at hb37
      refine st_g ha37 rfl rfl rfl rfl (y_move ha37 rfl) ?_
      clear ha37 a36; intro a58 ha58
      refine st_g ha58 rfl rfl rfl rfl (y_move ha58 rfl) ?_
      clear ha58 a58; intro a59 ha59
      obtain ⟨gx60, ox60, vx60, hp60, hl60, hR60, hrg60⟩ := h0.extA (k) (r := [.v (.int .i64 xb), .ns .u8 xd]) (itD_get hes)
      cases hp60; clear hl60
      rcases hR60 with _ | ⟨hd60_0, _ | ⟨hd60_1, _ | _⟩⟩
      obtain rfl := hd60_0.v_out
      clear hd60_0
      obtain ⟨p61, c61, hv61, hw61⟩ := hd60_1.ns_shape; subst hv61
      refine st_g ha59 rfl rfl rfl rfl (y_idx ha59 rfl rfl Try.underlying23 sz67ri (k) rfl hk) ?_
      clear ha59 a59; intro a62 ha62
      refine st_g ha62 rfl rfl rfl rfl (y_fieldAddrQ ha62 0 rfl Try.underlying67 rfl (s := 0) (by kernel_rfl) rfl) ?_
      clear ha62 a62; intro a63 ha63
      refine st_g ha63 rfl rfl rfl rfl (y_loadAt1 ha63 (hrg60 m22 rfl) (q := 0) rfl rfl rfl Try.underlying3 rfl) ?_
      clear ha63 a63; intro a64 ha64
      refine st_g ha64 rfl rfl rfl rfl (y_move ha64 rfl) ?_
      clear ha64 a64; intro a65 ha65
      refine st_g ha65 rfl rfl rfl rfl (y_geq ha65 rfl rfl) ?_
      clear ha65 a65; intro a66 ha66
      refine st_y ha66 rfl (y_pickF ha66 rfl rfl) ?_
      clear ha66 a66; intro a67 ha67
      refine st_y ha67 rfl (y_move ha67 rfl) ?_
      clear ha67 a67; intro a68 ha68
      refine bool_cases ha68 (t := 38) rfl (fun hb69 ha69 => ?_) (fun hb69 ha69 => ?_)
      ·
       clear ha68
       try simp only [Q1x, Q2x, Q3x, Q4x, Q5x, Q6x, Q7x, Q8x, Q9x, Q0x, Qax, Qbx] at hb69
       refine st_skip ha69 rfl rfl rfl rfl ?_
       clear ha69 a68; intro a70 ha70
       refine st_skip ha70 rfl rfl rfl rfl ?_
       clear ha70 a70; intro a71 ha71
       refine st_skip ha71 rfl rfl rfl rfl ?_
       clear ha71 a71; intro a72 ha72
       refine st_skip ha72 rfl rfl rfl rfl ?_
       clear ha72 a72; intro a73 ha73
       refine st_skip ha73 rfl rfl rfl rfl ?_
       clear ha73 a73; intro a74 ha74
       refine st_skip ha74 rfl rfl rfl rfl ?_
       clear ha74 a74; intro a75 ha75
       refine st_skip ha75 rfl rfl rfl rfl ?_
       clear ha75 a75; intro a76 ha76
       refine st_skip ha76 rfl rfl rfl rfl ?_
       clear ha76 a76; intro a77 ha77
       refine st_y ha77 rfl (y_pickT ha77 rfl rfl) ?_
       clear ha77 a77; intro a78 ha78
       refine wpList_nil ?_
       refine hK11 _ _ ?_; clear hK11; try clear K11
       refine wp_cond_true (ha78.ev (x := .tmp 47) rfl) ?_
       refine wp_seq_k (fun K13 hK13 => ?_)
       have ha79 : Has 64 [(0, _), (1, _), (2, _), (7, _), (20, _), (29, _), (38, _), (47, _)] a78 := ha78.only [0, 1, 2, 7, 20, 29, 38, 47]; clear ha78
       refine wp_region_lit ?_
       refine st_y ha79 rfl (y_assign ha79 rfl) ?_
       clear ha79 a78; intro a80 ha80
       refine wpList_nil ?_
       refine hK13 _ _ ?_; clear hK13; try clear K13
       refine wp_ret ?_
       try dsimp only [Exit.then, Exit.inBlock]
       refine (ret1 (fn := Try.f29) ha80 rfl rfl ?_)
       exact ⟨false, rfl, iff_of_false (by simp) (fun h => by have h9 := h.2.2 k hk; rw [getI hes] at h9; dsimp only at h9; omega), m22.below⟩
      ·
       clear ha68
       try simp only [Q1x, Q2x, Q3x, Q4x, Q5x, Q6x, Q7x, Q8x, Q9x, Q0x, Qax, Qbx] at hb69
       refine st_g ha69 rfl rfl rfl rfl (y_move ha69 rfl) ?_
       clear ha69 a68; intro a81 ha81
       refine st_g ha81 rfl rfl rfl rfl (y_move ha81 rfl) ?_
       clear ha81 a81; intro a82 ha82
       obtain ⟨gx83, ox83, vx83, hp83, hl83, hR83, hrg83⟩ := h0.extA (k) (r := [.v (.int .i64 xb), .ns .u8 xd]) (itD_get hes)
       cases hp83; clear hl83
       rcases hR83 with _ | ⟨hd83_0, _ | ⟨hd83_1, _ | _⟩⟩
       obtain rfl := hd83_0.v_out
       clear hd83_0
       obtain ⟨p84, c84, hv84, hw84⟩ := hd83_1.ns_shape; subst hv84
       refine st_g ha82 rfl rfl rfl rfl (y_idx ha82 rfl rfl Try.underlying23 sz67ri (k) rfl hk) ?_
       clear ha82 a82; intro a85 ha85
       refine st_g ha85 rfl rfl rfl rfl (y_fieldAddrQ ha85 1 rfl Try.underlying67 rfl (s := 0) (by kernel_rfl) rfl) ?_
       clear ha85 a85; intro a86 ha86
       refine st_g ha86 rfl rfl rfl rfl (y_loadAt1 ha86 (hrg83 m22 rfl) (q := 1) rfl rfl rfl Try.underlying43 rfl) ?_
       clear ha86 a86; intro a87 ha87
       refine st_g ha87 rfl rfl rfl rfl (y_len ha87 rfl Try.underlying43) ?_
       clear ha87 a87; intro a88 ha88
       refine st_g ha88 rfl rfl rfl rfl (y_move ha88 rfl) ?_
       clear ha88 a88; intro a89 ha89
       refine st_g ha89 rfl rfl rfl rfl (y_neq ha89 rfl rfl) ?_
       clear ha89 a89; intro a90 ha90
       refine st_y ha90 rfl (y_pickF ha90 rfl rfl) ?_
       clear ha90 a90; intro a91 ha91
       refine wpList_nil ?_
       refine hK11 _ _ ?_; clear hK11; try clear K11
       refine bool_cases ha91 (t := 47) rfl (fun hb92 ha92 => ?_) (fun hb92 ha92 => ?_)
       ·
        clear ha91
        try simp only [Q1x, Q2x, Q3x, Q4x, Q5x, Q6x, Q7x, Q8x, Q9x, Q0x, Qax, Qbx] at hb92
        refine wp_cond_true (ha92.ev (x := .tmp 47) rfl) ?_
        refine wp_seq_k (fun K14 hK14 => ?_)
        have ha93 : Has 64 [(0, _), (1, _), (2, _), (7, _), (20, _), (29, _), (38, _), (47, _)] a91 := ha92.only [0, 1, 2, 7, 20, 29, 38, 47]; clear ha92
        refine wp_region_lit ?_
        refine st_y ha93 rfl (y_assign ha93 rfl) ?_
        clear ha93 a91; intro a94 ha94
        refine wpList_nil ?_
        refine hK14 _ _ ?_; clear hK14; try clear K14
        refine wp_ret ?_
        try dsimp only [Exit.then, Exit.inBlock]
        refine (ret1 (fn := Try.f29) ha94 rfl rfl ?_)
        exact ⟨false, rfl, iff_of_false (by simp) (fun h => by have h9 := h.2.2 k hk; rw [getI hes] at h9; dsimp only at h9; omega), m22.below⟩
       ·
        clear ha91
        try simp only [Q1x, Q2x, Q3x, Q4x, Q5x, Q6x, Q7x, Q8x, Q9x, Q0x, Qax, Qbx] at hb92
        refine wp_cond_false (ha92.ev (x := .tmp 47) rfl) ?_
        refine wp_skip ?_
        refine hK10 _ _ ?_; clear hK10; try clear K10
        refine wp_seq_k (fun K15 hK15 => ?_)
        have ha95 : Has 64 [(0, _), (1, _), (2, _), (7, _), (20, _), (29, _), (38, _), (47, _)] a91 := ha92.only [0, 1, 2, 7, 20, 29, 38, 47]; clear ha92
        refine wp_region_lit ?_
        refine st_y ha95 rfl (y_assign ha95 rfl) ?_
        clear ha95 a91; intro a96 ha96
        refine wpList_nil ?_
        refine hK15 _ _ ?_; clear hK15; try clear K15
        refine wp_block ?_
        refine wp_loop_ghost (fun g a w => ∃ j : Nat, j ≤ k ∧ g = k - j ∧ (∀ i, i < j → (l.getD i i0).1 ≠ xb) ∧ Has 64 [(0, .int .i64 bl), (1, .int .i64 sz), (2, .slice (some ⟨gx30, ox30, none⟩) l.length c), (7, .int .i64 k), (8, .int .i64 j)] a ∧ MemOk (cn w0) w0 [] w) (k) ?_ ?_
        · exact ⟨0, Nat.zero_le _, rfl, (fun i hi => by omega), ha96.only [0, 1, 2, 7, 8], m22.only []⟩
        ·
         clear ha96 m22
         rintro g a97 w97 ⟨j, hjk, hg2, hall2, ha97, m97⟩
         refine wp_seq_k (fun K16 hK16 => ?_)
         refine wp_seq_k (fun K17 hK17 => ?_)
         refine wp_region_lit ?_
         refine st_y ha97 rfl (y_move ha97 rfl) ?_
         clear ha97 a97; intro a98 ha98
         refine st_y ha98 rfl (y_move ha98 rfl) ?_
         clear ha98 a98; intro a99 ha99
         refine st_y ha99 rfl (y_lss ha99 rfl rfl) ?_
         clear ha99 a99; intro a100 ha100
         refine wpList_nil ?_
         refine hK17 _ _ ?_; clear hK17; try clear K17
         refine bool_cases ha100 (t := 50) rfl (fun hb101 ha101 => ?_) (fun hb101 ha101 => ?_)
         ·
          clear ha100
          try simp only [Q1x, Q2x, Q3x, Q4x, Q5x, Q6x, Q7x, Q8x, Q9x, Q0x, Qax, Qbx] at hb101
          have hj : j < k := by omega
          obtain ⟨⟨yb, yd⟩, hej⟩ : ∃ e, l[j]? = some e := ⟨_, List.getElem?_eq_getElem (by omega)⟩
          refine wp_cond_true (ha101.ev (x := .tmp 50) rfl) ?_
          refine wp_skip ?_
          refine hK16 _ _ ?_; clear hK16; try clear K16
          refine wp_seq_k (fun K18 hK18 => ?_)
          refine wp_block ?_
          refine wp_seq_k (fun K19 hK19 => ?_)
          obtain ⟨gx103, ox103, vx103, hp103, hl103, hR103, hrg103⟩ := h0.extA (j) (r := [.v (.int .i64 yb), .ns .u8 yd]) (itD_get hej)
          cases hp103; clear hl103
          rcases hR103 with _ | ⟨hd103_0, _ | ⟨hd103_1, _ | _⟩⟩
          obtain rfl := hd103_0.v_out
          clear hd103_0
          obtain ⟨p104, c104, hv104, hw104⟩ := hd103_1.ns_shape; subst hv104
          obtain ⟨gx106, ox106, vx106, hp106, hl106, hR106, hrg106⟩ := h0.extA (k) (r := [.v (.int .i64 xb), .ns .u8 xd]) (itD_get hes)
          cases hp106; clear hl106
          rcases hR106 with _ | ⟨hd106_0, _ | ⟨hd106_1, _ | _⟩⟩
          obtain rfl := hd106_0.v_out
          clear hd106_0
          obtain ⟨p107, c107, hv107, hw107⟩ := hd106_1.ns_shape; subst hv107
          have m108 : MemOk _ _ [] _ := m97.only []; clear m97
          refine region_m 11 (B := []) (m108.to trivial) m108 (by kernel_rfl) (fun w109 mB109 m109 => ?_); clear m108 mB109
          refine dyn 0 ha101 rfl rfl (m109.to trivial) (fun W => y_move ha101 rfl) ?_
          clear ha101 a100; intro a110 ha110
          refine dyn 1 ha110 rfl rfl (m109.to trivial) (fun W => y_move ha110 rfl) ?_
          clear ha110 a110; intro a111 ha111
          refine dyn 2 ha111 rfl rfl (m109.to trivial) (fun W => y_idx ha111 rfl rfl Try.underlying23 sz67ri (j) rfl (by omega)) ?_
          clear ha111 a111; intro a112 ha112
          refine dyn 3 ha112 rfl rfl (m109.to trivial) (fun W => y_fieldAddrQ ha112 0 rfl Try.underlying67 rfl (s := 0) (by kernel_rfl) rfl) ?_
          clear ha112 a112; intro a113 ha113
          refine dh 4 ha113 rfl rfl (m109.to trivial) (fun W hW => y_loadAt1 ha113 (hrg103 hW rfl) (q := 0) rfl rfl rfl Try.underlying3 rfl) ?_
          clear ha113 a113; intro a114 ha114
          refine dyn 5 ha114 rfl rfl (m109.to trivial) (fun W => y_move ha114 rfl) ?_
          clear ha114 a114; intro a115 ha115
          refine dyn 6 ha115 rfl rfl (m109.to trivial) (fun W => y_move ha115 rfl) ?_
          clear ha115 a115; intro a116 ha116
          refine dyn 7 ha116 rfl rfl (m109.to trivial) (fun W => y_idx ha116 rfl rfl Try.underlying23 sz67ri (k) rfl hk) ?_
          clear ha116 a116; intro a117 ha117
          refine dyn 8 ha117 rfl rfl (m109.to trivial) (fun W => y_fieldAddrQ ha117 0 rfl Try.underlying67 rfl (s := 0) (by kernel_rfl) rfl) ?_
          clear ha117 a117; intro a118 ha118
          refine dh 9 ha118 rfl rfl (m109.to trivial) (fun W hW => y_loadAt1 ha118 (hrg106 hW rfl) (q := 0) rfl rfl rfl Try.underlying3 rfl) ?_
          clear ha118 a118; intro a119 ha119
          refine dyn 10 ha119 rfl rfl (m109.to trivial) (fun W => y_eql ha119 rfl rfl) ?_
          clear ha119 a119; intro a120 ha120
          refine wpAnyE_done (by kernel_rfl) ?_ _
          refine hK19 _ _ ?_; clear hK19; try clear K19
          refine bool_cases ha120 (t := 63) rfl (fun hb121 ha121 => ?_) (fun hb121 ha121 => ?_)
          ·
           clear ha120
           try simp only [Q1x, Q2x, Q3x, Q4x, Q5x, Q6x, Q7x, Q8x, Q9x, Q0x, Qax, Qbx] at hb121
           refine wp_cond_true (ha121.ev (x := .tmp 63) rfl) ?_
           refine wp_seq_k (fun K20 hK20 => ?_)
           have ha122 : Has 64 [(0, _), (1, _), (2, _), (7, _), (8, _), (63, _)] a120 := ha121.only [0, 1, 2, 7, 8, 63]; clear ha121
           refine wp_region_lit ?_
           refine st_y ha122 rfl (y_assign ha122 rfl) ?_
           clear ha122 a120; intro a123 ha123
           refine wpList_nil ?_
           refine hK20 _ _ ?_; clear hK20; try clear K20
           refine wp_ret ?_
           try dsimp only [Exit.then, Exit.inBlock]
           refine (ret1 (fn := Try.f29) ha123 rfl rfl ?_)
           exact ⟨false, rfl, iff_of_false (by simp) (fun h => by have h9 := (h.2.2 k hk).2.2.2; rw [getI hes] at h9; exact h9 ⟨_, List.mem_of_getElem? (i := j) (by rw [List.getElem?_take_of_lt hj]; exact hej), hb121⟩), m109.below⟩
          ·
           clear ha120
           try simp only [Q1x, Q2x, Q3x, Q4x, Q5x, Q6x, Q7x, Q8x, Q9x, Q0x, Qax, Qbx] at hb121
           refine wp_cond_false (ha121.ev (x := .tmp 63) rfl) ?_
           refine wp_skip ?_
           refine hK18 _ _ ?_; clear hK18; try clear K18
           have ha124 : Has 64 [(0, _), (1, _), (2, _), (7, _), (8, _), (63, _)] a120 := ha121.only [0, 1, 2, 7, 8, 63]; clear ha121
           refine wp_region_lit ?_
           refine st_y ha124 rfl (y_move ha124 rfl) ?_
           clear ha124 a120; intro a125 ha125
           refine st_y ha125 rfl (y_add ha125 rfl rfl (r := ((j + 1 : Nat) : Int)) (by rw [IntWalk.i64_in _ (by omega)]; omega)) ?_
           clear ha125 a125; intro a126 ha126
           refine st_y ha126 rfl (y_assign ha126 rfl) ?_
           clear ha126 a126; intro a127 ha127
           refine wpList_nil ?_
           show ∃ n', n' < _ ∧ _
           exact ⟨k - (j + 1), by omega, j + 1, by omega, rfl, ne_snoc hall2 hej hb121, ha127.only [0, 1, 2, 7, 8], m109.only []⟩
         ·
          clear ha100
          try simp only [Q1x, Q2x, Q3x, Q4x, Q5x, Q6x, Q7x, Q8x, Q9x, Q0x, Qax, Qbx] at hb101
          have hjk2 : j = k := by omega
          rw [hjk2] at hall2
          refine wp_cond_false (ha101.ev (x := .tmp 50) rfl) ?_
          refine wp_exit ?_
          refine hK9 _ _ ?_; clear hK9; try clear K9
          refine wp_region_lit ?_
          refine st_y ha101 rfl (y_move ha101 rfl) ?_
          clear ha101 a100; intro a128 ha128
          refine st_y ha128 rfl (y_add ha128 rfl rfl (r := ((k + 1 : Nat) : Int)) (by rw [IntWalk.i64_in _ (by omega)]; omega)) ?_
          clear ha128 a128; intro a129 ha129
          refine st_y ha129 rfl (y_assign ha129 rfl) ?_
          clear ha129 a129; intro a130 ha130
          refine wpList_nil ?_
          show ∃ n', n' < _ ∧ _
          exact ⟨l.length - (k + 1), by omega, k + 1, by omega, rfl, itpre_snoc hall hes (by omega) (by omega) (notin_take hall2 (by omega)), ha130.only [0, 1, 2, 7], m97.only []⟩
    ·
     clear ha26
     try simp only [Q1x, Q2x, Q3x, Q4x, Q5x, Q6x, Q7x, Q8x, Q9x, Q0x, Qax, Qbx] at hb27
     obtain rfl : k = l.length := by omega
     refine wp_cond_false (ha27.ev (x := .tmp 20) rfl) ?_
     refine wp_exit ?_
     refine hK5 _ _ ?_; clear hK5; try clear K5
     refine wp_seq_k (fun K21 hK21 => ?_)
     refine wp_region_lit ?_
     refine st_y ha27 rfl (y_assign ha27 rfl) ?_
     clear ha27 a26; intro a131 ha131
     refine wpList_nil ?_
     refine hK21 _ _ ?_; clear hK21; try clear K21
     refine wp_ret ?_
     try dsimp only [Exit.then, Exit.inBlock]
     refine (ret1 (fn := Try.f29) ha131 rfl rfl ?_)
     exact ⟨true, rfl, iff_of_true rfl ⟨by omega, by omega, hall⟩, m22.below⟩
theorem rlen_any (vo bl sz pe to ne fl : Int) (hi : Bool) (pp pn pw : Option Addr) (np cp nn cn nw cw : Nat) (w0 : World) :
   Calls Try.prog 21 #[.agg #[.int .i64 vo, .int .i64 bl, .int .i64 sz, .int .i64 pe, .slice pp np cp, .int .i64 to, .int .i64 ne, .bool hi, .int .i64 fl, .slice pn nn cn, .slice pw nw cw]] w0 fun e w' => e = .returned (.int .i64 (nw : Int)) ∧ Below w0.heap.size w0 w' := by
 refine enter (fn := Try.f21) Try.func21 rfl Try.ntmps21 rfl (fun a0 ha0 => ?_)
 simp only [List.zipIdx_cons, List.zipIdx_nil, List.map_cons, List.map_nil, Nat.reduceAdd, Nat.zero_add] at ha0
 have m0 := MemOk.start (fun _ => False) w0
 refine wp_seq_k (fun K0 hK0 => ?_)
 refine wp_region_lit ?_
 refine wpList_plain rfl (fun K hK => ?_)
 refine e_box ha0 m0 4 (cs := [_, _, _, _, _, _, _, _, _, _, _]) rfl rfl rfl ?_
 clear ha0 a0 m0; intro g1 a2 w2 ha2 m2 hB2 hg2
 clear hB2 hg2
 refine hK _ _ ?_; clear hK K
 refine st_y ha2 rfl (y_assign ha2 rfl) ?_
 clear ha2 a2; intro a3 ha3
 refine wpList_nil ?_
 refine hK0 _ _ ?_; clear hK0; try clear K0
 refine wp_seq_k (fun K1 hK1 => ?_)
 refine wp_region_lit ?_
 refine st_y ha3 rfl (y_fieldAddr ha3 (off := 10) rfl Try.underlying34 rfl (s := 0) (by kernel_rfl) rfl) ?_
 clear ha3 a3; intro a4 ha4
 refine st_y ha4 rfl (y_loadB1 ha4 m2 (i := 4) rfl rfl rfl Try.underlying32 rfl) ?_
 clear ha4 a4; intro a5 ha5
 refine st_y ha5 rfl (y_len ha5 rfl Try.underlying32) ?_
 clear ha5 a5; intro a6 ha6
 refine st_y ha6 rfl (y_assign ha6 rfl) ?_
 clear ha6 a6; intro a7 ha7
 refine wpList_nil ?_
 refine hK1 _ _ ?_; clear hK1; try clear K1
 refine wp_ret ?_
 try dsimp only [Exit.then, Exit.inBlock]
 refine (ret1 (fn := Try.f21) ha7 rfl rfl ?_)
 exact ⟨rfl, m2.below⟩
theorem rlow_any (vo bl sz pe to ne fl : Int) (hi : Bool) (pins : List Int) (pp pn pw : Option Addr) (np cp cn9 nw cw : Nat) (w0 : World) (h1 : Rd (fun _ => True) w0 (.slice pn pins.length cn9) (.ns .i64 pins)) (hp : pins.length ≤ 1000000) :
   Calls Try.prog 23 #[.agg #[.int .i64 vo, .int .i64 bl, .int .i64 sz, .int .i64 pe, .slice pp np cp, .int .i64 to, .int .i64 ne, .bool hi, .int .i64 fl, .slice pn pins.length cn9, .slice pw nw cw]] w0 fun e w' => e = .returned (.int .i64 (lowL nw pins)) ∧ Below w0.heap.size w0 w' := by
 refine enter (fn := Try.f23) Try.func23 rfl Try.ntmps23 rfl (fun a0 ha0 => ?_)
 simp only [List.zipIdx_cons, List.zipIdx_nil, List.map_cons, List.map_nil, Nat.reduceAdd, Nat.zero_add] at ha0
 have m0 := MemOk.start (fun _ => False) w0
 refine wp_seq_k (fun K0 hK0 => ?_)
 refine wp_region_lit ?_
 refine wpList_plain rfl (fun K hK => ?_)
 refine e_box ha0 m0 20 (cs := [_, _, _, _, _, _, _, _, _, _, _]) rfl rfl rfl ?_
 clear ha0 a0 m0; intro g1 a2 w2 ha2 m2 hB2 hg2
 clear hB2 hg2
 refine hK _ _ ?_; clear hK K
 refine st_y ha2 rfl (y_assign ha2 rfl) ?_
 clear ha2 a2; intro a3 ha3
 refine wpList_nil ?_
 refine hK0 _ _ ?_; clear hK0; try clear K0
 refine wp_seq_k (fun K1 hK1 => ?_)
 refine wp_region_lit ?_
 refine st_y ha3 rfl (y_loadBR ha3 m2 (i := 20) rfl rfl Try.underlying34 rfl sz34rw (by simp) (by dsimp only [List.drop, List.take] <;> rfl)) ?_
 clear ha3 a3; intro a4 ha4
 refine wpList_plain rfl (fun K hK => ?_)
 refine e_call ha4 Try.func21 rfl rfl rfl rfl (rlen_any _ _ _ _ _ _ _ _ _ _ _ _ _ _ _ _ _ _) ?_
 rintro e w5 ⟨rfl, hb5⟩
 have m6 := m2.later hb5
 clear m2
 clear hb5
 refine ⟨_, rfl, fun a7 ha7 => ?_⟩; clear ha4 a4
 refine hK _ _ ?_; clear hK K
 refine st_y ha7 rfl (y_assign ha7 rfl) ?_
 clear ha7 a7; intro a8 ha8
 refine wpList_nil ?_
 refine hK1 _ _ ?_; clear hK1; try clear K1
 refine wp_seq_k (fun K2 hK2 => ?_)
 refine wp_seq_k (fun K3 hK3 => ?_)
 refine wp_region_lit ?_
 refine st_y ha8 rfl (y_assign ha8 rfl) ?_
 clear ha8 a8; intro a9 ha9
 refine wpList_nil ?_
 refine hK3 _ _ ?_; clear hK3; try clear K3
 refine wp_block ?_
 refine wp_loop_ghost (fun g a w => ∃ (k B : Nat), k ≤ pins.length ∧ g = pins.length - k ∧ Has 22 [(1, .pointer (some ⟨B, 0, none⟩)), (3, .int .i64 (lowL nw (pins.take k))), (4, .int .i64 k)] a ∧ MemOk (cn w0) w0 [(9, .box B 34 [.int .i64 vo, .int .i64 bl, .int .i64 sz, .int .i64 pe, .slice pp np cp, .int .i64 to, .int .i64 ne, .bool hi, .int .i64 fl, .slice pn pins.length cn9, .slice pw nw cw])] w) (pins.length) ?_ ?_
 · exact ⟨0, _, Nat.zero_le _, rfl, ha9.only [1, 3, 4], m6.ren [(9, 20)] (by decide)⟩
 ·
  clear ha9 m6
  rintro g a10 w10 ⟨k, B, hkl, hg, ha10, m10⟩
  refine wp_seq_k (fun K4 hK4 => ?_)
  refine wp_seq_k (fun K5 hK5 => ?_)
  refine wp_region_lit ?_
  refine st_y ha10 rfl (y_move ha10 rfl) ?_
  clear ha10 a10; intro a11 ha11
  refine st_y ha11 rfl (y_fieldAddr ha11 (off := 9) rfl Try.underlying34 rfl (s := 0) (by kernel_rfl) rfl) ?_
  clear ha11 a11; intro a12 ha12
  refine st_y ha12 rfl (y_loadB1 ha12 m10 (i := 9) rfl rfl rfl Try.underlying31 rfl) ?_
  clear ha12 a12; intro a13 ha13
  refine st_y ha13 rfl (y_len ha13 rfl Try.underlying31) ?_
  clear ha13 a13; intro a14 ha14
  refine st_y ha14 rfl (y_lss ha14 rfl rfl) ?_
  clear ha14 a14; intro a15 ha15
  refine wpList_nil ?_
  refine hK5 _ _ ?_; clear hK5; try clear K5
  refine bool_cases ha15 (t := 11) rfl (fun hb16 ha16 => ?_) (fun hb16 ha16 => ?_)
  ·
   clear ha15
   try simp only [Q1x, Q2x, Q3x, Q4x, Q5x, Q6x, Q7x, Q8x, Q9x, Q0x, Qax, Qbx] at hb16
   have hk : k < pins.length := by omega
   refine wp_cond_true (ha16.ev (x := .tmp 11) rfl) ?_
   refine wp_skip ?_
   refine hK4 _ _ ?_; clear hK4; try clear K4
   refine wp_seq_k (fun K6 hK6 => ?_)
   refine wp_block ?_
   refine wp_region_lit ?_
   refine st_y ha16 rfl (y_move ha16 rfl) ?_
   clear ha16 a15; intro a17 ha17
   refine st_y ha17 rfl (y_fieldAddr ha17 (off := 9) rfl Try.underlying34 rfl (s := 0) (by kernel_rfl) rfl) ?_
   clear ha17 a17; intro a18 ha18
   refine st_y ha18 rfl (y_loadB1 ha18 m10 (i := 9) rfl rfl rfl Try.underlying31 rfl) ?_
   clear ha18 a18; intro a19 ha19
   refine st_y ha19 rfl (y_move ha19 rfl) ?_
   clear ha19 a19; intro a20 ha20
   obtain ⟨gx21, ox21, hp21, hl21, hrg21⟩ := h1.extN (k) hk
   cases hp21; clear hl21
   refine st_y ha20 rfl (y_idx ha20 rfl rfl Try.underlying31 sz2rw (k) rfl hk) ?_
   clear ha20 a20; intro a22 ha22
   refine st_y ha22 rfl (y_loadAt1 ha22 (hrg21 m10 rfl) (q := 0) rfl rfl rfl Try.underlying2 rfl) ?_
   clear ha22 a22; intro a23 ha23
   refine st_y ha23 rfl (y_min ha23 rfl rfl rfl) ?_
   clear ha23 a23; intro a24 ha24
   refine st_y ha24 rfl (y_assign ha24 rfl) ?_
   clear ha24 a24; intro a25 ha25
   refine wpList_nil ?_
   refine hK6 _ _ ?_; clear hK6; try clear K6
   have ha26 : Has 22 [(1, _), (3, _), (4, _)] a25 := ha25.only [1, 3, 4]; clear ha25
   refine wp_region_lit ?_
   refine st_y ha26 rfl (y_move ha26 rfl) ?_
   clear ha26 a25; intro a27 ha27
   refine st_y ha27 rfl (y_add ha27 rfl rfl (r := ((k + 1 : Nat) : Int)) (by rw [IntWalk.i64_in _ (by omega)]; omega)) ?_
   clear ha27 a27; intro a28 ha28
   refine st_y ha28 rfl (y_assign ha28 rfl) ?_
   clear ha28 a28; intro a29 ha29
   refine wpList_nil ?_
   show ∃ n', n' < _ ∧ _
   rw [low_snoc hk] at ha29
   exact ⟨pins.length - (k + 1), by omega, k + 1, _, by omega, rfl, ha29.only [1, 3, 4], m10.only [9]⟩
  ·
   clear ha15
   try simp only [Q1x, Q2x, Q3x, Q4x, Q5x, Q6x, Q7x, Q8x, Q9x, Q0x, Qax, Qbx] at hb16
   obtain rfl : k = pins.length := by omega
   refine wp_cond_false (ha16.ev (x := .tmp 11) rfl) ?_
   refine wp_exit ?_
   refine hK2 _ _ ?_; clear hK2; try clear K2
   refine wp_seq_k (fun K7 hK7 => ?_)
   refine wp_region_lit ?_
   refine st_y ha16 rfl (y_move ha16 rfl) ?_
   clear ha16 a15; intro a30 ha30
   refine st_y ha30 rfl (y_assign ha30 rfl) ?_
   clear ha30 a30; intro a31 ha31
   refine wpList_nil ?_
   refine hK7 _ _ ?_; clear hK7; try clear K7
   refine wp_ret ?_
   try dsimp only [Exit.then, Exit.inBlock]
   refine (ret1 (fn := Try.f23) ha31 rfl rfl ?_)
   exact ⟨by rw [List.take_length], m10.below⟩
theorem rown_any (es : List (Int × List Int)) (p0 : Option Addr) (c0 nn : Nat) (w0 : World) (h0 : Rd (fun _ => True) w0 (.slice p0 nn c0) (.l 2 (es.map itD))) (hl : es.length ≤ 1000000) (hok : ItsOk es) :
   Calls Try.prog 81 #[.slice p0 nn c0] w0 fun e w' => ∃ p c, e = .returned (.slice p (es.map itD).length c) ∧ Rd (New w0) w' (.slice p (es.map itD).length c) (.l 2 (es.map itD)) ∧ Below w0.heap.size w0 w' := by
 obtain rfl : nn = es.length := by obtain ⟨pq, cq, hv, _⟩ := h0.l_shape; injection hv with _ e2 _; rw [List.length_map] at e2; exact e2
 refine enter (fn := Try.f81) Try.func81 rfl Try.ntmps81 rfl (fun a0 ha0 => ?_)
 simp only [List.zipIdx_cons, List.zipIdx_nil, List.map_cons, List.map_nil, Nat.reduceAdd, Nat.zero_add] at ha0
 have m0 := MemOk.start (fun _ => False) w0
 refine wp_seq_k (fun K0 hK0 => ?_)
 refine wp_region_lit ?_
 refine st_y ha0 rfl (y_assign ha0 rfl) ?_
 clear ha0 a0; intro a1 ha1
 refine wpList_nil ?_
 refine hK0 _ _ ?_; clear hK0; try clear K0
 refine wp_seq_k (fun K1 hK1 => ?_)
 refine wp_region_lit ?_
 refine st_y ha1 rfl (y_assign ha1 rfl) ?_
 clear ha1 a1; intro a2 ha2
 refine wpList_nil ?_
 refine hK1 _ _ ?_; clear hK1; try clear K1
 refine wp_seq_k (fun K2 hK2 => ?_)
 refine wp_seq_k (fun K3 hK3 => ?_)
 refine wp_region_lit ?_
 refine st_y ha2 rfl (y_assign ha2 rfl) ?_
 clear ha2 a2; intro a3 ha3
 refine wpList_nil ?_
 refine hK3 _ _ ?_; clear hK3; try clear K3
 refine wp_block ?_
 refine wp_loop_ghost (fun g a w => ∃ (k : Nat) (p : Option Addr) (c : Nat), k ≤ es.length ∧ g = es.length - k ∧ Has 27 [(0, .slice p0 es.length c0), (3, .slice p ((es.take k).map itD).length c), (4, .int .i64 k)] a ∧ MemOk (cn w0) w0 [(9, .row (.slice p ((es.take k).map itD).length c) 67 2 ((es.take k).map itD))] w) (es.length) ?_ ?_
 · have mz := m0.nilR 9 67 2
   exact ⟨0, _, _, Nat.zero_le _, rfl, ha3.only [0, 3, 4], mz.only [9]⟩
 ·
  clear ha3 m0
  rintro g a4 w4 ⟨k, p, c, hkl, hg, ha4, m4⟩
  refine wp_seq_k (fun K4 hK4 => ?_)
  refine wp_seq_k (fun K5 hK5 => ?_)
  refine wp_region_lit ?_
  refine st_y ha4 rfl (y_move ha4 rfl) ?_
  clear ha4 a4; intro a5 ha5
  refine st_y ha5 rfl (y_move ha5 rfl) ?_
  clear ha5 a5; intro a6 ha6
  refine st_y ha6 rfl (y_len ha6 rfl Try.underlying23) ?_
  clear ha6 a6; intro a7 ha7
  refine st_y ha7 rfl (y_lss ha7 rfl rfl) ?_
  clear ha7 a7; intro a8 ha8
  refine wpList_nil ?_
  refine hK5 _ _ ?_; clear hK5; try clear K5
  refine bool_cases ha8 (t := 8) rfl (fun hb9 ha9 => ?_) (fun hb9 ha9 => ?_)
  ·
   clear ha8
   try simp only [Q1x, Q2x, Q3x, Q4x, Q5x, Q6x, Q7x, Q8x, Q9x, Q0x, Qax, Qbx] at hb9
   have hk : k < es.length := by omega
   obtain ⟨⟨xb, xd⟩, hes⟩ : ∃ e, es[k]? = some e := ⟨_, List.getElem?_eq_getElem hk⟩
   have hed := hok _ (List.mem_of_getElem? hes)
   dsimp only at hed
   refine wp_cond_true (ha9.ev (x := .tmp 8) rfl) ?_
   refine wp_skip ?_
   refine hK4 _ _ ?_; clear hK4; try clear K4
   refine wp_seq_k (fun K6 hK6 => ?_)
   refine wp_block ?_
   obtain ⟨gx11, ox11, vx11, hp11, hl11, hR11, hrg11⟩ := h0.extA (k) (r := [.v (.int .i64 xb), .ns .u8 xd]) (itD_get hes)
   cases hp11; clear hl11
   rcases hR11 with _ | ⟨hd11_0, _ | ⟨hd11_1, _ | _⟩⟩
   obtain rfl := hd11_0.v_out
   clear hd11_0
   obtain ⟨p12, c12, hv12, hw12⟩ := hd11_1.ns_shape; subst hv12
   obtain ⟨gx14, ox14, vx14, hp14, hl14, hR14, hrg14⟩ := h0.extA (k) (r := [.v (.int .i64 xb), .ns .u8 xd]) (itD_get hes)
   cases hp14; clear hl14
   rcases hR14 with _ | ⟨hd14_0, _ | ⟨hd14_1, _ | _⟩⟩
   obtain rfl := hd14_0.v_out
   clear hd14_0
   obtain ⟨p15, c15, hv15, hw15⟩ := hd14_1.ns_shape; subst hv15
   have m16 : MemOk _ _ [(9, _)] _ := m4.only [9]; clear m4
   refine region_m 14 (B := [(9, _)]) (m16.to ⟨il, trivial⟩) m16 (by kernel_rfl) (fun w17 mB17 m17 => ?_); clear m16 mB17
   refine dyn 0 ha9 rfl rfl (m17.to ⟨il, trivial⟩) (fun W => y_move ha9 rfl) ?_
   clear ha9 a8; intro a18 ha18
   refine dyn 1 ha18 rfl rfl (m17.to ⟨il, trivial⟩) (fun W => y_move ha18 rfl) ?_
   clear ha18 a18; intro a19 ha19
   refine dyn 2 ha19 rfl rfl (m17.to ⟨il, trivial⟩) (fun W => y_move ha19 rfl) ?_
   clear ha19 a19; intro a20 ha20
   refine dyn 3 ha20 rfl rfl (m17.to ⟨il, trivial⟩) (fun W => y_idx ha20 rfl rfl Try.underlying23 sz67ro (k) rfl hk) ?_
   clear ha20 a20; intro a21 ha21
   refine dyn 4 ha21 rfl rfl (m17.to ⟨il, trivial⟩) (fun W => y_fieldAddrQ ha21 0 rfl Try.underlying67 rfl (s := 0) (by kernel_rfl) rfl) ?_
   clear ha21 a21; intro a22 ha22
   refine dr 5 ha22 rfl rfl (m17.to ⟨il, trivial⟩) (fun W hW => y_loadAt1 ha22 (hrg11 hW rfl) (q := 0) rfl rfl rfl Try.underlying3 rfl) ?_
   clear ha22 a22; intro a23 ha23
   refine dyn 6 ha23 rfl rfl (m17.to ⟨il, trivial⟩) (fun W => y_move ha23 rfl) ?_
   clear ha23 a23; intro a24 ha24
   refine dyn 7 ha24 rfl rfl (m17.to ⟨il, trivial⟩) (fun W => y_move ha24 rfl) ?_
   clear ha24 a24; intro a25 ha25
   refine dyn 8 ha25 rfl rfl (m17.to ⟨il, trivial⟩) (fun W => y_idx ha25 rfl rfl Try.underlying23 sz67ro (k) rfl hk) ?_
   clear ha25 a25; intro a26 ha26
   refine dyn 9 ha26 rfl rfl (m17.to ⟨il, trivial⟩) (fun W => y_fieldAddrQ ha26 1 rfl Try.underlying67 rfl (s := 0) (by kernel_rfl) rfl) ?_
   clear ha26 a26; intro a27 ha27
   refine dr 10 ha27 rfl rfl (m17.to ⟨il, trivial⟩) (fun W hW => y_loadAt1 ha27 (hrg14 hW rfl) (q := 1) rfl rfl rfl Try.underlying43 rfl) ?_
   clear ha27 a27; intro a28 ha28
   refine stepE_only 11 rfl (by kernel_rfl) rfl (fun K hK => ?_)
   refine e_app0M ha28 m17 102 rfl rfl (hd14_1.now' m17 rfl).ns_out.nums Try.underlying43 inf5ro (by decide) (by omega) rfl ?_
   clear ha28 a28 m17; intro p29 c29 a30 w30 ha30 m30
   refine hK _ _ (m30.to ⟨il, trivial⟩) ?_; clear hK K
   refine dyn 12 ha30 rfl rfl (m30.to ⟨il, trivial⟩) (fun W => y_build ha30 rfl zc67ro fl67ro rfl (by dsimp only [setL, List.set] <;> rfl)) ?_
   clear ha30 a30; intro a31 ha31
   have m33 := m30.freezeN 102 rfl; clear m30
   refine stepE_only 13 rfl (by kernel_rfl) rfl (fun K hK => ?_)
   refine e_litR ha31 m33 103 (mm := 2) rfl (.cons rfl rfl (.cons (.v _) (.cons (m33.rd (i := 102) rfl) .nil)) <| .nil) Try.underlying23 inf67ro rfl rfl rfl rfl rfl ?_
   clear ha31 a31 m33; intro g32 a34 w34 ha34 m34
   refine hK _ _ (m34.to ⟨il, trivial⟩) ?_; clear hK K
   have m36 := m34.freezeR 103 rfl; clear m34
   refine stepE_end 14 rfl (by kernel_rfl) rfl (by rfl) (fun K hK => ?_)
   refine e_appR ha34 m36 9 rfl rfl rfl (m36.rd (i := 103) rfl) Try.underlying23 inf67ro rfl rfl (by decide) (by simp; omega) rfl ?_
   clear ha34 a34 m36; intro p35 c35 a37 w37 ha37 m37
   refine hK _ _ ?_; clear hK K
   refine dyp 15 ha37 rfl rfl (fun W => y_assign ha37 rfl) ?_
   clear ha37 a37; intro a38 ha38
   refine wpAnyE_done (by kernel_rfl) ?_ _
   refine hK6 _ _ ?_; clear hK6; try clear K6
   have ha39 : Has 27 [(0, _), (3, _), (4, _)] a38 := ha38.only [0, 3, 4]; clear ha38
   refine wp_region_lit ?_
   refine st_y ha39 rfl (y_move ha39 rfl) ?_
   clear ha39 a38; intro a40 ha40
   refine st_y ha40 rfl (y_add ha40 rfl rfl (r := ((k + 1 : Nat) : Int)) (by rw [IntWalk.i64_in _ (by omega)]; omega)) ?_
   clear ha40 a40; intro a41 ha41
   refine st_y ha41 rfl (y_assign ha41 rfl) ?_
   clear ha41 a41; intro a42 ha42
   refine wpList_nil ?_
   show ∃ n', n' < _ ∧ _
   have hE : (es.take k).map itD ++ [[D.v (.int .i64 xb), .ns .u8 xd]] = (es.take (k + 1)).map itD := by rw [take_snoc hes, List.map_append]; rfl
   rw [hE] at m37 ha42
   exact ⟨es.length - (k + 1), by omega, k + 1, _, _, by omega, rfl, ha42.only [0, 3, 4], m37.only [9]⟩
  ·
   clear ha8
   try simp only [Q1x, Q2x, Q3x, Q4x, Q5x, Q6x, Q7x, Q8x, Q9x, Q0x, Qax, Qbx] at hb9
   obtain rfl : k = es.length := by omega
   refine wp_cond_false (ha9.ev (x := .tmp 8) rfl) ?_
   refine wp_exit ?_
   refine hK2 _ _ ?_; clear hK2; try clear K2
   refine wp_seq_k (fun K7 hK7 => ?_)
   refine wp_region_lit ?_
   refine st_y ha9 rfl (y_move ha9 rfl) ?_
   clear ha9 a8; intro a43 ha43
   refine st_y ha43 rfl (y_assign ha43 rfl) ?_
   clear ha43 a43; intro a44 ha44
   refine wpList_nil ?_
   refine hK7 _ _ ?_; clear hK7; try clear K7
   refine wp_ret ?_
   try dsimp only [Exit.then, Exit.inBlock]
   refine (ret1 (fn := Try.f81) ha44 rfl rfl ?_)
   rw [List.take_length] at *
   have m45 := m4.freezeR 9 rfl; clear m4
   exact ⟨_, _, rfl, m45.outF (i := 9) rfl, m45.below⟩
theorem rwrite_fr (X : Cx) (vo bl sz pe to ne fl : Int) (hi : Bool) (place pins : List Int) (ws : List (Int × List (Int × List Int))) (items : List (Int × List Int)) (pp pn pw : Option Addr) (cp cn9 cw : Nat) (pi : Option Addr) (ci : Nat) (w0 : World) (hl : ws.length ≤ 900000) (hil : items.length ≤ 1000000) (hio : ItsOk items) (m0 : MemOk X w0 [(1, .dat (.slice pp place.length cp) (.ns .i64 place)), (2, .dat (.slice pn pins.length cn9) (.ns .i64 pins)), (3, .dat (.slice pw (ws.map wrD).length cw) (.l 2 (ws.map wrD))), (4, .dat (.slice pi items.length ci) (.l 2 (items.map itD)))] w0) :
   Calls Try.prog 65 #[.agg #[.int .i64 vo, .int .i64 bl, .int .i64 sz, .int .i64 pe, .slice pp place.length cp, .int .i64 to, .int .i64 ne, .bool hi, .int .i64 fl, .slice pn pins.length cn9, .slice pw (ws.map wrD).length cw], .slice pi items.length ci] w0 fun e w' => ∃ p c, e = .returned (.agg #[.int .i64 vo, .int .i64 bl, .int .i64 sz, .int .i64 pe, .slice pp place.length cp, .int .i64 to, .int .i64 ne, .bool hi, .int .i64 fl, .slice pn pins.length cn9, .slice p ((ws ++ [((ws.length : Int) + 1, items)]).map wrD).length c]) ∧ MemOk X w0 [(1, .dat (.slice pp place.length cp) (.ns .i64 place)), (2, .dat (.slice pn pins.length cn9) (.ns .i64 pins)), (3, .dat (.slice pw (ws.map wrD).length cw) (.l 2 (ws.map wrD))), (4, .dat (.slice pi items.length ci) (.l 2 (items.map itD))), (7, .dat (.slice p ((ws ++ [((ws.length : Int) + 1, items)]).map wrD).length c) (.l 2 ((ws ++ [((ws.length : Int) + 1, items)]).map wrD)))] w' := by
 refine enter (fn := Try.f65) Try.func65 rfl Try.ntmps65 rfl (fun a0 ha0 => ?_)
 simp only [List.zipIdx_cons, List.zipIdx_nil, List.map_cons, List.map_nil, Nat.reduceAdd, Nat.zero_add] at ha0
 refine wp_seq_k (fun K0 hK0 => ?_)
 refine wp_region_lit ?_
 refine wpList_plain rfl (fun K hK => ?_)
 refine e_box ha0 m0 20 (cs := [_, _, _, _, _, _, _, _, _, _, _]) rfl rfl rfl ?_
 clear ha0 a0 m0; intro g1 a2 w2 ha2 m2 hB2 hg2
 clear hB2 hg2
 refine hK _ _ ?_; clear hK K
 refine wpList_plain rfl (fun K hK => ?_)
 refine e_alloc ha2 m2 21 zc34rr rfl ?_
 clear ha2 a2 m2; intro g3 a4 w4 ha4 m4 hB4 hg4
 clear hB4 hg4
 refine hK _ _ ?_; clear hK K
 refine wpList_nil ?_
 refine hK0 _ _ ?_; clear hK0; try clear K0
 refine wp_seq_k (fun K1 hK1 => ?_)
 have m5 : MemOk _ _ [(1, _), (2, _), (3, _), (4, _), (20, _), (21, _)] _ := m4.only [1, 2, 3, 4, 20, 21]; clear m4
 refine region_m 12 (B := [(1, _), (2, _), (3, _), (4, _), (20, _), (21, _)]) (m5.to ⟨il, il, il, il, il, il, trivial⟩) m5 (by kernel_rfl) (fun w6 mB6 m6 => ?_); clear m5 mB6
 refine dyn 0 ha4 rfl rfl (m6.to ⟨il, il, il, il, il, il, trivial⟩) (fun W => y_fieldAddr ha4 (off := 10) rfl Try.underlying34 rfl (s := 0) (by kernel_rfl) rfl) ?_
 clear ha4 a4; intro a7 ha7
 refine dr 1 ha7 rfl rfl (m6.to ⟨il, il, il, il, il, il, trivial⟩) (fun W hW => y_loadB1 ha7 hW (i := 20) rfl rfl rfl Try.underlying32 rfl) ?_
 clear ha7 a7; intro a8 ha8
 refine dr 3 ha8 rfl rfl (m6.to ⟨il, il, il, il, il, il, trivial⟩) (fun W hW => y_loadBR ha8 hW (i := 20) rfl rfl Try.underlying34 rfl sz34rr (by simp) (by dsimp only [List.drop, List.take] <;> rfl)) ?_
 clear ha8 a8; intro a9 ha9
 refine dyn 6 ha9 rfl rfl (m6.to ⟨il, il, il, il, il, il, trivial⟩) (fun W => y_move ha9 rfl) ?_
 clear ha9 a9; intro a10 ha10
 have m11 := m6.nilR 22 55 2
 clear m6
 refine stepE_only 2 rfl (by kernel_rfl) rfl (fun K hK => ?_)
 refine e_appR ha10 m11 22 rfl rfl rfl (m11.rd (i := 3) rfl) Try.underlying32 inf55rr rfl rfl (by decide) (by simp; omega) rfl ?_
 clear ha10 a10 m11; intro p12 c12 a13 w13 ha13 m13
 refine hK _ _ (m13.to ⟨il, il, il, il, il, il, trivial⟩) ?_; clear hK K
 refine stepE_only 4 rfl (by kernel_rfl) rfl (fun K hK => ?_)
 refine e_call ha13 Try.func21 rfl rfl rfl rfl (rlen_any _ _ _ _ _ _ _ _ _ _ _ _ _ _ _ _ _ _) ?_
 rintro e w14 ⟨rfl, hb14⟩
 have m15 := m13.later hb14
 clear m13
 clear hb14
 refine ⟨_, rfl, fun a16 ha16 => ?_⟩; clear ha13 a13
 refine hK _ _ (m15.to ⟨il, il, il, il, il, il, trivial⟩) ?_; clear hK K
 refine dyn 5 ha16 rfl rfl (m15.to ⟨il, il, il, il, il, il, trivial⟩) (fun W => y_add ha16 rfl rfl (r := (ws.length : Int) + 1) (by rw [List.length_map]; exact IntWalk.i64_in _ (by omega))) ?_
 clear ha16 a16; intro a17 ha17
 refine stepE_only 7 rfl (by kernel_rfl) rfl (fun K hK => ?_)
 refine e_call ha17 Try.func81 rfl rfl rfl rfl (rown_any items _ _ _ _ ((m15.rd (i := 4) rfl).any) hil hio) ?_
 rintro e w18 ⟨p18, c18, rfl, hd18, hb18⟩
 have m19 := m15.callF 23 rfl hb18 hd18
 clear m15
 clear hb18 hd18
 refine ⟨_, rfl, fun a20 ha20 => ?_⟩; clear ha17 a17
 refine hK _ _ (m19.to ⟨il, il, il, il, il, il, trivial⟩) ?_; clear hK K
 refine dyn 8 ha20 rfl rfl (m19.to ⟨il, il, il, il, il, il, trivial⟩) (fun W => y_build ha20 rfl zc55rr fl55rr rfl (by dsimp only [setL, List.set] <;> rfl)) ?_
 clear ha20 a20; intro a21 ha21
 refine stepE_only 9 rfl (by kernel_rfl) rfl (fun K hK => ?_)
 refine e_litR ha21 m19 24 (mm := 2) rfl (.cons rfl rfl (.cons (.v _) (.cons (m19.rd (i := 23) rfl) .nil)) <| .nil) Try.underlying32 inf55rr rfl rfl rfl rfl rfl ?_
 clear ha21 a21 m19; intro g22 a23 w23 ha23 m23
 refine hK _ _ (m23.to ⟨il, il, il, il, il, il, trivial⟩) ?_; clear hK K
 have m25 := m23.freezeR 24 rfl; clear m23
 refine stepE_only 10 rfl (by kernel_rfl) rfl (fun K hK => ?_)
 refine e_appR ha23 m25 22 rfl rfl rfl (m25.rd (i := 24) rfl) Try.underlying32 inf55rr rfl rfl (by decide) (by simp; omega) rfl ?_
 clear ha23 a23 m25; intro p24 c24 a26 w26 ha26 m26
 refine hK _ _ (m26.to ⟨il, il, il, il, il, il, trivial⟩) ?_; clear hK K
 refine dyn 11 ha26 rfl rfl (m26.to ⟨il, il, il, il, il, il, trivial⟩) (fun W => y_fieldAddr ha26 (off := 10) rfl Try.underlying34 rfl (s := 0) (by kernel_rfl) rfl) ?_
 clear ha26 a26; intro a27 ha27
 refine stepE_end 12 rfl (by kernel_rfl) rfl (by rfl) (fun K hK => ?_)
 refine e_store1 ha27 m26 20 rfl rfl rfl rfl rfl sz32rr (by dsimp only [List.set] <;> rfl) ?_
 clear m26; intro w28 m28 hB28
 clear hB28
 refine hK _ _ ?_; clear hK K
 refine wpAnyE_done (by kernel_rfl) ?_ _
 refine hK1 _ _ ?_; clear hK1; try clear K1
 refine wp_seq_k (fun K2 hK2 => ?_)
 have ha29 : Has 18 [(2, _), (4, _)] a27 := ha27.only [2, 4]; clear ha27
 refine wp_region_lit ?_
 refine st_y ha29 rfl (y_loadBR ha29 m28 (i := 20) rfl rfl Try.underlying34 rfl sz34rr (by simp) (by dsimp only [List.drop, List.take] <;> rfl)) ?_
 clear ha29 a27; intro a30 ha30
 refine wpList_plain rfl (fun K hK => ?_)
 refine e_storeW ha30 m28 21 rfl rfl rfl rfl rfl sz34rr ?_
 clear m28; intro w31 m31 hB31
 clear hB31
 refine hK _ _ ?_; clear hK K
 refine wpList_nil ?_
 refine hK2 _ _ ?_; clear hK2; try clear K2
 refine wp_ret ?_
 try dsimp only [Exit.then, Exit.inBlock]
 refine (retC (fn := Try.f65) ha30 m31 (i := 21) rfl rfl rfl Try.underlying34 rfl sz34rr ?_)
 have hE : [] ++ ws.map wrD ++ [[D.v (.int .i64 ((ws.length : Int) + 1)), .l 2 (items.map itD)]] = (ws ++ [((ws.length : Int) + 1, items)]).map wrD := by rw [List.map_append]; rfl
 rw [hE] at m31 ⊢
 have m32 := m31.freezeR 22 rfl; clear m31
 exact ⟨_, _, rfl, m32.ren [(1, 1), (2, 2), (3, 3), (4, 4), (7, 22)] (by decide)⟩
end Go.Proofs.Ytocfbocdnklllaa.K
