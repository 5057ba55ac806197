/- volume: State. -/
import Derived.Test.YtocfbocdnklllaaVol6
namespace Go.Proofs.Ytocfbocdnklllaa.K
open Go.ChangeShapes Go.WideShapes Go.ChangeAt Go.RowKit
set_option linter.unusedVariables false
set_option linter.unusedSimpArgs false


theorem sz34sf : (Try.prog.info? 34).map (·.size) = some 11 := by kernel_rfl
theorem sz34st : (Try.prog.info? 34).map (·.size) = some 11 := by kernel_rfl
theorem sz43st : (Try.prog.info? 43).map (·.size) = some 1 := by kernel_rfl
theorem sz55st : (Try.prog.info? 55).map (·.size) = some 2 := by kernel_rfl
theorem sz67st : (Try.prog.info? 67).map (·.size) = some 2 := by kernel_rfl
theorem zc55st : ((Try.prog.info? 55).bind (·.zero)).map (·.cells.toList) = some [.int .i64 0, .slice none 0 0] := by kernel_rfl
theorem zc67st : ((Try.prog.info? 67).bind (·.zero)).map (·.cells.toList) = some [.int .i64 0, .slice none 0 0] := by kernel_rfl

def stStep (L : List (List Int)) (x : Int × List Int) : List (List Int) := if 0 ≤ x.1 ∧ x.1 ≤ (L.length : Int) - 1 then L.set x.1.toNat x.2 else L
def stW (L : List (List Int)) (x : Int × List (Int × List Int)) : List (List Int) := x.2.foldl stStep L
theorem bD_get {L : List (List Int)} {k : Nat} (h : k < L.length) : (L.map bD)[k]? = some [.ns .u8 (L.getD k [])] := by simp [bD, List.getD, h]
theorem stx_yes {L L2 : List (List Int)} {xl : List (Int × List Int)} {j : Nat} {xb : Int} {xd : List Int} (h : xl[j]? = some (xb, xd)) (hL : L2 = (xl.take j).foldl stStep L) (hb : 0 ≤ xb ∧ xb ≤ (L2.length : Int) - 1) : L2.set xb.toNat xd = (xl.take (j + 1)).foldl stStep L := by
 rw [take_snoc h, List.foldl_append, ← hL]; simp only [List.foldl_cons, List.foldl_nil, stStep]; rw [if_pos hb]
theorem stx_no {L L2 : List (List Int)} {xl : List (Int × List Int)} {j : Nat} {xb : Int} {xd : List Int} (h : xl[j]? = some (xb, xd)) (hL : L2 = (xl.take j).foldl stStep L) (hb : ¬ (0 ≤ xb ∧ xb ≤ (L2.length : Int) - 1)) : L2 = (xl.take (j + 1)).foldl stStep L := by
 rw [take_snoc h, List.foldl_append, ← hL]; simp only [List.foldl_cons, List.foldl_nil, stStep]; rw [if_neg hb]
theorem st_snoc {L0 L L2 : List (List Int)} {ws : List (Int × List (Int × List Int))} {k : Nat} {xs : Int} {xl : List (Int × List Int)} (h : ws[k]? = some (xs, xl)) (hL : L = (ws.take k).foldl stW L0) (h2 : L2 = xl.foldl stStep L) : L2 = (ws.take (k + 1)).foldl stW L0 := by
 rw [take_snoc h, List.foldl_append, ← hL]; exact h2
set_option maxRecDepth 100000
set_option maxHeartbeats 4000000
theorem state_future (vo bl sz pe to ne fl : Int) (hi : Bool) (pp pn pw : Option Addr) (np cp nn9 cn9 cw : Nat) (ws : List (Int × List (Int × List Int))) (tt : Int) (w0 : World) (ht0 : fl ≤ tt) (ht : ws.length < tt) :
   Calls Try.prog 31 #[.agg #[.int .i64 vo, .int .i64 bl, .int .i64 sz, .int .i64 pe, .slice pp np cp, .int .i64 to, .int .i64 ne, .bool hi, .int .i64 fl, .slice pn nn9 cn9, .slice pw ws.length cw], .int .i64 tt] w0 fun e w' => e = .returned (.tuple #[.slice none 0 0, .int .i64 31]) ∧ Below w0.heap.size w0 w' := by
 refine enter (fn := Try.f31) Try.func31 rfl Try.ntmps31 rfl (fun a0 ha0 => ?_)
 simp only [List.zipIdx_cons, List.zipIdx_nil, List.map_cons, List.map_nil, Nat.reduceAdd, Nat.zero_add] at ha0
 have m0 := MemOk.start (fun _ => False) w0
 refine wp_seq_k (fun K0 hK0 => ?_)
 refine wp_region_lit ?_
 refine wpList_plain rfl (fun K hK => ?_)
 refine e_box ha0 m0 20 (cs := [_, _, _, _, _, _, _, _, _, _, _]) rfl rfl rfl ?_
 clear ha0 a0 m0; intro g1 a2 w2 ha2 m2 hB2 hg2
 clear hB2 hg2
 refine hK _ _ ?_; clear hK K
 refine st_y ha2 rfl (y_assign ha2 rfl) ?_
 clear ha2 a2; intro a3 ha3
 refine st_y ha3 rfl (y_assign ha3 rfl) ?_
 clear ha3 a3; intro a4 ha4
 refine wpList_nil ?_
 refine hK0 _ _ ?_; clear hK0; try clear K0
 refine wp_seq_k (fun K1 hK1 => ?_)
 refine wp_seq_k (fun K2 hK2 => ?_)
 refine wp_region_lit ?_
 refine st_y ha4 rfl (y_move ha4 rfl) ?_
 clear ha4 a4; intro a5 ha5
 refine st_y ha5 rfl (y_fieldAddr ha5 (off := 8) rfl Try.underlying34 rfl (s := 0) (by kernel_rfl) rfl) ?_
 clear ha5 a5; intro a6 ha6
 refine st_y ha6 rfl (y_loadB1 ha6 m2 (i := 20) rfl rfl rfl Try.underlying2 rfl) ?_
 clear ha6 a6; intro a7 ha7
 refine st_y ha7 rfl (y_lss ha7 rfl rfl) ?_
 clear ha7 a7; intro a8 ha8
 refine wpList_nil ?_
 refine hK2 _ _ ?_; clear hK2; try clear K2
 refine bool_cases ha8 (t := 14) rfl (fun hb9 ha9 => ?_) (fun hb9 ha9 => ?_)
 · exact absurd hb9 (by simp; omega)
 clear ha8 hb9
 refine wp_cond_false (ha9.ev (x := .tmp 14) rfl) ?_
 refine wp_skip ?_
 refine hK1 _ _ ?_; clear hK1; try clear K1
 refine wp_seq_k (fun K3 hK3 => ?_)
 refine wp_seq_k (fun K4 hK4 => ?_)
 refine wp_region_lit ?_
 refine st_y ha9 rfl (y_move ha9 rfl) ?_
 clear ha9 a8; intro a10 ha10
 refine st_y ha10 rfl (y_loadBR ha10 m2 (i := 20) rfl rfl Try.underlying34 rfl sz34sf (by simp) (by dsimp only [List.drop, List.take] <;> rfl)) ?_
 clear ha10 a10; intro a11 ha11
 refine wpList_plain rfl (fun K hK => ?_)
 refine e_call ha11 Try.func20 rfl rfl rfl rfl (vlen_any _ _ _ _ _ _ _ _ _ _ _ _ _ _ _ _ _ _) ?_
 rintro e w12 ⟨rfl, hb12⟩
 have m13 := m2.later hb12
 clear m2
 clear hb12
 refine ⟨_, rfl, fun a14 ha14 => ?_⟩; clear ha11 a11
 refine hK _ _ ?_; clear hK K
 refine st_y ha14 rfl (y_gtr ha14 rfl rfl) ?_
 clear ha14 a14; intro a15 ha15
 refine wpList_nil ?_
 refine hK4 _ _ ?_; clear hK4; try clear K4
 refine bool_cases ha15 (t := 18) rfl (fun hb16 ha16 => ?_) (fun hb16 ha16 => ?_)
 rotate_left
 · exact absurd hb16 (by simp; omega)
 clear ha15 hb16
 refine wp_cond_true (ha16.ev (x := .tmp 18) rfl) ?_
 refine wp_seq_k (fun K5 hK5 => ?_)
 have ha17 : Has 57 [(1, _), (2, _), (4, _), (5, _)] a15 := ha16.only [1, 2, 4, 5]; clear ha16
 refine wp_region_lit ?_
 refine st_y ha17 rfl (y_assign ha17 rfl) ?_
 clear ha17 a15; intro a18 ha18
 refine st_y ha18 rfl (y_assign ha18 rfl) ?_
 clear ha18 a18; intro a19 ha19
 refine wpList_nil ?_
 refine hK5 _ _ ?_; clear hK5; try clear K5
 refine wp_ret ?_
 try dsimp only [Exit.then, Exit.inBlock]
 refine (ret2 (fn := Try.f31) ha19 rfl rfl rfl ?_)
 exact ⟨rfl, m13.below⟩
theorem state_any (vo bl sz pe to ne fl : Int) (hi : Bool) (pp pn pw : Option Addr) (np cp nn9 cn9 cw : Nat) (ws : List (Int × List (Int × List Int))) (tt : Int) (t n z : Nat) (w0 : World) (h2 : Rd (fun _ => True) w0 (.slice pw ws.length cw) (.l 2 (ws.map wrD))) (hl : ws.length ≤ 1000000) (hok : WrsOk ws) (ht0 : fl ≤ tt) (ht1 : tt ≤ ws.length) (ht : max tt 0 = t) (hn : min bl 256 = n) (hz : min (max sz 0) 32 = z) :
   Calls Try.prog 31 #[.agg #[.int .i64 vo, .int .i64 bl, .int .i64 sz, .int .i64 pe, .slice pp np cp, .int .i64 to, .int .i64 ne, .bool hi, .int .i64 fl, .slice pn nn9 cn9, .slice pw ws.length cw], .int .i64 tt] w0 fun e w' => ∃ p c, e = .returned (.tuple #[.slice p (((ws.take t).foldl stW (List.replicate n (List.replicate z 0))).map bD).length c, .int .i64 0]) ∧ Rd (New w0) w' (.slice p (((ws.take t).foldl stW (List.replicate n (List.replicate z 0))).map bD).length c) (.l 1 (((ws.take t).foldl stW (List.replicate n (List.replicate z 0))).map bD)) ∧ Below w0.heap.size w0 w' := by
 refine enter (fn := Try.f31) Try.func31 rfl Try.ntmps31 rfl (fun a0 ha0 => ?_)
 simp only [List.zipIdx_cons, List.zipIdx_nil, List.map_cons, List.map_nil, Nat.reduceAdd, Nat.zero_add] at ha0
 have m0 := MemOk.start (fun _ => False) w0
 have hcap : ws.length ≤ cw := by obtain ⟨pq, cq, hv, hcap⟩ := h2.l_shape; injection hv with _ _ e3; rw [List.length_map] at hcap; omega
 refine wp_seq_k (fun K0 hK0 => ?_)
 refine wp_region_lit ?_
 refine wpList_plain rfl (fun K hK => ?_)
 refine e_box ha0 m0 20 (cs := [_, _, _, _, _, _, _, _, _, _, _]) rfl rfl rfl ?_
 clear ha0 a0 m0; intro g1 a2 w2 ha2 m2 hB2 hg2
 clear hB2 hg2
 refine hK _ _ ?_; clear hK K
 refine st_y ha2 rfl (y_assign ha2 rfl) ?_
 clear ha2 a2; intro a3 ha3
 refine st_y ha3 rfl (y_assign ha3 rfl) ?_
 clear ha3 a3; intro a4 ha4
 refine wpList_nil ?_
 refine hK0 _ _ ?_; clear hK0; try clear K0
 refine wp_seq_k (fun K1 hK1 => ?_)
 refine wp_seq_k (fun K2 hK2 => ?_)
 refine wp_region_lit ?_
 refine st_y ha4 rfl (y_move ha4 rfl) ?_
 clear ha4 a4; intro a5 ha5
 refine st_y ha5 rfl (y_fieldAddr ha5 (off := 8) rfl Try.underlying34 rfl (s := 0) (by kernel_rfl) rfl) ?_
 clear ha5 a5; intro a6 ha6
 refine st_y ha6 rfl (y_loadB1 ha6 m2 (i := 20) rfl rfl rfl Try.underlying2 rfl) ?_
 clear ha6 a6; intro a7 ha7
 refine st_y ha7 rfl (y_lss ha7 rfl rfl) ?_
 clear ha7 a7; intro a8 ha8
 refine wpList_nil ?_
 refine hK2 _ _ ?_; clear hK2; try clear K2
 refine bool_cases ha8 (t := 14) rfl (fun hb9 ha9 => ?_) (fun hb9 ha9 => ?_)
 · exact absurd hb9 (by simp; omega)
 clear ha8 hb9
 refine wp_cond_false (ha9.ev (x := .tmp 14) rfl) ?_
 refine wp_skip ?_
 refine hK1 _ _ ?_; clear hK1; try clear K1
 refine wp_seq_k (fun K3 hK3 => ?_)
 refine wp_seq_k (fun K4 hK4 => ?_)
 refine wp_region_lit ?_
 refine st_y ha9 rfl (y_move ha9 rfl) ?_
 clear ha9 a8; intro a10 ha10
 refine st_y ha10 rfl (y_loadBR ha10 m2 (i := 20) rfl rfl Try.underlying34 rfl sz34st (by simp) (by dsimp only [List.drop, List.take] <;> rfl)) ?_
 clear ha10 a10; intro a11 ha11
 refine wpList_plain rfl (fun K hK => ?_)
 refine e_call ha11 Try.func20 rfl rfl rfl rfl (vlen_any _ _ _ _ _ _ _ _ _ _ _ _ _ _ _ _ _ _) ?_
 rintro e w12 ⟨rfl, hb12⟩
 have m13 := m2.later hb12
 clear m2
 clear hb12
 refine ⟨_, rfl, fun a14 ha14 => ?_⟩; clear ha11 a11
 refine hK _ _ ?_; clear hK K
 refine st_y ha14 rfl (y_gtr ha14 rfl rfl) ?_
 clear ha14 a14; intro a15 ha15
 refine wpList_nil ?_
 refine hK4 _ _ ?_; clear hK4; try clear K4
 refine bool_cases ha15 (t := 18) rfl (fun hb16 ha16 => ?_) (fun hb16 ha16 => ?_)
 · exact absurd hb16 (by simp; omega)
 clear ha15 hb16
 refine wp_cond_false (ha16.ev (x := .tmp 18) rfl) ?_
 refine wp_skip ?_
 refine hK3 _ _ ?_; clear hK3; try clear K3
 refine wp_seq_k (fun K5 hK5 => ?_)
 have ha17 : Has 57 [(1, _), (2, _), (4, _), (5, _)] a15 := ha16.only [1, 2, 4, 5]; clear ha16
 refine wp_region_lit ?_
 refine st_y ha17 rfl (y_fieldAddr ha17 (off := 1) rfl Try.underlying34 rfl (s := 0) (by kernel_rfl) rfl) ?_
 clear ha17 a15; intro a18 ha18
 refine st_y ha18 rfl (y_loadB1 ha18 m13 (i := 20) rfl rfl rfl Try.underlying3 rfl) ?_
 clear ha18 a18; intro a19 ha19
 refine st_y ha19 rfl (y_fieldAddr ha19 (off := 2) rfl Try.underlying34 rfl (s := 0) (by kernel_rfl) rfl) ?_
 clear ha19 a19; intro a20 ha20
 refine st_y ha20 rfl (y_loadB1 ha20 m13 (i := 20) rfl rfl rfl Try.underlying3 rfl) ?_
 clear ha20 a20; intro a21 ha21
 refine wpList_plain rfl (fun K hK => ?_)
 refine e_call ha21 Try.func51 rfl rfl rfl rfl (noughts_any _ _ n z _ hn hz) ?_
 rintro e w22 ⟨p22, c22, rfl, ho22, hb22⟩
 have m23 := m13.callR 21 hb22 (ho22.cast (fun b h => ⟨h.1.elim False.elim .inr, h.2⟩))
 clear m13
 have m24 := m23.rowS 21 rfl
 clear m23
 clear hb22 ho22
 refine ⟨_, rfl, fun a25 ha25 => ?_⟩; clear ha21 a21
 refine hK _ _ ?_; clear hK K
 refine st_y ha25 rfl (y_assign ha25 rfl) ?_
 clear ha25 a25; intro a26 ha26
 refine wpList_nil ?_
 refine hK5 _ _ ?_; clear hK5; try clear K5
 refine wp_seq_k (fun K6 hK6 => ?_)
 refine wp_seq_k (fun K7 hK7 => ?_)
 refine wp_region_lit ?_
 refine st_y ha26 rfl (y_fieldAddr ha26 (off := 10) rfl Try.underlying34 rfl (s := 0) (by kernel_rfl) rfl) ?_
 clear ha26 a26; intro a27 ha27
 refine st_y ha27 rfl (y_loadB1 ha27 m24 (i := 20) rfl rfl rfl Try.underlying32 rfl) ?_
 clear ha27 a27; intro a28 ha28
 refine st_y ha28 rfl (y_move ha28 rfl) ?_
 clear ha28 a28; intro a29 ha29
 refine st_y ha29 rfl (y_max ha29 rfl rfl rfl) ?_
 clear ha29 a29; intro a30 ha30
 refine st_y ha30 rfl (y_sliceHn ha30 t rfl rfl Try.underlying32 sz55st ht (by omega)) ?_
 clear ha30 a30; intro a31 ha31
 refine st_y ha31 rfl (y_len ha31 rfl Try.underlying32) ?_
 clear ha31 a31; intro a32 ha32
 refine st_y ha32 rfl (y_move ha32 rfl) ?_
 clear ha32 a32; intro a33 ha33
 refine wpList_nil ?_
 refine hK7 _ _ ?_; clear hK7; try clear K7
 refine wp_block ?_
 refine wp_loop_ghost (fun g a w => ∃ (k : Nat) (L : List (List Int)) (p : Option Addr) (c : Nat), k ≤ t ∧ g = t - k ∧ L = (ws.take k).foldl stW (List.replicate n (List.replicate z 0)) ∧ L.length = n ∧ Has 57 [(6, .slice p (L.map bD).length c), (28, .slice pw t cw), (29, .int .i64 (t : Int)), (30, .int .i64 k)] a ∧ MemOk (cn w0) w0 [(9, .seg (.slice p (L.map bD).length c) 43 1 (L.map bD))] w) (t) ?_ ?_
 · exact ⟨0, _, _, _, Nat.zero_le _, rfl, rfl, List.length_replicate .., ha33.only [6, 28, 29, 30], m24.ren [(9, 21)] (by decide)⟩
 ·
  clear ha33 m24
  rintro g a34 w34 ⟨k, L, p, c, hkl, hg, hL, hLn, ha34, m34⟩
  refine wp_seq_k (fun K8 hK8 => ?_)
  refine wp_region_lit ?_
  refine st_y ha34 rfl (y_lss ha34 rfl rfl) ?_
  clear ha34 a34; intro a35 ha35
  refine wpList_nil ?_
  refine hK8 _ _ ?_; clear hK8; try clear K8
  refine wp_seq_k (fun K9 hK9 => ?_)
  refine bool_cases ha35 (t := 31) rfl (fun hb36 ha36 => ?_) (fun hb36 ha36 => ?_)
  ·
   clear ha35
   try simp only [Q1x, Q2x, Q3x, Q4x, Q5x, Q6x, Q7x, Q8x, Q9x, Q0x, Qax, Qbx] at hb36
   have hk : k < ws.length := by omega
   obtain ⟨⟨xs, xl⟩, hes⟩ : ∃ e, ws[k]? = some e := ⟨_, List.getElem?_eq_getElem hk⟩
   have hok2 := hok _ (List.mem_of_getElem? hes)
   dsimp only at hok2
   refine wp_cond_true (ha36.ev (x := .tmp 31) rfl) ?_
   refine wp_skip ?_
   refine hK9 _ _ ?_; clear hK9; try clear K9
   refine wp_seq_k (fun K10 hK10 => ?_)
   refine wp_block ?_
   refine wp_seq_k (fun K11 hK11 => ?_)
   refine wp_region_lit ?_
   obtain ⟨gx37, ox37, vx37, hp37, hl37, hR37, hrg37⟩ := h2.extA (k) (r := [.v (.int .i64 xs), .l 2 (xl.map itD)]) (wrD_get hes)
   cases hp37; clear hl37
   rcases hR37 with _ | ⟨hd37_0, _ | ⟨hd37_1, _ | _⟩⟩
   obtain rfl := hd37_0.v_out
   clear hd37_0
   obtain ⟨p38, c38, hv38, hw38⟩ := hd37_1.l_shape; subst hv38
   refine st_y ha36 rfl (y_idx ha36 rfl rfl Try.underlying32 sz55st (k) rfl (by omega)) ?_
   clear ha36 a35; intro a39 ha39
   refine st_y ha39 rfl (y_loadAt ha39 (hrg37 m34 rfl) rfl Try.underlying55 rfl sz55st) ?_
   clear ha39 a39; intro a40 ha40
   refine wpList_plain rfl (fun K hK => ?_)
   refine e_alloc ha40 m34 101 zc55st rfl ?_
   clear ha40 a40 m34; intro g41 a42 w42 ha42 m42 hB42 hg42
   clear hB42 hg42
   refine hK _ _ ?_; clear hK K
   refine wpList_plain rfl (fun K hK => ?_)
   refine e_storeW ha42 m42 101 rfl rfl rfl rfl rfl sz55st ?_
   clear m42; intro w43 m43 hB43
   clear hB43
   refine hK _ _ ?_; clear hK K
   refine wpList_nil ?_
   refine hK11 _ _ ?_; clear hK11; try clear K11
   refine wp_seq_k (fun K12 hK12 => ?_)
   refine wp_region_lit ?_
   refine st_y ha42 rfl (y_fieldAddr ha42 (off := 1) rfl Try.underlying55 rfl (s := 0) (by kernel_rfl) rfl) ?_
   clear ha42 a42; intro a44 ha44
   refine st_y ha44 rfl (y_loadB1 ha44 m43 (i := 101) rfl rfl rfl Try.underlying23 rfl) ?_
   clear ha44 a44; intro a45 ha45
   refine st_y ha45 rfl (y_len ha45 rfl Try.underlying23) ?_
   clear ha45 a45; intro a46 ha46
   refine st_y ha46 rfl (y_move ha46 rfl) ?_
   clear ha46 a46; intro a47 ha47
   refine wpList_nil ?_
   refine hK12 _ _ ?_; clear hK12; try clear K12
   refine wp_block ?_
   refine wp_loop_ghost (fun g a w => ∃ (j : Nat) (L2 : List (List Int)) (p : Option Addr) (c : Nat), j ≤ xl.length ∧ g = xl.length - j ∧ L2 = (xl.take j).foldl stStep L ∧ L2.length = n ∧ Has 57 [(6, .slice p (L2.map bD).length c), (28, .slice (some ⟨gx37, ox37, none⟩) t cw), (29, .int .i64 (t : Int)), (30, .int .i64 k), (35, .slice p38 (xl.map itD).length c38), (36, .int .i64 ((xl.map itD).length : Nat)), (37, .int .i64 j)] a ∧ MemOk (cn w0) w0 [(9, .seg (.slice p (L2.map bD).length c) 43 1 (L2.map bD))] w) (xl.length) ?_ ?_
   · exact ⟨0, L, _, _, Nat.zero_le _, rfl, rfl, hLn, ha47.only [6, 28, 29, 30, 35, 36, 37], m43.only [9]⟩
   ·
    clear ha47 m43
    rintro g a48 w48 ⟨j, L2, p, c, hjl, hg2, hL2, hL2n, ha48, m48⟩
    refine wp_seq_k (fun K13 hK13 => ?_)
    refine wp_region_lit ?_
    refine st_y ha48 rfl (y_lss ha48 rfl rfl) ?_
    clear ha48 a48; intro a49 ha49
    refine wpList_nil ?_
    refine hK13 _ _ ?_; clear hK13; try clear K13
    refine wp_seq_k (fun K14 hK14 => ?_)
    refine bool_cases ha49 (t := 38) rfl (fun hb50 ha50 => ?_) (fun hb50 ha50 => ?_)
    ·
     clear ha49
     try simp only [Q1x, Q2x, Q3x, Q4x, Q5x, Q6x, Q7x, Q8x, Q9x, Q0x, Qax, Qbx] at hb50
     rw [List.length_map] at hb50
     have hj : j < xl.length := by omega
     obtain ⟨⟨xb, xd⟩, hxs⟩ : ∃ e, xl[j]? = some e := ⟨_, List.getElem?_eq_getElem hj⟩
     have hed := hok2.2 _ (List.mem_of_getElem? hxs)
     dsimp only at hed
     refine wp_cond_true (ha50.ev (x := .tmp 38) rfl) ?_
     refine wp_skip ?_
     refine hK14 _ _ ?_; clear hK14; try clear K14
     refine wp_seq_k (fun K15 hK15 => ?_)
     refine wp_block ?_
     refine wp_seq_k (fun K16 hK16 => ?_)
     refine wp_region_lit ?_
     obtain ⟨gx51, ox51, vx51, hp51, hl51, hR51, hrg51⟩ := hd37_1.extA (j) (r := [.v (.int .i64 xb), .ns .u8 xd]) (itD_get hxs)
     cases hp51; clear hl51
     rcases hR51 with _ | ⟨hd51_0, _ | ⟨hd51_1, _ | _⟩⟩
     obtain rfl := hd51_0.v_out
     clear hd51_0
     obtain ⟨p52, c52, hv52, hw52⟩ := hd51_1.ns_shape; subst hv52
     refine st_y ha50 rfl (y_idx ha50 rfl rfl Try.underlying23 sz67st (j) rfl (by rw [List.length_map]; omega)) ?_
     clear ha50 a49; intro a53 ha53
     refine st_y ha53 rfl (y_loadAt ha53 (hrg51 m48 rfl) rfl Try.underlying67 rfl sz67st) ?_
     clear ha53 a53; intro a54 ha54
     refine wpList_plain rfl (fun K hK => ?_)
     refine e_alloc ha54 m48 201 zc67st rfl ?_
     clear ha54 a54 m48; intro g55 a56 w56 ha56 m56 hB56 hg56
     clear hB56 hg56
     refine hK _ _ ?_; clear hK K
     refine wpList_plain rfl (fun K hK => ?_)
     refine e_storeW ha56 m56 201 rfl rfl rfl rfl rfl sz67st ?_
     clear m56; intro w57 m57 hB57
     clear hB57
     refine hK _ _ ?_; clear hK K
     refine wpList_nil ?_
     refine hK16 _ _ ?_; clear hK16; try clear K16
     refine wp_seq_k (fun K17 hK17 => ?_)
     refine wp_region_lit ?_
     refine st_y ha56 rfl (y_fieldAddr ha56 (off := 0) rfl Try.underlying67 rfl (s := 0) (by kernel_rfl) rfl) ?_
     clear ha56 a56; intro a58 ha58
     refine st_y ha58 rfl (y_loadB1 ha58 m57 (i := 201) rfl rfl rfl Try.underlying3 rfl) ?_
     clear ha58 a58; intro a59 ha59
     refine st_y ha59 rfl (y_move ha59 rfl) ?_
     clear ha59 a59; intro a60 ha60
     refine st_y ha60 rfl (y_len ha60 rfl Try.underlying62) ?_
     clear ha60 a60; intro a61 ha61
     refine st_y ha61 rfl (y_sub ha61 rfl rfl (r := (L2.length : Int) - 1) (by rw [List.length_map]; exact IntWalk.i64_in _ (by omega))) ?_
     clear ha61 a61; intro a62 ha62
     refine wpList_plain rfl (fun K hK => ?_)
     refine e_call ha62 Try.func35 rfl rfl rfl rfl (within_any _ _ _ _) ?_
     rintro e w63 ⟨rfl, hb63⟩
     have m64 := m57.later hb63
     clear m57
     clear hb63
     refine ⟨_, rfl, fun a65 ha65 => ?_⟩; clear ha62 a62
     refine hK _ _ ?_; clear hK K
     refine wpList_nil ?_
     refine hK17 _ _ ?_; clear hK17; try clear K17
     refine bool_cases ha65 (t := 46) rfl (fun hb66 ha66 => ?_) (fun hb66 ha66 => ?_)
     ·
      clear ha65
      try simp only [Q1x, Q2x, Q3x, Q4x, Q5x, Q6x, Q7x, Q8x, Q9x, Q0x, Qax, Qbx] at hb66
      refine wp_cond_true (ha66.ev (x := .tmp 46) rfl) ?_
      have ha67 : Has 57 [(6, _), (28, _), (29, _), (30, _), (35, _), (36, _), (37, _), (10, _), (46, _)] a65 := ha66.only [6, 28, 29, 30, 35, 36, 37, 10, 46]; clear ha66
      obtain ⟨gs68, os68, vs68, hp68, hl68, hR68, hrg68⟩ := m64.openS (i := 9) rfl (xb.toNat) (r := [.ns .u8 (L2.getD xb.toNat [])]) (bD_get (by omega))
      cases hp68; clear hl68 hR68 hrg68 vs68
      have m69 : MemOk _ _ [(9, _), (201, _)] _ := m64.only [9, 201]; clear m64
      refine region_m 8 (B := [(201, _)]) (m69.to ⟨il, trivial⟩) m69 (by kernel_rfl) (fun w70 mB70 m70 => ?_); clear m69 mB70
      refine dyn 0 ha67 rfl rfl (m70.to ⟨il, trivial⟩) (fun W => y_move ha67 rfl) ?_
      clear ha67 a65; intro a71 ha71
      refine dyn 1 ha71 rfl rfl (m70.to ⟨il, trivial⟩) (fun W => y_fieldAddr ha71 (off := 0) rfl Try.underlying67 rfl (s := 0) (by kernel_rfl) rfl) ?_
      clear ha71 a71; intro a72 ha72
      refine dh 2 ha72 rfl rfl (m70.to ⟨il, trivial⟩) (fun W hW => y_loadB1 ha72 hW (i := 201) rfl rfl rfl Try.underlying3 rfl) ?_
      clear ha72 a72; intro a73 ha73
      refine dyn 3 ha73 rfl rfl (m70.to ⟨il, trivial⟩) (fun W => y_fieldAddr ha73 (off := 1) rfl Try.underlying67 rfl (s := 0) (by kernel_rfl) rfl) ?_
      clear ha73 a73; intro a74 ha74
      refine dh 4 ha74 rfl rfl (m70.to ⟨il, trivial⟩) (fun W hW => y_loadB1 ha74 hW (i := 201) rfl rfl rfl Try.underlying43 rfl) ?_
      clear ha74 a74; intro a75 ha75
      refine stepE_only 5 rfl (by kernel_rfl) rfl (fun K hK => ?_)
      refine e_call ha75 Try.func52 rfl rfl rfl rfl (plainB_any xd _ _ _ ((hd51_1.now' m70 rfl).any) hed) ?_
      rintro e w76 ⟨p76, c76, rfl, hd76, hb76⟩
      have m77 := m70.callF 202 rfl hb76 hd76
      clear m70
      clear hb76 hd76
      refine ⟨_, rfl, fun a78 ha78 => ?_⟩; clear ha75 a75
      refine hK _ _ (m77.to ⟨il, trivial⟩) ?_; clear hK K
      refine dyn 6 ha78 rfl rfl (m77.to ⟨il, trivial⟩) (fun W => y_idx ha78 rfl rfl Try.underlying62 sz43st (xb.toNat) (Int.toNat_of_nonneg (by omega)).symm (by rw [List.length_map]; omega)) ?_
      clear ha78 a78; intro a79 ha79
      refine stepE_only 7 rfl (by kernel_rfl) rfl (fun K hK => ?_)
      refine e_storeSD ha79 m77 9 rfl (xb.toNat) (r := [.ns .u8 (L2.getD xb.toNat [])]) (bD_get (by omega)) (q := 0) rfl rfl rfl rfl rfl sz43st (m77.rd (i := 202) rfl) ?_
      clear m77; intro w80 m80
      refine hK _ _ (m80.to ⟨il, trivial⟩) ?_; clear hK K
      have hset : (L2.map bD).set xb.toNat ([D.ns .u8 (L2.getD xb.toNat [])].set 0 (D.ns .u8 xd)) = (L2.set xb.toNat xd).map bD := by rw [List.map_set]; rfl
      rw [hset] at m80
      rw [show (List.map bD L2).length = (List.map bD (L2.set xb.toNat xd)).length from by simp] at ha79 m80
      refine wpAnyE_done (by kernel_rfl) ?_ _
      refine hK15 _ _ ?_; clear hK15; try clear K15
      have ha81 : Has 57 [(6, _), (28, _), (29, _), (30, _), (35, _), (36, _), (37, _), (46, _)] a79 := ha79.only [6, 28, 29, 30, 35, 36, 37, 46]; clear ha79
      refine wp_region_lit ?_
      refine st_y ha81 rfl (y_add ha81 rfl rfl (r := ((j + 1 : Nat) : Int)) (by rw [IntWalk.i64_in _ (by omega)]; omega)) ?_
      clear ha81 a79; intro a82 ha82
      refine st_y ha82 rfl (y_move ha82 rfl) ?_
      clear ha82 a82; intro a83 ha83
      refine wpList_nil ?_
      show ∃ n', n' < _ ∧ _
      exact ⟨xl.length - (j + 1), by omega, j + 1, L2.set xb.toNat xd, _, _, by omega, rfl, stx_yes hxs hL2 (by omega), by rw [List.length_set]; exact hL2n, ha83.only [6, 28, 29, 30, 35, 36, 37], m80.only [9]⟩
     ·
      clear ha65
      try simp only [Q1x, Q2x, Q3x, Q4x, Q5x, Q6x, Q7x, Q8x, Q9x, Q0x, Qax, Qbx] at hb66
      refine wp_cond_false (ha66.ev (x := .tmp 46) rfl) ?_
      refine wp_skip ?_
      refine hK15 _ _ ?_; clear hK15; try clear K15
      have ha84 : Has 57 [(6, _), (28, _), (29, _), (30, _), (35, _), (36, _), (37, _), (46, _)] a65 := ha66.only [6, 28, 29, 30, 35, 36, 37, 46]; clear ha66
      refine wp_region_lit ?_
      refine st_y ha84 rfl (y_add ha84 rfl rfl (r := ((j + 1 : Nat) : Int)) (by rw [IntWalk.i64_in _ (by omega)]; omega)) ?_
      clear ha84 a65; intro a85 ha85
      refine st_y ha85 rfl (y_move ha85 rfl) ?_
      clear ha85 a85; intro a86 ha86
      refine wpList_nil ?_
      show ∃ n', n' < _ ∧ _
      exact ⟨xl.length - (j + 1), by omega, j + 1, L2, _, _, by omega, rfl, stx_no hxs hL2 (by omega), hL2n, ha86.only [6, 28, 29, 30, 35, 36, 37], m64.only [9]⟩
    ·
     clear ha49
     try simp only [Q1x, Q2x, Q3x, Q4x, Q5x, Q6x, Q7x, Q8x, Q9x, Q0x, Qax, Qbx] at hb50
     rw [List.length_map] at hb50
     obtain rfl : j = xl.length := by omega
     rw [List.take_length] at hL2
     refine wp_cond_false (ha50.ev (x := .tmp 38) rfl) ?_
     refine wp_exit ?_
     refine hK10 _ _ ?_; clear hK10; try clear K10
     refine wp_region_lit ?_
     refine st_y ha50 rfl (y_add ha50 rfl rfl (r := ((k + 1 : Nat) : Int)) (by rw [IntWalk.i64_in _ (by omega)]; omega)) ?_
     clear ha50 a49; intro a87 ha87
     refine st_y ha87 rfl (y_move ha87 rfl) ?_
     clear ha87 a87; intro a88 ha88
     refine wpList_nil ?_
     show ∃ n', n' < _ ∧ _
     exact ⟨t - (k + 1), by omega, k + 1, L2, _, _, by omega, rfl, (st_snoc hes hL hL2), hL2n, ha88.only [6, 28, 29, 30], m48.only [9]⟩
  ·
   clear ha35
   try simp only [Q1x, Q2x, Q3x, Q4x, Q5x, Q6x, Q7x, Q8x, Q9x, Q0x, Qax, Qbx] at hb36
   obtain rfl : k = t := by omega
   refine wp_cond_false (ha36.ev (x := .tmp 31) rfl) ?_
   refine wp_exit ?_
   refine hK6 _ _ ?_; clear hK6; try clear K6
   refine wp_seq_k (fun K18 hK18 => ?_)
   refine wp_region_lit ?_
   refine st_y ha36 rfl (y_move ha36 rfl) ?_
   clear ha36 a35; intro a89 ha89
   refine st_y ha89 rfl (y_assign ha89 rfl) ?_
   clear ha89 a89; intro a90 ha90
   refine st_y ha90 rfl (y_assign ha90 rfl) ?_
   clear ha90 a90; intro a91 ha91
   refine wpList_nil ?_
   refine hK18 _ _ ?_; clear hK18; try clear K18
   refine wp_ret ?_
   try dsimp only [Exit.then, Exit.inBlock]
   refine (ret2 (fn := Try.f31) ha91 rfl rfl rfl ?_)
   have mf := m34.freezeS 9 rfl (by simp [cx])
   exact ⟨_, _, by rw [← hL], by rw [← hL]; exact mf.outF (i := 9) rfl, m34.below⟩
end Go.Proofs.Ytocfbocdnklllaa.K
