/- volume: Push. -/
import Derived.Test.YtocfbocdnklllaaVol7
namespace Go.Proofs.Ytocfbocdnklllaa.K
open Go.ChangeShapes Go.WideShapes Go.ChangeAt Go.RowKit
set_option linter.unusedVariables false
set_option linter.unusedSimpArgs false

theorem fl55pu : flatS Try.prog 55 [.int .i64 0, .slice none 0 0] = true := by kernel_rfl
theorem fl73pu : flatS Try.prog 73 [.int .i64 0, .int .i64 0, .int .i64 0, .int .i64 0, .int .i64 0, .int .i64 0, .int .i64 0, .slice none 0 0] = true := by kernel_rfl
theorem inf55pu : (Try.prog.info? 55).map (fun i => (i.zero, i.size, i.bytes)) = some (some (.agg #[.int .i64 0, .slice none 0 0]), 2, 32) := by kernel_rfl
theorem sz2pu : (Try.prog.info? 2).map (·.size) = some 1 := by kernel_rfl
theorem sz3pu : (Try.prog.info? 3).map (·.size) = some 1 := by kernel_rfl
theorem sz32pu : (Try.prog.info? 32).map (·.size) = some 1 := by kernel_rfl
theorem sz34pu : (Try.prog.info? 34).map (·.size) = some 11 := by kernel_rfl
theorem sz55pu : (Try.prog.info? 55).map (·.size) = some 2 := by kernel_rfl
theorem sz73pu : (Try.prog.info? 73).map (·.size) = some 8 := by kernel_rfl
theorem zc55pu : ((Try.prog.info? 55).bind (·.zero)).map (·.cells.toList) = some [.int .i64 0, .slice none 0 0] := by kernel_rfl
theorem zc73pu : ((Try.prog.info? 73).bind (·.zero)).map (·.cells.toList) = some [.int .i64 0, .int .i64 0, .int .i64 0, .int .i64 0, .int .i64 0, .int .i64 0, .int .i64 0, .slice none 0 0] := by kernel_rfl

def pushL (fi cnt : Int) (W : List (Int × List (Int × List Int))) : List (Int × List (Int × List Int)) := (W.map (fun w => (w.1, itemsL fi cnt w.2))).filter (fun w => decide (0 < w.2.length))
theorem push_yes {fi cnt : Int} {W : List (Int × List (Int × List Int))} {k : Nat} {xs : Int} {xl : List (Int × List Int)} (h : W[k]? = some (xs, xl)) (hb : 0 < (itemsL fi cnt xl).length) : pushL fi cnt (W.take (k + 1)) = pushL fi cnt (W.take k) ++ [(xs, itemsL fi cnt xl)] := by
 unfold pushL
 rw [take_snoc h, List.map_append, List.filter_append]
 simp [hb]
theorem push_no {fi cnt : Int} {W : List (Int × List (Int × List Int))} {k : Nat} {xs : Int} {xl : List (Int × List Int)} (h : W[k]? = some (xs, xl)) (hb : ¬ 0 < (itemsL fi cnt xl).length) : pushL fi cnt (W.take (k + 1)) = pushL fi cnt (W.take k) := by
 unfold pushL
 rw [take_snoc h, List.map_append, List.filter_append]
 simp; simpa using hb
theorem push_len (fi cnt : Int) (W : List (Int × List (Int × List Int))) : (pushL fi cnt W).length ≤ W.length := by
 unfold pushL; exact Nat.le_trans (List.length_filter_le _ _) (by simp)
section
variable {P : Program} {n : Nat} {T : List (Nat × Value)} {a : Act} {w : World} {d : Option Tmp} {tt : TypeId} {pos : String} {af : Array Edge} {gd : Option (Nat × Bool)}
theorem y_sliceLHn (h : Has n T a) {t e : TypeId} {x y z : Operand} {p p2 : Option Addr} {l c c2 l2 : Nat} {k k2 : IntKind} {q r : Int} (i j : Nat) (hx : evT T x = some (.slice p l c)) (hy : evT T y = some (.int k q)) (hz : evT T z = some (.int k2 r)) (hu : P.underlying t = some (.slice e)) {s : Nat} (hs : (P.info? e).map (·.size) = some s) (hq : q = i) (hr : r = j) (h1 : i ≤ j) (h2 : j ≤ c) (hp : (if c = i then p else p.map (·.add (i * s))) = p2) (hc : c - i = c2) (hl : j - i = l2) : Yl P a w ⟨d, .slice t x (some y) (some z) none, tt, pos, af, gd⟩ (.slice p2 l2 c2) := by
 subst hq; subst hr; subst hc; subst hl; rw [← hp]
 have := y_sliceLH (P := P) (w := w) (tt := tt) (pos := pos) (af := af) (gd := gd) (d := d) h hx hy hz hu hs (by omega) (by omega) (by omega)
 rwa [Int.toNat_natCast, Int.toNat_natCast] at this
end
set_option maxRecDepth 100000
set_option maxHeartbeats 4000000
theorem push_any (vo bl sz pe to ne fl : Int) (hi : Bool) (pp pn pw : Option Addr) (cp nn9 cn9 cw : Nat) (place : List Int) (ws : List (Int × List (Int × List Int))) (ch fi cnt : Int) (mk tq : Nat) (w0 : World) (h2 : Rd (fun _ => True) w0 (.slice pw ws.length cw) (.l 2 (ws.map wrD))) (hl : ws.length ≤ 1000000) (hpl : place.length ≤ 1000000) (hok : WrsOk ws) (hch : 0 ≤ ch ∧ ch < place.length) (hmk : mk ≤ ws.length) (hfi : ch * pe = fi) (hfb : 0 ≤ fi ∧ fi ≤ 1000000) (hcnt : (ch = place.length - 1 → bl - fi = cnt) ∧ (ch ≠ place.length - 1 → cnt = pe)) (hcb : 0 ≤ cnt ∧ cnt ≤ 1000000) (htq : min ((mk : Int) + 4) ws.length = tq) :
   Calls Try.prog 34 #[.agg #[.int .i64 vo, .int .i64 bl, .int .i64 sz, .int .i64 pe, .slice pp place.length cp, .int .i64 to, .int .i64 ne, .bool hi, .int .i64 fl, .slice pn nn9 cn9, .slice pw ws.length cw], .int .i64 ch, .int .i64 (mk : Int)] w0 fun e w' => ∃ p c, e = .returned (.tuple #[.agg #[.int .i64 vo, .int .i64 ch, .int .i64 cnt, .int .i64 sz, .int .i64 (mk : Int), .int .i64 (tq : Int), .int .i64 (min fl tq), .slice p ((pushL fi cnt ((ws.take tq).drop mk)).map wrD).length c], .bool true]) ∧ Rd (New w0) w' (.slice p ((pushL fi cnt ((ws.take tq).drop mk)).map wrD).length c) (.l 2 ((pushL fi cnt ((ws.take tq).drop mk)).map wrD)) ∧ Below w0.heap.size w0 w' := by
 refine enter (fn := Try.f34) Try.func34 rfl Try.ntmps34 rfl (fun a0 ha0 => ?_)
 simp only [List.zipIdx_cons, List.zipIdx_nil, List.map_cons, List.map_nil, Nat.reduceAdd, Nat.zero_add] at ha0
 have m0 := MemOk.start (fun _ => False) w0
 have hcap : ws.length ≤ cw := by obtain ⟨pq, cq, hv, hcap⟩ := h2.l_shape; injection hv with _ _ e3; rw [List.length_map] at hcap; omega
 refine wp_seq_k (fun K0 hK0 => ?_)
 refine wp_region_lit ?_
 refine wpList_plain rfl (fun K hK => ?_)
 refine e_box ha0 m0 20 (cs := [_, _, _, _, _, _, _, _, _, _, _]) rfl rfl rfl ?_
 clear ha0 a0 m0; intro g1 a2 w2 ha2 m2 hB2 hg2
 clear hB2 hg2
 refine hK _ _ ?_; clear hK K
 refine wpList_plain rfl (fun K hK => ?_)
 refine e_alloc ha2 m2 21 zc73pu rfl ?_
 clear ha2 a2 m2; intro g3 a4 w4 ha4 m4 hB4 hg4
 clear hB4 hg4
 refine hK _ _ ?_; clear hK K
 refine st_y ha4 rfl (y_assign ha4 rfl) ?_
 clear ha4 a4; intro a5 ha5
 refine wpList_nil ?_
 refine hK0 _ _ ?_; clear hK0; try clear K0
 refine wp_seq_k (fun K1 hK1 => ?_)
 refine wp_seq_k (fun K2 hK2 => ?_)
 refine wp_region_lit ?_
 refine st_y ha5 rfl (y_move ha5 rfl) ?_
 clear ha5 a5; intro a6 ha6
 refine st_y ha6 rfl (y_lss ha6 rfl rfl) ?_
 clear ha6 a6; intro a7 ha7
 refine st_y ha7 rfl (y_move ha7 rfl) ?_
 clear ha7 a7; intro a8 ha8
 refine bool_cases ha8 (t := 15) rfl (fun hb9 ha9 => ?_) (fun hb9 ha9 => ?_)
 · exact absurd hb9 (by first | (simp; done) | (simp; omega))
 clear ha8 hb9
 refine st_g ha9 rfl rfl rfl rfl (y_move ha9 rfl) ?_
 clear ha9 a8; intro a10 ha10
 refine st_g ha10 rfl rfl rfl rfl (y_fieldAddr ha10 (off := 4) rfl Try.underlying34 rfl (s := 0) (by kernel_rfl) rfl) ?_
 clear ha10 a10; intro a11 ha11
 refine st_g ha11 rfl rfl rfl rfl (y_loadB1 ha11 m4 (i := 20) rfl rfl rfl Try.underlying22 rfl) ?_
 clear ha11 a11; intro a12 ha12
 refine st_g ha12 rfl rfl rfl rfl (y_len ha12 rfl Try.underlying22) ?_
 clear ha12 a12; intro a13 ha13
 refine st_g ha13 rfl rfl rfl rfl (y_geq ha13 rfl rfl) ?_
 clear ha13 a13; intro a14 ha14
 refine st_y ha14 rfl (y_pickF ha14 rfl rfl) ?_
 clear ha14 a14; intro a15 ha15
 refine st_y ha15 rfl (y_move ha15 rfl) ?_
 clear ha15 a15; intro a16 ha16
 refine bool_cases ha16 (t := 22) rfl (fun hb17 ha17 => ?_) (fun hb17 ha17 => ?_)
 · exact absurd hb17 (by first | (simp; done) | (simp; omega))
 clear ha16 hb17
 refine st_g ha17 rfl rfl rfl rfl (y_move ha17 rfl) ?_
 clear ha17 a16; intro a18 ha18
 refine st_g ha18 rfl rfl rfl rfl (y_lss ha18 rfl rfl) ?_
 clear ha18 a18; intro a19 ha19
 refine st_y ha19 rfl (y_pickF ha19 rfl rfl) ?_
 clear ha19 a19; intro a20 ha20
 refine st_y ha20 rfl (y_move ha20 rfl) ?_
 clear ha20 a20; intro a21 ha21
 refine bool_cases ha21 (t := 26) rfl (fun hb22 ha22 => ?_) (fun hb22 ha22 => ?_)
 · exact absurd hb22 (by first | (simp; done) | (simp; omega))
 clear ha21 hb22
 refine st_g ha22 rfl rfl rfl rfl (y_move ha22 rfl) ?_
 clear ha22 a21; intro a23 ha23
 refine st_g ha23 rfl rfl rfl rfl (y_loadBR ha23 m4 (i := 20) rfl rfl Try.underlying34 rfl sz34pu (by simp) (by dsimp only [List.drop, List.take] <;> rfl)) ?_
 clear ha23 a23; intro a24 ha24
 refine st_ge ha24 rfl rfl rfl rfl (fun K hK => ?_)
 refine e_call ha24 Try.func20 rfl rfl rfl rfl (vlen_any _ _ _ _ _ _ _ _ _ _ _ _ _ _ _ _ _ _) ?_
 rintro e w25 ⟨rfl, hb25⟩
 have m26 := m4.later hb25
 clear m4
 clear hb25
 refine ⟨_, rfl, fun a27 ha27 => ?_⟩; clear ha24 a24
 refine hK _ _ ?_; clear hK K
 refine st_g ha27 rfl rfl rfl rfl (y_gtr ha27 rfl rfl) ?_
 clear ha27 a27; intro a28 ha28
 refine st_y ha28 rfl (y_pickF ha28 rfl rfl) ?_
 clear ha28 a28; intro a29 ha29
 refine wpList_nil ?_
 refine hK2 _ _ ?_; clear hK2; try clear K2
 refine bool_cases ha29 (t := 31) rfl (fun hb30 ha30 => ?_) (fun hb30 ha30 => ?_)
 · exact absurd hb30 (by first | (simp; done) | (simp; omega))
 clear ha29 hb30
 refine wp_cond_false (ha30.ev (x := .tmp 31) rfl) ?_
 refine wp_skip ?_
 refine hK1 _ _ ?_; clear hK1; try clear K1
 refine wp_seq_k (fun K3 hK3 => ?_)
 have ha31 : Has 98 [(1, _), (2, _), (3, _), (6, _), (7, _)] a29 := ha30.only [1, 2, 3, 6, 7]; clear ha30
 refine wp_region_lit ?_
 refine st_y ha31 rfl (y_move ha31 rfl) ?_
 clear ha31 a29; intro a32 ha32
 refine st_y ha32 rfl (y_fieldAddr ha32 (off := 3) rfl Try.underlying34 rfl (s := 0) (by kernel_rfl) rfl) ?_
 clear ha32 a32; intro a33 ha33
 refine st_y ha33 rfl (y_loadB1 ha33 m26 (i := 20) rfl rfl rfl Try.underlying3 rfl) ?_
 clear ha33 a33; intro a34 ha34
 refine st_y ha34 rfl (y_mul ha34 rfl rfl (r := fi) (by rw [hfi]; exact IntWalk.i64_in _ (by omega))) ?_
 clear ha34 a34; intro a35 ha35
 refine st_y ha35 rfl (y_assign ha35 rfl) ?_
 clear ha35 a35; intro a36 ha36
 refine wpList_nil ?_
 refine hK3 _ _ ?_; clear hK3; try clear K3
 refine wp_seq_k (fun K4 hK4 => ?_)
 have m37 : MemOk _ _ [(20, _), (21, _)] _ := m26.only [20, 21]; clear m26
 refine region_m 16 (B := [(20, _)]) (m37.to ⟨il, trivial⟩) m37 (by kernel_rfl) (fun w38 mB38 m38 => ?_); clear m37 mB38
 refine dyn 0 ha36 rfl rfl (m38.to ⟨il, trivial⟩) (fun W => y_fieldAddr ha36 (off := 0) rfl Try.underlying34 rfl (s := 0) (by kernel_rfl) rfl) ?_
 clear ha36 a36; intro a39 ha39
 refine dh 1 ha39 rfl rfl (m38.to ⟨il, trivial⟩) (fun W hW => y_loadB1 ha39 hW (i := 20) rfl rfl rfl Try.underlying3 rfl) ?_
 clear ha39 a39; intro a40 ha40
 refine dyn 2 ha40 rfl rfl (m38.to ⟨il, trivial⟩) (fun W => y_move ha40 rfl) ?_
 clear ha40 a40; intro a41 ha41
 refine dyn 3 ha41 rfl rfl (m38.to ⟨il, trivial⟩) (fun W => y_fieldAddr ha41 (off := 3) rfl Try.underlying34 rfl (s := 0) (by kernel_rfl) rfl) ?_
 clear ha41 a41; intro a42 ha42
 refine dh 4 ha42 rfl rfl (m38.to ⟨il, trivial⟩) (fun W hW => y_loadB1 ha42 hW (i := 20) rfl rfl rfl Try.underlying3 rfl) ?_
 clear ha42 a42; intro a43 ha43
 refine dyn 5 ha43 rfl rfl (m38.to ⟨il, trivial⟩) (fun W => y_fieldAddr ha43 (off := 2) rfl Try.underlying34 rfl (s := 0) (by kernel_rfl) rfl) ?_
 clear ha43 a43; intro a44 ha44
 refine dh 6 ha44 rfl rfl (m38.to ⟨il, trivial⟩) (fun W hW => y_loadB1 ha44 hW (i := 20) rfl rfl rfl Try.underlying3 rfl) ?_
 clear ha44 a44; intro a45 ha45
 refine dyn 7 ha45 rfl rfl (m38.to ⟨il, trivial⟩) (fun W => y_move ha45 rfl) ?_
 clear ha45 a45; intro a46 ha46
 refine dyn 8 ha46 rfl rfl (m38.to ⟨il, trivial⟩) (fun W => y_move ha46 rfl) ?_
 clear ha46 a46; intro a47 ha47
 refine dyn 9 ha47 rfl rfl (m38.to ⟨il, trivial⟩) (fun W => y_add ha47 rfl rfl (r := (mk : Int) + 4) (IntWalk.i64_in _ (by omega))) ?_
 clear ha47 a47; intro a48 ha48
 refine dh 10 ha48 rfl rfl (m38.to ⟨il, trivial⟩) (fun W hW => y_loadBR ha48 hW (i := 20) rfl rfl Try.underlying34 rfl sz34pu (by simp) (by dsimp only [List.drop, List.take] <;> rfl)) ?_
 clear ha48 a48; intro a49 ha49
 refine d_two 11 14 rfl rfl (by kernel_rfl) rfl rfl (fun K hK => ?_) (fun K hK => ?_)
 ·
  refine e_call ha49 Try.func20 rfl rfl rfl rfl (vlen_any _ _ _ _ _ _ _ _ _ _ _ _ _ _ _ _ _ _) ?_
  rintro e w50 ⟨rfl, hb50⟩
  have m51 := m38.later hb50
  clear m38
  clear hb50
  refine ⟨_, rfl, fun a52 ha52 => ?_⟩; clear ha49 a49
  refine hK _ _ (fun _ => (m51.to ⟨il, trivial⟩)) ?_; clear hK K
  refine dyn 12 ha52 rfl rfl (m51.to ⟨il, trivial⟩) (fun W => y_min ha52 rfl rfl (r := (tq : Int)) htq) ?_
  clear ha52 a52; intro a53 ha53
  refine dyn 13 ha53 rfl rfl (m51.to ⟨il, trivial⟩) (fun W => y_build ha53 rfl zc73pu fl73pu rfl (by dsimp only [setL, List.set] <;> rfl)) ?_
  clear ha53 a53; intro a54 ha54
  refine stepE_only 14 rfl (by kernel_rfl) rfl (fun K hK => ?_)
  refine e_alloc ha54 m51 22 zc73pu rfl ?_
  clear ha54 a54 m51; intro g55 a56 w56 ha56 m56 hB56 hg56
  clear hB56 hg56
  refine hK _ _ (m56.to ⟨il, trivial⟩) ?_; clear hK K
  refine stepE_only 15 rfl (by kernel_rfl) rfl (fun K hK => ?_)
  refine e_storeW ha56 m56 22 rfl rfl rfl rfl rfl sz73pu ?_
  clear m56; intro w57 m57 hB57
  clear hB57
  refine hK _ _ (m57.to ⟨il, trivial⟩) ?_; clear hK K
  refine wpAnyE_done (by kernel_rfl) ?_ _
  refine hK4 _ _ ?_; clear hK4; try clear K4
  refine wp_seq_k (fun K5 hK5 => ?_)
  refine wp_seq_k (fun K6 hK6 => ?_)
  have ha58 : Has 98 [(1, _), (2, _), (3, _), (6, _), (7, _), (8, _), (9, _)] a56 := ha56.only [1, 2, 3, 6, 7, 8, 9]; clear ha56
  refine wp_region_lit ?_
  refine st_y ha58 rfl (y_move ha58 rfl) ?_
  clear ha58 a56; intro a59 ha59
  refine st_y ha59 rfl (y_fieldAddr ha59 (off := 4) rfl Try.underlying34 rfl (s := 0) (by kernel_rfl) rfl) ?_
  clear ha59 a59; intro a60 ha60
  refine st_y ha60 rfl (y_loadB1 ha60 m57 (i := 20) rfl rfl rfl Try.underlying22 rfl) ?_
  clear ha60 a60; intro a61 ha61
  refine st_y ha61 rfl (y_len ha61 rfl Try.underlying22) ?_
  clear ha61 a61; intro a62 ha62
  refine st_y ha62 rfl (y_sub ha62 rfl rfl (r := (place.length : Int) - 1) (IntWalk.i64_in _ (by omega))) ?_
  clear ha62 a62; intro a63 ha63
  refine st_y ha63 rfl (y_eql ha63 rfl rfl) ?_
  clear ha63 a63; intro a64 ha64
  refine wpList_nil ?_
  refine hK6 _ _ ?_; clear hK6; try clear K6
  refine bool_cases ha64 (t := 56) rfl (fun hb65 ha65 => ?_) (fun hb65 ha65 => ?_)
  ·
   clear ha64
   try simp only [Q1x, Q2x, Q3x, Q4x, Q5x, Q6x, Q7x, Q8x, Q9x, Q0x, Qax, Qbx] at hb65
   refine wp_cond_true (ha65.ev (x := .tmp 56) rfl) ?_
   have ha66 : Has 98 [(2, _), (3, _), (6, _), (7, _), (8, _), (9, _)] a64 := ha65.only [2, 3, 6, 7, 8, 9]; clear ha65
   refine wp_region_lit ?_
   refine st_y ha66 rfl (y_fieldAddr ha66 (off := 1) rfl Try.underlying34 rfl (s := 0) (by kernel_rfl) rfl) ?_
   clear ha66 a64; intro a67 ha67
   refine st_y ha67 rfl (y_loadB1 ha67 m57 (i := 20) rfl rfl rfl Try.underlying3 rfl) ?_
   clear ha67 a67; intro a68 ha68
   refine st_y ha68 rfl (y_move ha68 rfl) ?_
   clear ha68 a68; intro a69 ha69
   refine st_y ha69 rfl (y_sub ha69 rfl rfl (r := cnt) (by rw [← hcnt.1 (by omega)]; exact IntWalk.i64_in _ (by omega))) ?_
   clear ha69 a69; intro a70 ha70
   refine st_y ha70 rfl (y_fieldAddr ha70 (off := 2) rfl Try.underlying73 rfl (s := 0) (by kernel_rfl) rfl) ?_
   clear ha70 a70; intro a71 ha71
   refine wpList_plain rfl (fun K hK => ?_)
   refine e_store1 ha71 m57 22 rfl rfl rfl rfl rfl sz3pu (by dsimp only [List.set] <;> rfl) ?_
   clear m57; intro w72 m72 hB72
   clear hB72
   refine hK _ _ ?_; clear hK K
   refine wpList_nil ?_
   refine hK5 _ _ ?_; clear hK5; try clear K5
   refine wp_seq_k (fun K7 hK7 => ?_)
   refine wp_region_lit ?_
   refine st_y ha71 rfl (y_fieldAddr ha71 (off := 8) rfl Try.underlying34 rfl (s := 0) (by kernel_rfl) rfl) ?_
   clear ha71 a71; intro a73 ha73
   refine st_y ha73 rfl (y_loadB1 ha73 m72 (i := 20) rfl rfl rfl Try.underlying2 rfl) ?_
   clear ha73 a73; intro a74 ha74
   refine st_y ha74 rfl (y_fieldAddr ha74 (off := 5) rfl Try.underlying73 rfl (s := 0) (by kernel_rfl) rfl) ?_
   clear ha74 a74; intro a75 ha75
   refine st_y ha75 rfl (y_loadB1 ha75 m72 (i := 22) rfl rfl rfl Try.underlying2 rfl) ?_
   clear ha75 a75; intro a76 ha76
   refine st_y ha76 rfl (y_min ha76 rfl rfl rfl) ?_
   clear ha76 a76; intro a77 ha77
   refine st_y ha77 rfl (y_fieldAddr ha77 (off := 6) rfl Try.underlying73 rfl (s := 0) (by kernel_rfl) rfl) ?_
   clear ha77 a77; intro a78 ha78
   refine wpList_plain rfl (fun K hK => ?_)
   refine e_store1 ha78 m72 22 rfl rfl rfl rfl rfl sz2pu (by dsimp only [List.set] <;> rfl) ?_
   clear m72; intro w79 m79 hB79
   clear hB79
   refine hK _ _ ?_; clear hK K
   refine wpList_nil ?_
   refine hK7 _ _ ?_; clear hK7; try clear K7
   refine wp_seq_k (fun K8 hK8 => ?_)
   refine wp_seq_k (fun K9 hK9 => ?_)
   have ha80 : Has 98 [(2, _), (3, _), (6, _), (7, _), (8, _), (9, _)] a78 := ha78.only [2, 3, 6, 7, 8, 9]; clear ha78
   refine wp_region_lit ?_
   refine st_y ha80 rfl (y_fieldAddr ha80 (off := 10) rfl Try.underlying34 rfl (s := 0) (by kernel_rfl) rfl) ?_
   clear ha80 a78; intro a81 ha81
   refine st_y ha81 rfl (y_loadB1 ha81 m79 (i := 20) rfl rfl rfl Try.underlying32 rfl) ?_
   clear ha81 a81; intro a82 ha82
   refine st_y ha82 rfl (y_move ha82 rfl) ?_
   clear ha82 a82; intro a83 ha83
   refine st_y ha83 rfl (y_fieldAddr ha83 (off := 5) rfl Try.underlying73 rfl (s := 0) (by kernel_rfl) rfl) ?_
   clear ha83 a83; intro a84 ha84
   refine st_y ha84 rfl (y_loadB1 ha84 m79 (i := 22) rfl rfl rfl Try.underlying2 rfl) ?_
   clear ha84 a84; intro a85 ha85
   obtain ⟨P2, hP2⟩ : ∃ x, (if cw = mk then pw else pw.map (·.add (mk * 2))) = x := ⟨_, rfl⟩
   obtain ⟨W2, hW2⟩ : ∃ x, (ws.take tq).drop mk = x := ⟨_, rfl⟩
   obtain ⟨C2, hC2⟩ : ∃ x, cw - mk = x := ⟨_, rfl⟩
   have hW2l : W2.length = tq - mk := by rw [← hW2, List.length_drop, List.length_take]; omega
   have hW2o : WrsOk W2 := fun e he => hok e (by rw [← hW2] at he; exact List.mem_of_mem_take (List.mem_of_mem_drop he))
   have h2b := (h2.takeL tq (by rw [List.length_map]; omega)).dropL mk (by rw [List.length_take, List.length_map]; omega)
   rw [hP2, hC2, ← List.map_take, ← List.map_drop, hW2, ← hW2l] at h2b
   refine st_y ha85 rfl (y_sliceLHn ha85 mk tq rfl rfl rfl Try.underlying32 sz55pu rfl rfl (by omega) (by omega) hP2 hC2 hW2l.symm) ?_
   clear ha85 a85; intro a86 ha86
   refine st_y ha86 rfl (y_len ha86 rfl Try.underlying32) ?_
   clear ha86 a86; intro a87 ha87
   refine st_y ha87 rfl (y_move ha87 rfl) ?_
   clear ha87 a87; intro a88 ha88
   refine wpList_nil ?_
   refine hK9 _ _ ?_; clear hK9; try clear K9
   refine wp_block ?_
   refine wp_loop_ghost (fun g a w => ∃ (k B B6 : Nat) (p : Option Addr) (c : Nat), k ≤ W2.length ∧ g = W2.length - k ∧ Has 98 [(6, .pointer (some ⟨B6, 0, none⟩)), (8, .int .i64 fi), (9, .pointer (some ⟨B, 0, none⟩)), (73, .slice P2 W2.length C2), (74, .int .i64 W2.length), (75, .int .i64 k)] a ∧ MemOk (cn w0) w0 [(6, .box B6 73 [.int .i64 0, .int .i64 0, .int .i64 0, .int .i64 0, .int .i64 0, .int .i64 0, .int .i64 0, .slice none 0 0]), (9, .box B 73 [.int .i64 vo, .int .i64 ch, .int .i64 cnt, .int .i64 sz, .int .i64 mk, .int .i64 tq, .int .i64 (min fl tq), .slice p ((pushL fi cnt (W2.take k)).map wrD).length c]), (10, .row (.slice p ((pushL fi cnt (W2.take k)).map wrD).length c) 55 2 ((pushL fi cnt (W2.take k)).map wrD))] w) (W2.length) ?_ ?_
   · have mz := m79.nilR 10 55 2
     exact ⟨0, _, _, _, _, Nat.zero_le _, rfl, ha88.only [6, 8, 9, 73, 74, 75], mz.ren [(6, 21), (9, 22), (10, 10)] (by decide)⟩
   ·
    clear ha88 m79
    rintro g a89 w89 ⟨k, B, B6, p, c, hkl, hg, ha89, m89⟩
    refine wp_seq_k (fun K10 hK10 => ?_)
    refine wp_region_lit ?_
    refine st_y ha89 rfl (y_lss ha89 rfl rfl) ?_
    clear ha89 a89; intro a90 ha90
    refine wpList_nil ?_
    refine hK10 _ _ ?_; clear hK10; try clear K10
    refine wp_seq_k (fun K11 hK11 => ?_)
    refine bool_cases ha90 (t := 76) rfl (fun hb91 ha91 => ?_) (fun hb91 ha91 => ?_)
    ·
     clear ha90
     try simp only [Q1x, Q2x, Q3x, Q4x, Q5x, Q6x, Q7x, Q8x, Q9x, Q0x, Qax, Qbx] at hb91
     have hk : k < W2.length := by omega
     obtain ⟨⟨xs, xl⟩, hes⟩ : ∃ e, W2[k]? = some e := ⟨_, List.getElem?_eq_getElem hk⟩
     have hok2 := hW2o _ (List.mem_of_getElem? hes)
     dsimp only at hok2
     refine wp_cond_true (ha91.ev (x := .tmp 76) rfl) ?_
     refine wp_skip ?_
     refine hK11 _ _ ?_; clear hK11; try clear K11
     refine wp_seq_k (fun K12 hK12 => ?_)
     refine wp_block ?_
     refine wp_seq_k (fun K13 hK13 => ?_)
     refine wp_region_lit ?_
     obtain ⟨gx92, ox92, vx92, hp92, hl92, hR92, hrg92⟩ := h2b.extA (k) (r := [.v (.int .i64 xs), .l 2 (xl.map itD)]) (wrD_get hes)
     cases hp92; clear hl92
     rcases hR92 with _ | ⟨hd92_0, _ | ⟨hd92_1, _ | _⟩⟩
     obtain rfl := hd92_0.v_out
     clear hd92_0
     obtain ⟨p93, c93, hv93, hw93⟩ := hd92_1.l_shape; subst hv93
     refine st_y ha91 rfl (y_idx ha91 rfl rfl Try.underlying32 sz55pu (k) rfl hk) ?_
     clear ha91 a90; intro a94 ha94
     refine st_y ha94 rfl (y_loadAt ha94 (hrg92 m89 rfl) rfl Try.underlying55 rfl sz55pu) ?_
     clear ha94 a94; intro a95 ha95
     refine wpList_plain rfl (fun K hK => ?_)
     refine e_alloc ha95 m89 101 zc55pu rfl ?_
     clear ha95 a95 m89; intro g96 a97 w97 ha97 m97 hB97 hg97
     clear hB97 hg97
     refine hK _ _ ?_; clear hK K
     refine wpList_plain rfl (fun K hK => ?_)
     refine e_storeW ha97 m97 101 rfl rfl rfl rfl rfl sz55pu ?_
     clear m97; intro w98 m98 hB98
     clear hB98
     refine hK _ _ ?_; clear hK K
     refine wpList_nil ?_
     refine hK13 _ _ ?_; clear hK13; try clear K13
     refine wp_seq_k (fun K14 hK14 => ?_)
     refine wp_region_lit ?_
     refine st_y ha97 rfl (y_loadBR ha97 m98 (i := 101) rfl rfl Try.underlying55 rfl sz55pu (by simp) (by dsimp only [List.drop, List.take] <;> rfl)) ?_
     clear ha97 a97; intro a99 ha99
     refine st_y ha99 rfl (y_move ha99 rfl) ?_
     clear ha99 a99; intro a100 ha100
     refine st_y ha100 rfl (y_fieldAddr ha100 (off := 2) rfl Try.underlying73 rfl (s := 0) (by kernel_rfl) rfl) ?_
     clear ha100 a100; intro a101 ha101
     refine st_y ha101 rfl (y_loadB1 ha101 m98 (i := 9) rfl rfl rfl Try.underlying3 rfl) ?_
     clear ha101 a101; intro a102 ha102
     refine wpList_plain rfl (fun K hK => ?_)
     refine e_call ha102 Try.func53 rfl rfl rfl rfl (itemsOf_any fi cnt _ xl _ _ _ _ ((hd92_1.now' m98 rfl).any) hok2.1 hok2.2 hfb hcb) ?_
     rintro e w103 ⟨p103, c103, rfl, hd103, hb103⟩
     have m104 := m98.callF 102 rfl hb103 hd103
     clear m98
     clear hb103 hd103
     refine ⟨_, rfl, fun a105 ha105 => ?_⟩; clear ha102 a102
     refine hK _ _ ?_; clear hK K
     refine st_y ha105 rfl (y_assign ha105 rfl) ?_
     clear ha105 a105; intro a106 ha106
     refine wpList_nil ?_
     refine hK14 _ _ ?_; clear hK14; try clear K14
     refine wp_seq_k (fun K15 hK15 => ?_)
     have ha107 : Has 98 [(6, _), (8, _), (9, _), (73, _), (74, _), (75, _), (11, _), (12, _)] a106 := ha106.only [6, 8, 9, 73, 74, 75, 11, 12]; clear ha106
     refine wp_region_lit ?_
     refine st_y ha107 rfl (y_move ha107 rfl) ?_
     clear ha107 a106; intro a108 ha108
     refine st_y ha108 rfl (y_len ha108 rfl Try.underlying23) ?_
     clear ha108 a108; intro a109 ha109
     refine st_y ha109 rfl (y_gtr ha109 rfl rfl) ?_
     clear ha109 a109; intro a110 ha110
     refine wpList_nil ?_
     refine hK15 _ _ ?_; clear hK15; try clear K15
     refine bool_cases ha110 (t := 86) rfl (fun hb111 ha111 => ?_) (fun hb111 ha111 => ?_)
     ·
      clear ha110
      try simp only [Q1x, Q2x, Q3x, Q4x, Q5x, Q6x, Q7x, Q8x, Q9x, Q0x, Qax, Qbx] at hb111
      refine wp_cond_true (ha111.ev (x := .tmp 86) rfl) ?_
      refine wp_region_lit ?_
      refine st_y ha111 rfl (y_fieldAddr ha111 (off := 7) rfl Try.underlying73 rfl (s := 0) (by kernel_rfl) rfl) ?_
      clear ha111 a110; intro a112 ha112
      refine st_y ha112 rfl (y_loadB1 ha112 m104 (i := 9) rfl rfl rfl Try.underlying32 rfl) ?_
      clear ha112 a112; intro a113 ha113
      refine st_y ha113 rfl (y_fieldAddr ha113 (off := 0) rfl Try.underlying55 rfl (s := 0) (by kernel_rfl) rfl) ?_
      clear ha113 a113; intro a114 ha114
      refine st_y ha114 rfl (y_loadB1 ha114 m104 (i := 101) rfl rfl rfl Try.underlying2 rfl) ?_
      clear ha114 a114; intro a115 ha115
      refine st_y ha115 rfl (y_move ha115 rfl) ?_
      clear ha115 a115; intro a116 ha116
      refine st_y ha116 rfl (y_build ha116 rfl zc55pu fl55pu rfl (by dsimp only [setL, List.set] <;> rfl)) ?_
      clear ha116 a116; intro a117 ha117
      refine wpList_plain rfl (fun K hK => ?_)
      refine e_litR ha117 m104 103 (mm := 2) rfl (.cons rfl rfl (.cons (.v _) (.cons (m104.rd (i := 102) rfl) .nil)) <| .nil) Try.underlying32 inf55pu rfl rfl rfl rfl rfl ?_
      clear ha117 a117 m104; intro g118 a119 w119 ha119 m119
      refine hK _ _ ?_; clear hK K
      have m121 := m119.freezeR 103 rfl; clear m119
      refine wpList_plain rfl (fun K hK => ?_)
      refine e_appR ha119 m121 10 rfl rfl rfl (m121.rd (i := 103) rfl) Try.underlying32 inf55pu rfl rfl (by decide) (by have := push_len fi cnt (W2.take k); rw [List.length_take] at this; simp; omega) rfl ?_
      clear ha119 a119 m121; intro p120 c120 a122 w122 ha122 m122
      refine hK _ _ ?_; clear hK K
      refine st_y ha122 rfl (y_fieldAddr ha122 (off := 7) rfl Try.underlying73 rfl (s := 0) (by kernel_rfl) rfl) ?_
      clear ha122 a122; intro a123 ha123
      refine wpList_plain rfl (fun K hK => ?_)
      refine e_store1 ha123 m122 9 rfl rfl rfl rfl rfl sz32pu (by dsimp only [List.set] <;> rfl) ?_
      clear m122; intro w124 m124 hB124
      clear hB124
      refine hK _ _ ?_; clear hK K
      refine wpList_nil ?_
      refine hK12 _ _ ?_; clear hK12; try clear K12
      have ha125 : Has 98 [(6, _), (8, _), (9, _), (73, _), (74, _), (75, _), (86, _)] a123 := ha123.only [6, 8, 9, 73, 74, 75, 86]; clear ha123
      refine wp_region_lit ?_
      refine st_y ha125 rfl (y_add ha125 rfl rfl (r := ((k + 1 : Nat) : Int)) (by rw [IntWalk.i64_in _ (by omega)]; omega)) ?_
      clear ha125 a123; intro a126 ha126
      refine st_y ha126 rfl (y_move ha126 rfl) ?_
      clear ha126 a126; intro a127 ha127
      refine wpList_nil ?_
      show ∃ n', n' < _ ∧ _
      have hE : (pushL fi cnt (W2.take k)).map wrD ++ [[D.v (.int .i64 xs), .l 2 ((itemsL fi cnt xl).map itD)]] = (pushL fi cnt (W2.take (k + 1))).map wrD := by rw [push_yes hes (by have h9 := hb111; rw [List.length_map] at h9; omega), List.map_append]; rfl
      rw [hE] at m124
      exact ⟨W2.length - (k + 1), by omega, k + 1, _, _, _, _, by omega, rfl, ha127.only [6, 8, 9, 73, 74, 75], m124.only [6, 9, 10]⟩
     ·
      clear ha110
      try simp only [Q1x, Q2x, Q3x, Q4x, Q5x, Q6x, Q7x, Q8x, Q9x, Q0x, Qax, Qbx] at hb111
      refine wp_cond_false (ha111.ev (x := .tmp 86) rfl) ?_
      refine wp_skip ?_
      refine hK12 _ _ ?_; clear hK12; try clear K12
      refine wp_region_lit ?_
      refine st_y ha111 rfl (y_add ha111 rfl rfl (r := ((k + 1 : Nat) : Int)) (by rw [IntWalk.i64_in _ (by omega)]; omega)) ?_
      clear ha111 a110; intro a128 ha128
      refine st_y ha128 rfl (y_move ha128 rfl) ?_
      clear ha128 a128; intro a129 ha129
      refine wpList_nil ?_
      show ∃ n', n' < _ ∧ _
      have hE : (pushL fi cnt (W2.take k)) = pushL fi cnt (W2.take (k + 1)) := (push_no hes (by have h9 := hb111; rw [List.length_map] at h9; omega)).symm
      rw [hE] at m104
      exact ⟨W2.length - (k + 1), by omega, k + 1, _, _, _, _, by omega, rfl, ha129.only [6, 8, 9, 73, 74, 75], m104.only [6, 9, 10]⟩
    ·
     clear ha90
     try simp only [Q1x, Q2x, Q3x, Q4x, Q5x, Q6x, Q7x, Q8x, Q9x, Q0x, Qax, Qbx] at hb91
     obtain rfl : k = W2.length := by omega
     refine wp_cond_false (ha91.ev (x := .tmp 76) rfl) ?_
     refine wp_exit ?_
     refine hK8 _ _ ?_; clear hK8; try clear K8
     refine wp_seq_k (fun K16 hK16 => ?_)
     refine wp_region_lit ?_
     refine st_y ha91 rfl (y_loadBR ha91 m89 (i := 9) rfl rfl Try.underlying73 rfl sz73pu (by simp) (by dsimp only [List.drop, List.take] <;> rfl)) ?_
     clear ha91 a90; intro a130 ha130
     refine wpList_plain rfl (fun K hK => ?_)
     refine e_storeW ha130 m89 6 rfl rfl rfl rfl rfl sz73pu ?_
     clear m89; intro w131 m131 hB131
     clear hB131
     refine hK _ _ ?_; clear hK K
     refine st_y ha130 rfl (y_assign ha130 rfl) ?_
     clear ha130 a130; intro a132 ha132
     refine wpList_nil ?_
     refine hK16 _ _ ?_; clear hK16; try clear K16
     refine wp_ret ?_
     try dsimp only [Exit.then, Exit.inBlock]
     refine (retCT (fn := Try.f34) ha132 m131 (i := 6) rfl rfl rfl rfl Try.underlying73 rfl sz73pu ?_)
     rw [List.take_length] at *
     have m133 := m131.freezeR 10 rfl; clear m131
     rw [hW2]
     exact ⟨_, _, rfl, m133.outF (i := 10) rfl, m133.below⟩
  ·
   clear ha64
   try simp only [Q1x, Q2x, Q3x, Q4x, Q5x, Q6x, Q7x, Q8x, Q9x, Q0x, Qax, Qbx] at hb65
   obtain rfl : cnt = pe := hcnt.2 (by omega)
   refine wp_cond_false (ha65.ev (x := .tmp 56) rfl) ?_
   refine wp_skip ?_
   refine hK5 _ _ ?_; clear hK5; try clear K5
   refine wp_seq_k (fun K17 hK17 => ?_)
   have ha134 : Has 98 [(2, _), (3, _), (6, _), (7, _), (8, _), (9, _)] a64 := ha65.only [2, 3, 6, 7, 8, 9]; clear ha65
   refine wp_region_lit ?_
   refine st_y ha134 rfl (y_fieldAddr ha134 (off := 8) rfl Try.underlying34 rfl (s := 0) (by kernel_rfl) rfl) ?_
   clear ha134 a64; intro a135 ha135
   refine st_y ha135 rfl (y_loadB1 ha135 m57 (i := 20) rfl rfl rfl Try.underlying2 rfl) ?_
   clear ha135 a135; intro a136 ha136
   refine st_y ha136 rfl (y_fieldAddr ha136 (off := 5) rfl Try.underlying73 rfl (s := 0) (by kernel_rfl) rfl) ?_
   clear ha136 a136; intro a137 ha137
   refine st_y ha137 rfl (y_loadB1 ha137 m57 (i := 22) rfl rfl rfl Try.underlying2 rfl) ?_
   clear ha137 a137; intro a138 ha138
   refine st_y ha138 rfl (y_min ha138 rfl rfl rfl) ?_
   clear ha138 a138; intro a139 ha139
   refine st_y ha139 rfl (y_fieldAddr ha139 (off := 6) rfl Try.underlying73 rfl (s := 0) (by kernel_rfl) rfl) ?_
   clear ha139 a139; intro a140 ha140
   refine wpList_plain rfl (fun K hK => ?_)
   refine e_store1 ha140 m57 22 rfl rfl rfl rfl rfl sz2pu (by dsimp only [List.set] <;> rfl) ?_
   clear m57; intro w141 m141 hB141
   clear hB141
   refine hK _ _ ?_; clear hK K
   refine wpList_nil ?_
   refine hK17 _ _ ?_; clear hK17; try clear K17
   refine wp_seq_k (fun K18 hK18 => ?_)
   refine wp_seq_k (fun K19 hK19 => ?_)
   have ha142 : Has 98 [(2, _), (3, _), (6, _), (7, _), (8, _), (9, _)] a140 := ha140.only [2, 3, 6, 7, 8, 9]; clear ha140
   refine wp_region_lit ?_
   refine st_y ha142 rfl (y_fieldAddr ha142 (off := 10) rfl Try.underlying34 rfl (s := 0) (by kernel_rfl) rfl) ?_
   clear ha142 a140; intro a143 ha143
   refine st_y ha143 rfl (y_loadB1 ha143 m141 (i := 20) rfl rfl rfl Try.underlying32 rfl) ?_
   clear ha143 a143; intro a144 ha144
   refine st_y ha144 rfl (y_move ha144 rfl) ?_
   clear ha144 a144; intro a145 ha145
   refine st_y ha145 rfl (y_fieldAddr ha145 (off := 5) rfl Try.underlying73 rfl (s := 0) (by kernel_rfl) rfl) ?_
   clear ha145 a145; intro a146 ha146
   refine st_y ha146 rfl (y_loadB1 ha146 m141 (i := 22) rfl rfl rfl Try.underlying2 rfl) ?_
   clear ha146 a146; intro a147 ha147
   obtain ⟨P2, hP2⟩ : ∃ x, (if cw = mk then pw else pw.map (·.add (mk * 2))) = x := ⟨_, rfl⟩
   obtain ⟨W2, hW2⟩ : ∃ x, (ws.take tq).drop mk = x := ⟨_, rfl⟩
   obtain ⟨C2, hC2⟩ : ∃ x, cw - mk = x := ⟨_, rfl⟩
   have hW2l : W2.length = tq - mk := by rw [← hW2, List.length_drop, List.length_take]; omega
   have hW2o : WrsOk W2 := fun e he => hok e (by rw [← hW2] at he; exact List.mem_of_mem_take (List.mem_of_mem_drop he))
   have h2b := (h2.takeL tq (by rw [List.length_map]; omega)).dropL mk (by rw [List.length_take, List.length_map]; omega)
   rw [hP2, hC2, ← List.map_take, ← List.map_drop, hW2, ← hW2l] at h2b
   refine st_y ha147 rfl (y_sliceLHn ha147 mk tq rfl rfl rfl Try.underlying32 sz55pu rfl rfl (by omega) (by omega) hP2 hC2 hW2l.symm) ?_
   clear ha147 a147; intro a148 ha148
   refine st_y ha148 rfl (y_len ha148 rfl Try.underlying32) ?_
   clear ha148 a148; intro a149 ha149
   refine st_y ha149 rfl (y_move ha149 rfl) ?_
   clear ha149 a149; intro a150 ha150
   refine wpList_nil ?_
   refine hK19 _ _ ?_; clear hK19; try clear K19
   refine wp_block ?_
   refine wp_loop_ghost (fun g a w => ∃ (k B B6 : Nat) (p : Option Addr) (c : Nat), k ≤ W2.length ∧ g = W2.length - k ∧ Has 98 [(6, .pointer (some ⟨B6, 0, none⟩)), (8, .int .i64 fi), (9, .pointer (some ⟨B, 0, none⟩)), (73, .slice P2 W2.length C2), (74, .int .i64 W2.length), (75, .int .i64 k)] a ∧ MemOk (cn w0) w0 [(6, .box B6 73 [.int .i64 0, .int .i64 0, .int .i64 0, .int .i64 0, .int .i64 0, .int .i64 0, .int .i64 0, .slice none 0 0]), (9, .box B 73 [.int .i64 vo, .int .i64 ch, .int .i64 cnt, .int .i64 sz, .int .i64 mk, .int .i64 tq, .int .i64 (min fl tq), .slice p ((pushL fi cnt (W2.take k)).map wrD).length c]), (10, .row (.slice p ((pushL fi cnt (W2.take k)).map wrD).length c) 55 2 ((pushL fi cnt (W2.take k)).map wrD))] w) (W2.length) ?_ ?_
   · have mz := m141.nilR 10 55 2
     exact ⟨0, _, _, _, _, Nat.zero_le _, rfl, ha150.only [6, 8, 9, 73, 74, 75], mz.ren [(6, 21), (9, 22), (10, 10)] (by decide)⟩
   ·
    clear ha150 m141
    rintro g a151 w151 ⟨k, B, B6, p, c, hkl, hg, ha151, m151⟩
    refine wp_seq_k (fun K20 hK20 => ?_)
    refine wp_region_lit ?_
    refine st_y ha151 rfl (y_lss ha151 rfl rfl) ?_
    clear ha151 a151; intro a152 ha152
    refine wpList_nil ?_
    refine hK20 _ _ ?_; clear hK20; try clear K20
    refine wp_seq_k (fun K21 hK21 => ?_)
    refine bool_cases ha152 (t := 76) rfl (fun hb153 ha153 => ?_) (fun hb153 ha153 => ?_)
    ·
     clear ha152
     try simp only [Q1x, Q2x, Q3x, Q4x, Q5x, Q6x, Q7x, Q8x, Q9x, Q0x, Qax, Qbx] at hb153
     have hk : k < W2.length := by omega
     obtain ⟨⟨xs, xl⟩, hes⟩ : ∃ e, W2[k]? = some e := ⟨_, List.getElem?_eq_getElem hk⟩
     have hok2 := hW2o _ (List.mem_of_getElem? hes)
     dsimp only at hok2
     refine wp_cond_true (ha153.ev (x := .tmp 76) rfl) ?_
     refine wp_skip ?_
     refine hK21 _ _ ?_; clear hK21; try clear K21
     refine wp_seq_k (fun K22 hK22 => ?_)
     refine wp_block ?_
     refine wp_seq_k (fun K23 hK23 => ?_)
     refine wp_region_lit ?_
     obtain ⟨gx154, ox154, vx154, hp154, hl154, hR154, hrg154⟩ := h2b.extA (k) (r := [.v (.int .i64 xs), .l 2 (xl.map itD)]) (wrD_get hes)
     cases hp154; clear hl154
     rcases hR154 with _ | ⟨hd154_0, _ | ⟨hd154_1, _ | _⟩⟩
     obtain rfl := hd154_0.v_out
     clear hd154_0
     obtain ⟨p155, c155, hv155, hw155⟩ := hd154_1.l_shape; subst hv155
     refine st_y ha153 rfl (y_idx ha153 rfl rfl Try.underlying32 sz55pu (k) rfl hk) ?_
     clear ha153 a152; intro a156 ha156
     refine st_y ha156 rfl (y_loadAt ha156 (hrg154 m151 rfl) rfl Try.underlying55 rfl sz55pu) ?_
     clear ha156 a156; intro a157 ha157
     refine wpList_plain rfl (fun K hK => ?_)
     refine e_alloc ha157 m151 101 zc55pu rfl ?_
     clear ha157 a157 m151; intro g158 a159 w159 ha159 m159 hB159 hg159
     clear hB159 hg159
     refine hK _ _ ?_; clear hK K
     refine wpList_plain rfl (fun K hK => ?_)
     refine e_storeW ha159 m159 101 rfl rfl rfl rfl rfl sz55pu ?_
     clear m159; intro w160 m160 hB160
     clear hB160
     refine hK _ _ ?_; clear hK K
     refine wpList_nil ?_
     refine hK23 _ _ ?_; clear hK23; try clear K23
     refine wp_seq_k (fun K24 hK24 => ?_)
     refine wp_region_lit ?_
     refine st_y ha159 rfl (y_loadBR ha159 m160 (i := 101) rfl rfl Try.underlying55 rfl sz55pu (by simp) (by dsimp only [List.drop, List.take] <;> rfl)) ?_
     clear ha159 a159; intro a161 ha161
     refine st_y ha161 rfl (y_move ha161 rfl) ?_
     clear ha161 a161; intro a162 ha162
     refine st_y ha162 rfl (y_fieldAddr ha162 (off := 2) rfl Try.underlying73 rfl (s := 0) (by kernel_rfl) rfl) ?_
     clear ha162 a162; intro a163 ha163
     refine st_y ha163 rfl (y_loadB1 ha163 m160 (i := 9) rfl rfl rfl Try.underlying3 rfl) ?_
     clear ha163 a163; intro a164 ha164
     refine wpList_plain rfl (fun K hK => ?_)
     refine e_call ha164 Try.func53 rfl rfl rfl rfl (itemsOf_any fi cnt _ xl _ _ _ _ ((hd154_1.now' m160 rfl).any) hok2.1 hok2.2 hfb hcb) ?_
     rintro e w165 ⟨p165, c165, rfl, hd165, hb165⟩
     have m166 := m160.callF 102 rfl hb165 hd165
     clear m160
     clear hb165 hd165
     refine ⟨_, rfl, fun a167 ha167 => ?_⟩; clear ha164 a164
     refine hK _ _ ?_; clear hK K
     refine st_y ha167 rfl (y_assign ha167 rfl) ?_
     clear ha167 a167; intro a168 ha168
     refine wpList_nil ?_
     refine hK24 _ _ ?_; clear hK24; try clear K24
     refine wp_seq_k (fun K25 hK25 => ?_)
     have ha169 : Has 98 [(6, _), (8, _), (9, _), (73, _), (74, _), (75, _), (11, _), (12, _)] a168 := ha168.only [6, 8, 9, 73, 74, 75, 11, 12]; clear ha168
     refine wp_region_lit ?_
     refine st_y ha169 rfl (y_move ha169 rfl) ?_
     clear ha169 a168; intro a170 ha170
     refine st_y ha170 rfl (y_len ha170 rfl Try.underlying23) ?_
     clear ha170 a170; intro a171 ha171
     refine st_y ha171 rfl (y_gtr ha171 rfl rfl) ?_
     clear ha171 a171; intro a172 ha172
     refine wpList_nil ?_
     refine hK25 _ _ ?_; clear hK25; try clear K25
     refine bool_cases ha172 (t := 86) rfl (fun hb173 ha173 => ?_) (fun hb173 ha173 => ?_)
     ·
      clear ha172
      try simp only [Q1x, Q2x, Q3x, Q4x, Q5x, Q6x, Q7x, Q8x, Q9x, Q0x, Qax, Qbx] at hb173
      refine wp_cond_true (ha173.ev (x := .tmp 86) rfl) ?_
      refine wp_region_lit ?_
      refine st_y ha173 rfl (y_fieldAddr ha173 (off := 7) rfl Try.underlying73 rfl (s := 0) (by kernel_rfl) rfl) ?_
      clear ha173 a172; intro a174 ha174
      refine st_y ha174 rfl (y_loadB1 ha174 m166 (i := 9) rfl rfl rfl Try.underlying32 rfl) ?_
      clear ha174 a174; intro a175 ha175
      refine st_y ha175 rfl (y_fieldAddr ha175 (off := 0) rfl Try.underlying55 rfl (s := 0) (by kernel_rfl) rfl) ?_
      clear ha175 a175; intro a176 ha176
      refine st_y ha176 rfl (y_loadB1 ha176 m166 (i := 101) rfl rfl rfl Try.underlying2 rfl) ?_
      clear ha176 a176; intro a177 ha177
      refine st_y ha177 rfl (y_move ha177 rfl) ?_
      clear ha177 a177; intro a178 ha178
      refine st_y ha178 rfl (y_build ha178 rfl zc55pu fl55pu rfl (by dsimp only [setL, List.set] <;> rfl)) ?_
      clear ha178 a178; intro a179 ha179
      refine wpList_plain rfl (fun K hK => ?_)
      refine e_litR ha179 m166 103 (mm := 2) rfl (.cons rfl rfl (.cons (.v _) (.cons (m166.rd (i := 102) rfl) .nil)) <| .nil) Try.underlying32 inf55pu rfl rfl rfl rfl rfl ?_
      clear ha179 a179 m166; intro g180 a181 w181 ha181 m181
      refine hK _ _ ?_; clear hK K
      have m183 := m181.freezeR 103 rfl; clear m181
      refine wpList_plain rfl (fun K hK => ?_)
      refine e_appR ha181 m183 10 rfl rfl rfl (m183.rd (i := 103) rfl) Try.underlying32 inf55pu rfl rfl (by decide) (by have := push_len fi cnt (W2.take k); rw [List.length_take] at this; simp; omega) rfl ?_
      clear ha181 a181 m183; intro p182 c182 a184 w184 ha184 m184
      refine hK _ _ ?_; clear hK K
      refine st_y ha184 rfl (y_fieldAddr ha184 (off := 7) rfl Try.underlying73 rfl (s := 0) (by kernel_rfl) rfl) ?_
      clear ha184 a184; intro a185 ha185
      refine wpList_plain rfl (fun K hK => ?_)
      refine e_store1 ha185 m184 9 rfl rfl rfl rfl rfl sz32pu (by dsimp only [List.set] <;> rfl) ?_
      clear m184; intro w186 m186 hB186
      clear hB186
      refine hK _ _ ?_; clear hK K
      refine wpList_nil ?_
      refine hK22 _ _ ?_; clear hK22; try clear K22
      have ha187 : Has 98 [(6, _), (8, _), (9, _), (73, _), (74, _), (75, _), (86, _)] a185 := ha185.only [6, 8, 9, 73, 74, 75, 86]; clear ha185
      refine wp_region_lit ?_
      refine st_y ha187 rfl (y_add ha187 rfl rfl (r := ((k + 1 : Nat) : Int)) (by rw [IntWalk.i64_in _ (by omega)]; omega)) ?_
      clear ha187 a185; intro a188 ha188
      refine st_y ha188 rfl (y_move ha188 rfl) ?_
      clear ha188 a188; intro a189 ha189
      refine wpList_nil ?_
      show ∃ n', n' < _ ∧ _
      have hE : (pushL fi cnt (W2.take k)).map wrD ++ [[D.v (.int .i64 xs), .l 2 ((itemsL fi cnt xl).map itD)]] = (pushL fi cnt (W2.take (k + 1))).map wrD := by rw [push_yes hes (by have h9 := hb173; rw [List.length_map] at h9; omega), List.map_append]; rfl
      rw [hE] at m186
      exact ⟨W2.length - (k + 1), by omega, k + 1, _, _, _, _, by omega, rfl, ha189.only [6, 8, 9, 73, 74, 75], m186.only [6, 9, 10]⟩
     ·
      clear ha172
      try simp only [Q1x, Q2x, Q3x, Q4x, Q5x, Q6x, Q7x, Q8x, Q9x, Q0x, Qax, Qbx] at hb173
      refine wp_cond_false (ha173.ev (x := .tmp 86) rfl) ?_
      refine wp_skip ?_
      refine hK22 _ _ ?_; clear hK22; try clear K22
      refine wp_region_lit ?_
      refine st_y ha173 rfl (y_add ha173 rfl rfl (r := ((k + 1 : Nat) : Int)) (by rw [IntWalk.i64_in _ (by omega)]; omega)) ?_
      clear ha173 a172; intro a190 ha190
      refine st_y ha190 rfl (y_move ha190 rfl) ?_
      clear ha190 a190; intro a191 ha191
      refine wpList_nil ?_
      show ∃ n', n' < _ ∧ _
      have hE : (pushL fi cnt (W2.take k)) = pushL fi cnt (W2.take (k + 1)) := (push_no hes (by have h9 := hb173; rw [List.length_map] at h9; omega)).symm
      rw [hE] at m166
      exact ⟨W2.length - (k + 1), by omega, k + 1, _, _, _, _, by omega, rfl, ha191.only [6, 8, 9, 73, 74, 75], m166.only [6, 9, 10]⟩
    ·
     clear ha152
     try simp only [Q1x, Q2x, Q3x, Q4x, Q5x, Q6x, Q7x, Q8x, Q9x, Q0x, Qax, Qbx] at hb153
     obtain rfl : k = W2.length := by omega
     refine wp_cond_false (ha153.ev (x := .tmp 76) rfl) ?_
     refine wp_exit ?_
     refine hK18 _ _ ?_; clear hK18; try clear K18
     refine wp_seq_k (fun K26 hK26 => ?_)
     refine wp_region_lit ?_
     refine st_y ha153 rfl (y_loadBR ha153 m151 (i := 9) rfl rfl Try.underlying73 rfl sz73pu (by simp) (by dsimp only [List.drop, List.take] <;> rfl)) ?_
     clear ha153 a152; intro a192 ha192
     refine wpList_plain rfl (fun K hK => ?_)
     refine e_storeW ha192 m151 6 rfl rfl rfl rfl rfl sz73pu ?_
     clear m151; intro w193 m193 hB193
     clear hB193
     refine hK _ _ ?_; clear hK K
     refine st_y ha192 rfl (y_assign ha192 rfl) ?_
     clear ha192 a192; intro a194 ha194
     refine wpList_nil ?_
     refine hK26 _ _ ?_; clear hK26; try clear K26
     refine wp_ret ?_
     try dsimp only [Exit.then, Exit.inBlock]
     refine (retCT (fn := Try.f34) ha194 m193 (i := 6) rfl rfl rfl rfl Try.underlying73 rfl sz73pu ?_)
     rw [List.take_length] at *
     have m195 := m193.freezeR 10 rfl; clear m193
     rw [hW2]
     exact ⟨_, _, rfl, m195.outF (i := 10) rfl, m195.below⟩
 ·
  refine e_alloc ha49 m38 22 zc73pu rfl ?_
  clear ha49 a49 m38; intro g196 a197 w197 ha197 m197 hB197 hg197
  clear hB197 hg197
  refine hK _ _ (fun _ => (m197.to ⟨il, trivial⟩)) ?_; clear hK K
  refine stepE_only 11 rfl (by kernel_rfl) rfl (fun K hK => ?_)
  refine e_call ha197 Try.func20 rfl rfl rfl rfl (vlen_any _ _ _ _ _ _ _ _ _ _ _ _ _ _ _ _ _ _) ?_
  rintro e w198 ⟨rfl, hb198⟩
  have m199 := m197.later hb198
  clear m197
  clear hb198
  refine ⟨_, rfl, fun a200 ha200 => ?_⟩; clear ha197 a197
  refine hK _ _ (m199.to ⟨il, trivial⟩) ?_; clear hK K
  refine dyn 12 ha200 rfl rfl (m199.to ⟨il, trivial⟩) (fun W => y_min ha200 rfl rfl (r := (tq : Int)) htq) ?_
  clear ha200 a200; intro a201 ha201
  refine dyn 13 ha201 rfl rfl (m199.to ⟨il, trivial⟩) (fun W => y_build ha201 rfl zc73pu fl73pu rfl (by dsimp only [setL, List.set] <;> rfl)) ?_
  clear ha201 a201; intro a202 ha202
  refine stepE_only 15 rfl (by kernel_rfl) rfl (fun K hK => ?_)
  refine e_storeW ha202 m199 22 rfl rfl rfl rfl rfl sz73pu ?_
  clear m199; intro w203 m203 hB203
  clear hB203
  refine hK _ _ (m203.to ⟨il, trivial⟩) ?_; clear hK K
  refine wpAnyE_done (by kernel_rfl) ?_ _
  refine hK4 _ _ ?_; clear hK4; try clear K4
  refine wp_seq_k (fun K27 hK27 => ?_)
  refine wp_seq_k (fun K28 hK28 => ?_)
  have ha204 : Has 98 [(1, _), (2, _), (3, _), (6, _), (7, _), (8, _), (9, _)] a202 := ha202.only [1, 2, 3, 6, 7, 8, 9]; clear ha202
  refine wp_region_lit ?_
  refine st_y ha204 rfl (y_move ha204 rfl) ?_
  clear ha204 a202; intro a205 ha205
  refine st_y ha205 rfl (y_fieldAddr ha205 (off := 4) rfl Try.underlying34 rfl (s := 0) (by kernel_rfl) rfl) ?_
  clear ha205 a205; intro a206 ha206
  refine st_y ha206 rfl (y_loadB1 ha206 m203 (i := 20) rfl rfl rfl Try.underlying22 rfl) ?_
  clear ha206 a206; intro a207 ha207
  refine st_y ha207 rfl (y_len ha207 rfl Try.underlying22) ?_
  clear ha207 a207; intro a208 ha208
  refine st_y ha208 rfl (y_sub ha208 rfl rfl (r := (place.length : Int) - 1) (IntWalk.i64_in _ (by omega))) ?_
  clear ha208 a208; intro a209 ha209
  refine st_y ha209 rfl (y_eql ha209 rfl rfl) ?_
  clear ha209 a209; intro a210 ha210
  refine wpList_nil ?_
  refine hK28 _ _ ?_; clear hK28; try clear K28
  refine bool_cases ha210 (t := 56) rfl (fun hb211 ha211 => ?_) (fun hb211 ha211 => ?_)
  ·
   clear ha210
   try simp only [Q1x, Q2x, Q3x, Q4x, Q5x, Q6x, Q7x, Q8x, Q9x, Q0x, Qax, Qbx] at hb211
   refine wp_cond_true (ha211.ev (x := .tmp 56) rfl) ?_
   have ha212 : Has 98 [(2, _), (3, _), (6, _), (7, _), (8, _), (9, _)] a210 := ha211.only [2, 3, 6, 7, 8, 9]; clear ha211
   refine wp_region_lit ?_
   refine st_y ha212 rfl (y_fieldAddr ha212 (off := 1) rfl Try.underlying34 rfl (s := 0) (by kernel_rfl) rfl) ?_
   clear ha212 a210; intro a213 ha213
   refine st_y ha213 rfl (y_loadB1 ha213 m203 (i := 20) rfl rfl rfl Try.underlying3 rfl) ?_
   clear ha213 a213; intro a214 ha214
   refine st_y ha214 rfl (y_move ha214 rfl) ?_
   clear ha214 a214; intro a215 ha215
   refine st_y ha215 rfl (y_sub ha215 rfl rfl (r := cnt) (by rw [← hcnt.1 (by omega)]; exact IntWalk.i64_in _ (by omega))) ?_
   clear ha215 a215; intro a216 ha216
   refine st_y ha216 rfl (y_fieldAddr ha216 (off := 2) rfl Try.underlying73 rfl (s := 0) (by kernel_rfl) rfl) ?_
   clear ha216 a216; intro a217 ha217
   refine wpList_plain rfl (fun K hK => ?_)
   refine e_store1 ha217 m203 22 rfl rfl rfl rfl rfl sz3pu (by dsimp only [List.set] <;> rfl) ?_
   clear m203; intro w218 m218 hB218
   clear hB218
   refine hK _ _ ?_; clear hK K
   refine wpList_nil ?_
   refine hK27 _ _ ?_; clear hK27; try clear K27
   refine wp_seq_k (fun K29 hK29 => ?_)
   refine wp_region_lit ?_
   refine st_y ha217 rfl (y_fieldAddr ha217 (off := 8) rfl Try.underlying34 rfl (s := 0) (by kernel_rfl) rfl) ?_
   clear ha217 a217; intro a219 ha219
   refine st_y ha219 rfl (y_loadB1 ha219 m218 (i := 20) rfl rfl rfl Try.underlying2 rfl) ?_
   clear ha219 a219; intro a220 ha220
   refine st_y ha220 rfl (y_fieldAddr ha220 (off := 5) rfl Try.underlying73 rfl (s := 0) (by kernel_rfl) rfl) ?_
   clear ha220 a220; intro a221 ha221
   refine st_y ha221 rfl (y_loadB1 ha221 m218 (i := 22) rfl rfl rfl Try.underlying2 rfl) ?_
   clear ha221 a221; intro a222 ha222
   refine st_y ha222 rfl (y_min ha222 rfl rfl rfl) ?_
   clear ha222 a222; intro a223 ha223
   refine st_y ha223 rfl (y_fieldAddr ha223 (off := 6) rfl Try.underlying73 rfl (s := 0) (by kernel_rfl) rfl) ?_
   clear ha223 a223; intro a224 ha224
   refine wpList_plain rfl (fun K hK => ?_)
   refine e_store1 ha224 m218 22 rfl rfl rfl rfl rfl sz2pu (by dsimp only [List.set] <;> rfl) ?_
   clear m218; intro w225 m225 hB225
   clear hB225
   refine hK _ _ ?_; clear hK K
   refine wpList_nil ?_
   refine hK29 _ _ ?_; clear hK29; try clear K29
   refine wp_seq_k (fun K30 hK30 => ?_)
   refine wp_seq_k (fun K31 hK31 => ?_)
   have ha226 : Has 98 [(2, _), (3, _), (6, _), (7, _), (8, _), (9, _)] a224 := ha224.only [2, 3, 6, 7, 8, 9]; clear ha224
   refine wp_region_lit ?_
   refine st_y ha226 rfl (y_fieldAddr ha226 (off := 10) rfl Try.underlying34 rfl (s := 0) (by kernel_rfl) rfl) ?_
   clear ha226 a224; intro a227 ha227
   refine st_y ha227 rfl (y_loadB1 ha227 m225 (i := 20) rfl rfl rfl Try.underlying32 rfl) ?_
   clear ha227 a227; intro a228 ha228
   refine st_y ha228 rfl (y_move ha228 rfl) ?_
   clear ha228 a228; intro a229 ha229
   refine st_y ha229 rfl (y_fieldAddr ha229 (off := 5) rfl Try.underlying73 rfl (s := 0) (by kernel_rfl) rfl) ?_
   clear ha229 a229; intro a230 ha230
   refine st_y ha230 rfl (y_loadB1 ha230 m225 (i := 22) rfl rfl rfl Try.underlying2 rfl) ?_
   clear ha230 a230; intro a231 ha231
   obtain ⟨P2, hP2⟩ : ∃ x, (if cw = mk then pw else pw.map (·.add (mk * 2))) = x := ⟨_, rfl⟩
   obtain ⟨W2, hW2⟩ : ∃ x, (ws.take tq).drop mk = x := ⟨_, rfl⟩
   obtain ⟨C2, hC2⟩ : ∃ x, cw - mk = x := ⟨_, rfl⟩
   have hW2l : W2.length = tq - mk := by rw [← hW2, List.length_drop, List.length_take]; omega
   have hW2o : WrsOk W2 := fun e he => hok e (by rw [← hW2] at he; exact List.mem_of_mem_take (List.mem_of_mem_drop he))
   have h2b := (h2.takeL tq (by rw [List.length_map]; omega)).dropL mk (by rw [List.length_take, List.length_map]; omega)
   rw [hP2, hC2, ← List.map_take, ← List.map_drop, hW2, ← hW2l] at h2b
   refine st_y ha231 rfl (y_sliceLHn ha231 mk tq rfl rfl rfl Try.underlying32 sz55pu rfl rfl (by omega) (by omega) hP2 hC2 hW2l.symm) ?_
   clear ha231 a231; intro a232 ha232
   refine st_y ha232 rfl (y_len ha232 rfl Try.underlying32) ?_
   clear ha232 a232; intro a233 ha233
   refine st_y ha233 rfl (y_move ha233 rfl) ?_
   clear ha233 a233; intro a234 ha234
   refine wpList_nil ?_
   refine hK31 _ _ ?_; clear hK31; try clear K31
   refine wp_block ?_
   refine wp_loop_ghost (fun g a w => ∃ (k B B6 : Nat) (p : Option Addr) (c : Nat), k ≤ W2.length ∧ g = W2.length - k ∧ Has 98 [(6, .pointer (some ⟨B6, 0, none⟩)), (8, .int .i64 fi), (9, .pointer (some ⟨B, 0, none⟩)), (73, .slice P2 W2.length C2), (74, .int .i64 W2.length), (75, .int .i64 k)] a ∧ MemOk (cn w0) w0 [(6, .box B6 73 [.int .i64 0, .int .i64 0, .int .i64 0, .int .i64 0, .int .i64 0, .int .i64 0, .int .i64 0, .slice none 0 0]), (9, .box B 73 [.int .i64 vo, .int .i64 ch, .int .i64 cnt, .int .i64 sz, .int .i64 mk, .int .i64 tq, .int .i64 (min fl tq), .slice p ((pushL fi cnt (W2.take k)).map wrD).length c]), (10, .row (.slice p ((pushL fi cnt (W2.take k)).map wrD).length c) 55 2 ((pushL fi cnt (W2.take k)).map wrD))] w) (W2.length) ?_ ?_
   · have mz := m225.nilR 10 55 2
     exact ⟨0, _, _, _, _, Nat.zero_le _, rfl, ha234.only [6, 8, 9, 73, 74, 75], mz.ren [(6, 21), (9, 22), (10, 10)] (by decide)⟩
   ·
    clear ha234 m225
    rintro g a235 w235 ⟨k, B, B6, p, c, hkl, hg, ha235, m235⟩
    refine wp_seq_k (fun K32 hK32 => ?_)
    refine wp_region_lit ?_
    refine st_y ha235 rfl (y_lss ha235 rfl rfl) ?_
    clear ha235 a235; intro a236 ha236
    refine wpList_nil ?_
    refine hK32 _ _ ?_; clear hK32; try clear K32
    refine wp_seq_k (fun K33 hK33 => ?_)
    refine bool_cases ha236 (t := 76) rfl (fun hb237 ha237 => ?_) (fun hb237 ha237 => ?_)
    ·
     clear ha236
     try simp only [Q1x, Q2x, Q3x, Q4x, Q5x, Q6x, Q7x, Q8x, Q9x, Q0x, Qax, Qbx] at hb237
     have hk : k < W2.length := by omega
     obtain ⟨⟨xs, xl⟩, hes⟩ : ∃ e, W2[k]? = some e := ⟨_, List.getElem?_eq_getElem hk⟩
     have hok2 := hW2o _ (List.mem_of_getElem? hes)
     dsimp only at hok2
     refine wp_cond_true (ha237.ev (x := .tmp 76) rfl) ?_
     refine wp_skip ?_
     refine hK33 _ _ ?_; clear hK33; try clear K33
     refine wp_seq_k (fun K34 hK34 => ?_)
     refine wp_block ?_
     refine wp_seq_k (fun K35 hK35 => ?_)
     refine wp_region_lit ?_
     obtain ⟨gx238, ox238, vx238, hp238, hl238, hR238, hrg238⟩ := h2b.extA (k) (r := [.v (.int .i64 xs), .l 2 (xl.map itD)]) (wrD_get hes)
     cases hp238; clear hl238
     rcases hR238 with _ | ⟨hd238_0, _ | ⟨hd238_1, _ | _⟩⟩
     obtain rfl := hd238_0.v_out
     clear hd238_0
     obtain ⟨p239, c239, hv239, hw239⟩ := hd238_1.l_shape; subst hv239
     refine st_y ha237 rfl (y_idx ha237 rfl rfl Try.underlying32 sz55pu (k) rfl hk) ?_
     clear ha237 a236; intro a240 ha240
     refine st_y ha240 rfl (y_loadAt ha240 (hrg238 m235 rfl) rfl Try.underlying55 rfl sz55pu) ?_
     clear ha240 a240; intro a241 ha241
     refine wpList_plain rfl (fun K hK => ?_)
     refine e_alloc ha241 m235 101 zc55pu rfl ?_
     clear ha241 a241 m235; intro g242 a243 w243 ha243 m243 hB243 hg243
     clear hB243 hg243
     refine hK _ _ ?_; clear hK K
     refine wpList_plain rfl (fun K hK => ?_)
     refine e_storeW ha243 m243 101 rfl rfl rfl rfl rfl sz55pu ?_
     clear m243; intro w244 m244 hB244
     clear hB244
     refine hK _ _ ?_; clear hK K
     refine wpList_nil ?_
     refine hK35 _ _ ?_; clear hK35; try clear K35
     refine wp_seq_k (fun K36 hK36 => ?_)
     refine wp_region_lit ?_
     refine st_y ha243 rfl (y_loadBR ha243 m244 (i := 101) rfl rfl Try.underlying55 rfl sz55pu (by simp) (by dsimp only [List.drop, List.take] <;> rfl)) ?_
     clear ha243 a243; intro a245 ha245
     refine st_y ha245 rfl (y_move ha245 rfl) ?_
     clear ha245 a245; intro a246 ha246
     refine st_y ha246 rfl (y_fieldAddr ha246 (off := 2) rfl Try.underlying73 rfl (s := 0) (by kernel_rfl) rfl) ?_
     clear ha246 a246; intro a247 ha247
     refine st_y ha247 rfl (y_loadB1 ha247 m244 (i := 9) rfl rfl rfl Try.underlying3 rfl) ?_
     clear ha247 a247; intro a248 ha248
     refine wpList_plain rfl (fun K hK => ?_)
     refine e_call ha248 Try.func53 rfl rfl rfl rfl (itemsOf_any fi cnt _ xl _ _ _ _ ((hd238_1.now' m244 rfl).any) hok2.1 hok2.2 hfb hcb) ?_
     rintro e w249 ⟨p249, c249, rfl, hd249, hb249⟩
     have m250 := m244.callF 102 rfl hb249 hd249
     clear m244
     clear hb249 hd249
     refine ⟨_, rfl, fun a251 ha251 => ?_⟩; clear ha248 a248
     refine hK _ _ ?_; clear hK K
     refine st_y ha251 rfl (y_assign ha251 rfl) ?_
     clear ha251 a251; intro a252 ha252
     refine wpList_nil ?_
     refine hK36 _ _ ?_; clear hK36; try clear K36
     refine wp_seq_k (fun K37 hK37 => ?_)
     have ha253 : Has 98 [(6, _), (8, _), (9, _), (73, _), (74, _), (75, _), (11, _), (12, _)] a252 := ha252.only [6, 8, 9, 73, 74, 75, 11, 12]; clear ha252
     refine wp_region_lit ?_
     refine st_y ha253 rfl (y_move ha253 rfl) ?_
     clear ha253 a252; intro a254 ha254
     refine st_y ha254 rfl (y_len ha254 rfl Try.underlying23) ?_
     clear ha254 a254; intro a255 ha255
     refine st_y ha255 rfl (y_gtr ha255 rfl rfl) ?_
     clear ha255 a255; intro a256 ha256
     refine wpList_nil ?_
     refine hK37 _ _ ?_; clear hK37; try clear K37
     refine bool_cases ha256 (t := 86) rfl (fun hb257 ha257 => ?_) (fun hb257 ha257 => ?_)
     ·
      clear ha256
      try simp only [Q1x, Q2x, Q3x, Q4x, Q5x, Q6x, Q7x, Q8x, Q9x, Q0x, Qax, Qbx] at hb257
      refine wp_cond_true (ha257.ev (x := .tmp 86) rfl) ?_
      refine wp_region_lit ?_
      refine st_y ha257 rfl (y_fieldAddr ha257 (off := 7) rfl Try.underlying73 rfl (s := 0) (by kernel_rfl) rfl) ?_
      clear ha257 a256; intro a258 ha258
      refine st_y ha258 rfl (y_loadB1 ha258 m250 (i := 9) rfl rfl rfl Try.underlying32 rfl) ?_
      clear ha258 a258; intro a259 ha259
      refine st_y ha259 rfl (y_fieldAddr ha259 (off := 0) rfl Try.underlying55 rfl (s := 0) (by kernel_rfl) rfl) ?_
      clear ha259 a259; intro a260 ha260
      refine st_y ha260 rfl (y_loadB1 ha260 m250 (i := 101) rfl rfl rfl Try.underlying2 rfl) ?_
      clear ha260 a260; intro a261 ha261
      refine st_y ha261 rfl (y_move ha261 rfl) ?_
      clear ha261 a261; intro a262 ha262
      refine st_y ha262 rfl (y_build ha262 rfl zc55pu fl55pu rfl (by dsimp only [setL, List.set] <;> rfl)) ?_
      clear ha262 a262; intro a263 ha263
      refine wpList_plain rfl (fun K hK => ?_)
      refine e_litR ha263 m250 103 (mm := 2) rfl (.cons rfl rfl (.cons (.v _) (.cons (m250.rd (i := 102) rfl) .nil)) <| .nil) Try.underlying32 inf55pu rfl rfl rfl rfl rfl ?_
      clear ha263 a263 m250; intro g264 a265 w265 ha265 m265
      refine hK _ _ ?_; clear hK K
      have m267 := m265.freezeR 103 rfl; clear m265
      refine wpList_plain rfl (fun K hK => ?_)
      refine e_appR ha265 m267 10 rfl rfl rfl (m267.rd (i := 103) rfl) Try.underlying32 inf55pu rfl rfl (by decide) (by have := push_len fi cnt (W2.take k); rw [List.length_take] at this; simp; omega) rfl ?_
      clear ha265 a265 m267; intro p266 c266 a268 w268 ha268 m268
      refine hK _ _ ?_; clear hK K
      refine st_y ha268 rfl (y_fieldAddr ha268 (off := 7) rfl Try.underlying73 rfl (s := 0) (by kernel_rfl) rfl) ?_
      clear ha268 a268; intro a269 ha269
      refine wpList_plain rfl (fun K hK => ?_)
      refine e_store1 ha269 m268 9 rfl rfl rfl rfl rfl sz32pu (by dsimp only [List.set] <;> rfl) ?_
      clear m268; intro w270 m270 hB270
      clear hB270
      refine hK _ _ ?_; clear hK K
      refine wpList_nil ?_
      refine hK34 _ _ ?_; clear hK34; try clear K34
      have ha271 : Has 98 [(6, _), (8, _), (9, _), (73, _), (74, _), (75, _), (86, _)] a269 := ha269.only [6, 8, 9, 73, 74, 75, 86]; clear ha269
      refine wp_region_lit ?_
      refine st_y ha271 rfl (y_add ha271 rfl rfl (r := ((k + 1 : Nat) : Int)) (by rw [IntWalk.i64_in _ (by omega)]; omega)) ?_
      clear ha271 a269; intro a272 ha272
      refine st_y ha272 rfl (y_move ha272 rfl) ?_
      clear ha272 a272; intro a273 ha273
      refine wpList_nil ?_
      show ∃ n', n' < _ ∧ _
      have hE : (pushL fi cnt (W2.take k)).map wrD ++ [[D.v (.int .i64 xs), .l 2 ((itemsL fi cnt xl).map itD)]] = (pushL fi cnt (W2.take (k + 1))).map wrD := by rw [push_yes hes (by have h9 := hb257; rw [List.length_map] at h9; omega), List.map_append]; rfl
      rw [hE] at m270
      exact ⟨W2.length - (k + 1), by omega, k + 1, _, _, _, _, by omega, rfl, ha273.only [6, 8, 9, 73, 74, 75], m270.only [6, 9, 10]⟩
     ·
      clear ha256
      try simp only [Q1x, Q2x, Q3x, Q4x, Q5x, Q6x, Q7x, Q8x, Q9x, Q0x, Qax, Qbx] at hb257
      refine wp_cond_false (ha257.ev (x := .tmp 86) rfl) ?_
      refine wp_skip ?_
      refine hK34 _ _ ?_; clear hK34; try clear K34
      refine wp_region_lit ?_
      refine st_y ha257 rfl (y_add ha257 rfl rfl (r := ((k + 1 : Nat) : Int)) (by rw [IntWalk.i64_in _ (by omega)]; omega)) ?_
      clear ha257 a256; intro a274 ha274
      refine st_y ha274 rfl (y_move ha274 rfl) ?_
      clear ha274 a274; intro a275 ha275
      refine wpList_nil ?_
      show ∃ n', n' < _ ∧ _
      have hE : (pushL fi cnt (W2.take k)) = pushL fi cnt (W2.take (k + 1)) := (push_no hes (by have h9 := hb257; rw [List.length_map] at h9; omega)).symm
      rw [hE] at m250
      exact ⟨W2.length - (k + 1), by omega, k + 1, _, _, _, _, by omega, rfl, ha275.only [6, 8, 9, 73, 74, 75], m250.only [6, 9, 10]⟩
    ·
     clear ha236
     try simp only [Q1x, Q2x, Q3x, Q4x, Q5x, Q6x, Q7x, Q8x, Q9x, Q0x, Qax, Qbx] at hb237
     obtain rfl : k = W2.length := by omega
     refine wp_cond_false (ha237.ev (x := .tmp 76) rfl) ?_
     refine wp_exit ?_
     refine hK30 _ _ ?_; clear hK30; try clear K30
     refine wp_seq_k (fun K38 hK38 => ?_)
     refine wp_region_lit ?_
     refine st_y ha237 rfl (y_loadBR ha237 m235 (i := 9) rfl rfl Try.underlying73 rfl sz73pu (by simp) (by dsimp only [List.drop, List.take] <;> rfl)) ?_
     clear ha237 a236; intro a276 ha276
     refine wpList_plain rfl (fun K hK => ?_)
     refine e_storeW ha276 m235 6 rfl rfl rfl rfl rfl sz73pu ?_
     clear m235; intro w277 m277 hB277
     clear hB277
     refine hK _ _ ?_; clear hK K
     refine st_y ha276 rfl (y_assign ha276 rfl) ?_
     clear ha276 a276; intro a278 ha278
     refine wpList_nil ?_
     refine hK38 _ _ ?_; clear hK38; try clear K38
     refine wp_ret ?_
     try dsimp only [Exit.then, Exit.inBlock]
     refine (retCT (fn := Try.f34) ha278 m277 (i := 6) rfl rfl rfl rfl Try.underlying73 rfl sz73pu ?_)
     rw [List.take_length] at *
     have m279 := m277.freezeR 10 rfl; clear m277
     rw [hW2]
     exact ⟨_, _, rfl, m279.outF (i := 10) rfl, m279.below⟩
  ·
   clear ha210
   try simp only [Q1x, Q2x, Q3x, Q4x, Q5x, Q6x, Q7x, Q8x, Q9x, Q0x, Qax, Qbx] at hb211
   obtain rfl : cnt = pe := hcnt.2 (by omega)
   refine wp_cond_false (ha211.ev (x := .tmp 56) rfl) ?_
   refine wp_skip ?_
   refine hK27 _ _ ?_; clear hK27; try clear K27
   refine wp_seq_k (fun K39 hK39 => ?_)
   have ha280 : Has 98 [(2, _), (3, _), (6, _), (7, _), (8, _), (9, _)] a210 := ha211.only [2, 3, 6, 7, 8, 9]; clear ha211
   refine wp_region_lit ?_
   refine st_y ha280 rfl (y_fieldAddr ha280 (off := 8) rfl Try.underlying34 rfl (s := 0) (by kernel_rfl) rfl) ?_
   clear ha280 a210; intro a281 ha281
   refine st_y ha281 rfl (y_loadB1 ha281 m203 (i := 20) rfl rfl rfl Try.underlying2 rfl) ?_
   clear ha281 a281; intro a282 ha282
   refine st_y ha282 rfl (y_fieldAddr ha282 (off := 5) rfl Try.underlying73 rfl (s := 0) (by kernel_rfl) rfl) ?_
   clear ha282 a282; intro a283 ha283
   refine st_y ha283 rfl (y_loadB1 ha283 m203 (i := 22) rfl rfl rfl Try.underlying2 rfl) ?_
   clear ha283 a283; intro a284 ha284
   refine st_y ha284 rfl (y_min ha284 rfl rfl rfl) ?_
   clear ha284 a284; intro a285 ha285
   refine st_y ha285 rfl (y_fieldAddr ha285 (off := 6) rfl Try.underlying73 rfl (s := 0) (by kernel_rfl) rfl) ?_
   clear ha285 a285; intro a286 ha286
   refine wpList_plain rfl (fun K hK => ?_)
   refine e_store1 ha286 m203 22 rfl rfl rfl rfl rfl sz2pu (by dsimp only [List.set] <;> rfl) ?_
   clear m203; intro w287 m287 hB287
   clear hB287
   refine hK _ _ ?_; clear hK K
   refine wpList_nil ?_
   refine hK39 _ _ ?_; clear hK39; try clear K39
   refine wp_seq_k (fun K40 hK40 => ?_)
   refine wp_seq_k (fun K41 hK41 => ?_)
   have ha288 : Has 98 [(2, _), (3, _), (6, _), (7, _), (8, _), (9, _)] a286 := ha286.only [2, 3, 6, 7, 8, 9]; clear ha286
   refine wp_region_lit ?_
   refine st_y ha288 rfl (y_fieldAddr ha288 (off := 10) rfl Try.underlying34 rfl (s := 0) (by kernel_rfl) rfl) ?_
   clear ha288 a286; intro a289 ha289
   refine st_y ha289 rfl (y_loadB1 ha289 m287 (i := 20) rfl rfl rfl Try.underlying32 rfl) ?_
   clear ha289 a289; intro a290 ha290
   refine st_y ha290 rfl (y_move ha290 rfl) ?_
   clear ha290 a290; intro a291 ha291
   refine st_y ha291 rfl (y_fieldAddr ha291 (off := 5) rfl Try.underlying73 rfl (s := 0) (by kernel_rfl) rfl) ?_
   clear ha291 a291; intro a292 ha292
   refine st_y ha292 rfl (y_loadB1 ha292 m287 (i := 22) rfl rfl rfl Try.underlying2 rfl) ?_
   clear ha292 a292; intro a293 ha293
   obtain ⟨P2, hP2⟩ : ∃ x, (if cw = mk then pw else pw.map (·.add (mk * 2))) = x := ⟨_, rfl⟩
   obtain ⟨W2, hW2⟩ : ∃ x, (ws.take tq).drop mk = x := ⟨_, rfl⟩
   obtain ⟨C2, hC2⟩ : ∃ x, cw - mk = x := ⟨_, rfl⟩
   have hW2l : W2.length = tq - mk := by rw [← hW2, List.length_drop, List.length_take]; omega
   have hW2o : WrsOk W2 := fun e he => hok e (by rw [← hW2] at he; exact List.mem_of_mem_take (List.mem_of_mem_drop he))
   have h2b := (h2.takeL tq (by rw [List.length_map]; omega)).dropL mk (by rw [List.length_take, List.length_map]; omega)
   rw [hP2, hC2, ← List.map_take, ← List.map_drop, hW2, ← hW2l] at h2b
   refine st_y ha293 rfl (y_sliceLHn ha293 mk tq rfl rfl rfl Try.underlying32 sz55pu rfl rfl (by omega) (by omega) hP2 hC2 hW2l.symm) ?_
   clear ha293 a293; intro a294 ha294
   refine st_y ha294 rfl (y_len ha294 rfl Try.underlying32) ?_
   clear ha294 a294; intro a295 ha295
   refine st_y ha295 rfl (y_move ha295 rfl) ?_
   clear ha295 a295; intro a296 ha296
   refine wpList_nil ?_
   refine hK41 _ _ ?_; clear hK41; try clear K41
   refine wp_block ?_
   refine wp_loop_ghost (fun g a w => ∃ (k B B6 : Nat) (p : Option Addr) (c : Nat), k ≤ W2.length ∧ g = W2.length - k ∧ Has 98 [(6, .pointer (some ⟨B6, 0, none⟩)), (8, .int .i64 fi), (9, .pointer (some ⟨B, 0, none⟩)), (73, .slice P2 W2.length C2), (74, .int .i64 W2.length), (75, .int .i64 k)] a ∧ MemOk (cn w0) w0 [(6, .box B6 73 [.int .i64 0, .int .i64 0, .int .i64 0, .int .i64 0, .int .i64 0, .int .i64 0, .int .i64 0, .slice none 0 0]), (9, .box B 73 [.int .i64 vo, .int .i64 ch, .int .i64 cnt, .int .i64 sz, .int .i64 mk, .int .i64 tq, .int .i64 (min fl tq), .slice p ((pushL fi cnt (W2.take k)).map wrD).length c]), (10, .row (.slice p ((pushL fi cnt (W2.take k)).map wrD).length c) 55 2 ((pushL fi cnt (W2.take k)).map wrD))] w) (W2.length) ?_ ?_
   · have mz := m287.nilR 10 55 2
     exact ⟨0, _, _, _, _, Nat.zero_le _, rfl, ha296.only [6, 8, 9, 73, 74, 75], mz.ren [(6, 21), (9, 22), (10, 10)] (by decide)⟩
   ·
    clear ha296 m287
    rintro g a297 w297 ⟨k, B, B6, p, c, hkl, hg, ha297, m297⟩
    refine wp_seq_k (fun K42 hK42 => ?_)
    refine wp_region_lit ?_
    refine st_y ha297 rfl (y_lss ha297 rfl rfl) ?_
    clear ha297 a297; intro a298 ha298
    refine wpList_nil ?_
    refine hK42 _ _ ?_; clear hK42; try clear K42
    refine wp_seq_k (fun K43 hK43 => ?_)
    refine bool_cases ha298 (t := 76) rfl (fun hb299 ha299 => ?_) (fun hb299 ha299 => ?_)
    ·
     clear ha298
     try simp only [Q1x, Q2x, Q3x, Q4x, Q5x, Q6x, Q7x, Q8x, Q9x, Q0x, Qax, Qbx] at hb299
     have hk : k < W2.length := by omega
     obtain ⟨⟨xs, xl⟩, hes⟩ : ∃ e, W2[k]? = some e := ⟨_, List.getElem?_eq_getElem hk⟩
     have hok2 := hW2o _ (List.mem_of_getElem? hes)
     dsimp only at hok2
     refine wp_cond_true (ha299.ev (x := .tmp 76) rfl) ?_
     refine wp_skip ?_
     refine hK43 _ _ ?_; clear hK43; try clear K43
     refine wp_seq_k (fun K44 hK44 => ?_)
     refine wp_block ?_
     refine wp_seq_k (fun K45 hK45 => ?_)
     refine wp_region_lit ?_
     obtain ⟨gx300, ox300, vx300, hp300, hl300, hR300, hrg300⟩ := h2b.extA (k) (r := [.v (.int .i64 xs), .l 2 (xl.map itD)]) (wrD_get hes)
     cases hp300; clear hl300
     rcases hR300 with _ | ⟨hd300_0, _ | ⟨hd300_1, _ | _⟩⟩
     obtain rfl := hd300_0.v_out
     clear hd300_0
     obtain ⟨p301, c301, hv301, hw301⟩ := hd300_1.l_shape; subst hv301
     refine st_y ha299 rfl (y_idx ha299 rfl rfl Try.underlying32 sz55pu (k) rfl hk) ?_
     clear ha299 a298; intro a302 ha302
     refine st_y ha302 rfl (y_loadAt ha302 (hrg300 m297 rfl) rfl Try.underlying55 rfl sz55pu) ?_
     clear ha302 a302; intro a303 ha303
     refine wpList_plain rfl (fun K hK => ?_)
     refine e_alloc ha303 m297 101 zc55pu rfl ?_
     clear ha303 a303 m297; intro g304 a305 w305 ha305 m305 hB305 hg305
     clear hB305 hg305
     refine hK _ _ ?_; clear hK K
     refine wpList_plain rfl (fun K hK => ?_)
     refine e_storeW ha305 m305 101 rfl rfl rfl rfl rfl sz55pu ?_
     clear m305; intro w306 m306 hB306
     clear hB306
     refine hK _ _ ?_; clear hK K
     refine wpList_nil ?_
     refine hK45 _ _ ?_; clear hK45; try clear K45
     refine wp_seq_k (fun K46 hK46 => ?_)
     refine wp_region_lit ?_
     refine st_y ha305 rfl (y_loadBR ha305 m306 (i := 101) rfl rfl Try.underlying55 rfl sz55pu (by simp) (by dsimp only [List.drop, List.take] <;> rfl)) ?_
     clear ha305 a305; intro a307 ha307
     refine st_y ha307 rfl (y_move ha307 rfl) ?_
     clear ha307 a307; intro a308 ha308
     refine st_y ha308 rfl (y_fieldAddr ha308 (off := 2) rfl Try.underlying73 rfl (s := 0) (by kernel_rfl) rfl) ?_
     clear ha308 a308; intro a309 ha309
     refine st_y ha309 rfl (y_loadB1 ha309 m306 (i := 9) rfl rfl rfl Try.underlying3 rfl) ?_
     clear ha309 a309; intro a310 ha310
     refine wpList_plain rfl (fun K hK => ?_)
     refine e_call ha310 Try.func53 rfl rfl rfl rfl (itemsOf_any fi cnt _ xl _ _ _ _ ((hd300_1.now' m306 rfl).any) hok2.1 hok2.2 hfb hcb) ?_
     rintro e w311 ⟨p311, c311, rfl, hd311, hb311⟩
     have m312 := m306.callF 102 rfl hb311 hd311
     clear m306
     clear hb311 hd311
     refine ⟨_, rfl, fun a313 ha313 => ?_⟩; clear ha310 a310
     refine hK _ _ ?_; clear hK K
     refine st_y ha313 rfl (y_assign ha313 rfl) ?_
     clear ha313 a313; intro a314 ha314
     refine wpList_nil ?_
     refine hK46 _ _ ?_; clear hK46; try clear K46
     refine wp_seq_k (fun K47 hK47 => ?_)
     have ha315 : Has 98 [(6, _), (8, _), (9, _), (73, _), (74, _), (75, _), (11, _), (12, _)] a314 := ha314.only [6, 8, 9, 73, 74, 75, 11, 12]; clear ha314
     refine wp_region_lit ?_
     refine st_y ha315 rfl (y_move ha315 rfl) ?_
     clear ha315 a314; intro a316 ha316
     refine st_y ha316 rfl (y_len ha316 rfl Try.underlying23) ?_
     clear ha316 a316; intro a317 ha317
     refine st_y ha317 rfl (y_gtr ha317 rfl rfl) ?_
     clear ha317 a317; intro a318 ha318
     refine wpList_nil ?_
     refine hK47 _ _ ?_; clear hK47; try clear K47
     refine bool_cases ha318 (t := 86) rfl (fun hb319 ha319 => ?_) (fun hb319 ha319 => ?_)
     ·
      clear ha318
      try simp only [Q1x, Q2x, Q3x, Q4x, Q5x, Q6x, Q7x, Q8x, Q9x, Q0x, Qax, Qbx] at hb319
      refine wp_cond_true (ha319.ev (x := .tmp 86) rfl) ?_
      refine wp_region_lit ?_
      refine st_y ha319 rfl (y_fieldAddr ha319 (off := 7) rfl Try.underlying73 rfl (s := 0) (by kernel_rfl) rfl) ?_
      clear ha319 a318; intro a320 ha320
      refine st_y ha320 rfl (y_loadB1 ha320 m312 (i := 9) rfl rfl rfl Try.underlying32 rfl) ?_
      clear ha320 a320; intro a321 ha321
      refine st_y ha321 rfl (y_fieldAddr ha321 (off := 0) rfl Try.underlying55 rfl (s := 0) (by kernel_rfl) rfl) ?_
      clear ha321 a321; intro a322 ha322
      refine st_y ha322 rfl (y_loadB1 ha322 m312 (i := 101) rfl rfl rfl Try.underlying2 rfl) ?_
      clear ha322 a322; intro a323 ha323
      refine st_y ha323 rfl (y_move ha323 rfl) ?_
      clear ha323 a323; intro a324 ha324
      refine st_y ha324 rfl (y_build ha324 rfl zc55pu fl55pu rfl (by dsimp only [setL, List.set] <;> rfl)) ?_
      clear ha324 a324; intro a325 ha325
      refine wpList_plain rfl (fun K hK => ?_)
      refine e_litR ha325 m312 103 (mm := 2) rfl (.cons rfl rfl (.cons (.v _) (.cons (m312.rd (i := 102) rfl) .nil)) <| .nil) Try.underlying32 inf55pu rfl rfl rfl rfl rfl ?_
      clear ha325 a325 m312; intro g326 a327 w327 ha327 m327
      refine hK _ _ ?_; clear hK K
      have m329 := m327.freezeR 103 rfl; clear m327
      refine wpList_plain rfl (fun K hK => ?_)
      refine e_appR ha327 m329 10 rfl rfl rfl (m329.rd (i := 103) rfl) Try.underlying32 inf55pu rfl rfl (by decide) (by have := push_len fi cnt (W2.take k); rw [List.length_take] at this; simp; omega) rfl ?_
      clear ha327 a327 m329; intro p328 c328 a330 w330 ha330 m330
      refine hK _ _ ?_; clear hK K
      refine st_y ha330 rfl (y_fieldAddr ha330 (off := 7) rfl Try.underlying73 rfl (s := 0) (by kernel_rfl) rfl) ?_
      clear ha330 a330; intro a331 ha331
      refine wpList_plain rfl (fun K hK => ?_)
      refine e_store1 ha331 m330 9 rfl rfl rfl rfl rfl sz32pu (by dsimp only [List.set] <;> rfl) ?_
      clear m330; intro w332 m332 hB332
      clear hB332
      refine hK _ _ ?_; clear hK K
      refine wpList_nil ?_
      refine hK44 _ _ ?_; clear hK44; try clear K44
      have ha333 : Has 98 [(6, _), (8, _), (9, _), (73, _), (74, _), (75, _), (86, _)] a331 := ha331.only [6, 8, 9, 73, 74, 75, 86]; clear ha331
      refine wp_region_lit ?_
      refine st_y ha333 rfl (y_add ha333 rfl rfl (r := ((k + 1 : Nat) : Int)) (by rw [IntWalk.i64_in _ (by omega)]; omega)) ?_
      clear ha333 a331; intro a334 ha334
      refine st_y ha334 rfl (y_move ha334 rfl) ?_
      clear ha334 a334; intro a335 ha335
      refine wpList_nil ?_
      show ∃ n', n' < _ ∧ _
      have hE : (pushL fi cnt (W2.take k)).map wrD ++ [[D.v (.int .i64 xs), .l 2 ((itemsL fi cnt xl).map itD)]] = (pushL fi cnt (W2.take (k + 1))).map wrD := by rw [push_yes hes (by have h9 := hb319; rw [List.length_map] at h9; omega), List.map_append]; rfl
      rw [hE] at m332
      exact ⟨W2.length - (k + 1), by omega, k + 1, _, _, _, _, by omega, rfl, ha335.only [6, 8, 9, 73, 74, 75], m332.only [6, 9, 10]⟩
     ·
      clear ha318
      try simp only [Q1x, Q2x, Q3x, Q4x, Q5x, Q6x, Q7x, Q8x, Q9x, Q0x, Qax, Qbx] at hb319
      refine wp_cond_false (ha319.ev (x := .tmp 86) rfl) ?_
      refine wp_skip ?_
      refine hK44 _ _ ?_; clear hK44; try clear K44
      refine wp_region_lit ?_
      refine st_y ha319 rfl (y_add ha319 rfl rfl (r := ((k + 1 : Nat) : Int)) (by rw [IntWalk.i64_in _ (by omega)]; omega)) ?_
      clear ha319 a318; intro a336 ha336
      refine st_y ha336 rfl (y_move ha336 rfl) ?_
      clear ha336 a336; intro a337 ha337
      refine wpList_nil ?_
      show ∃ n', n' < _ ∧ _
      have hE : (pushL fi cnt (W2.take k)) = pushL fi cnt (W2.take (k + 1)) := (push_no hes (by have h9 := hb319; rw [List.length_map] at h9; omega)).symm
      rw [hE] at m312
      exact ⟨W2.length - (k + 1), by omega, k + 1, _, _, _, _, by omega, rfl, ha337.only [6, 8, 9, 73, 74, 75], m312.only [6, 9, 10]⟩
    ·
     clear ha298
     try simp only [Q1x, Q2x, Q3x, Q4x, Q5x, Q6x, Q7x, Q8x, Q9x, Q0x, Qax, Qbx] at hb299
     obtain rfl : k = W2.length := by omega
     refine wp_cond_false (ha299.ev (x := .tmp 76) rfl) ?_
     refine wp_exit ?_
     refine hK40 _ _ ?_; clear hK40; try clear K40
     refine wp_seq_k (fun K48 hK48 => ?_)
     refine wp_region_lit ?_
     refine st_y ha299 rfl (y_loadBR ha299 m297 (i := 9) rfl rfl Try.underlying73 rfl sz73pu (by simp) (by dsimp only [List.drop, List.take] <;> rfl)) ?_
     clear ha299 a298; intro a338 ha338
     refine wpList_plain rfl (fun K hK => ?_)
     refine e_storeW ha338 m297 6 rfl rfl rfl rfl rfl sz73pu ?_
     clear m297; intro w339 m339 hB339
     clear hB339
     refine hK _ _ ?_; clear hK K
     refine st_y ha338 rfl (y_assign ha338 rfl) ?_
     clear ha338 a338; intro a340 ha340
     refine wpList_nil ?_
     refine hK48 _ _ ?_; clear hK48; try clear K48
     refine wp_ret ?_
     try dsimp only [Exit.then, Exit.inBlock]
     refine (retCT (fn := Try.f34) ha340 m339 (i := 6) rfl rfl rfl rfl Try.underlying73 rfl sz73pu ?_)
     rw [List.take_length] at *
     have m341 := m339.freezeR 10 rfl; clear m339
     rw [hW2]
     exact ⟨_, _, rfl, m341.outF (i := 10) rfl, m341.below⟩
end Go.Proofs.Ytocfbocdnklllaa.K
