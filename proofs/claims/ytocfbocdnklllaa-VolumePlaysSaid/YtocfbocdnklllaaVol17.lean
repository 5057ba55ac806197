/- volume: the reference's Do; the seat's calls. -/
import Derived.Test.YtocfbocdnklllaaVol16
namespace Go.Proofs.Ytocfbocdnklllaa.K
open Go.ChangeShapes Go.WideShapes Go.ChangeAt Go.RowKit
set_option linter.unusedVariables false
set_option linter.unusedSimpArgs false

theorem fl45rD0 : flatS Try.prog 45 [.int .i64 0, .int .i64 0, .int .i64 0, .int .i64 0, .slice none 0 0] = true := by kernel_rfl
theorem sz25rD0 : (Try.prog.info? 25).map (·.size) = some 10 := by kernel_rfl
theorem sz34rD0 : (Try.prog.info? 34).map (·.size) = some 11 := by kernel_rfl
theorem sz45rD0 : (Try.prog.info? 45).map (·.size) = some 5 := by kernel_rfl
theorem zc34rD0 : ((Try.prog.info? 34).bind (·.zero)).map (·.cells.toList) = some [.int .i64 0, .int .i64 0, .int .i64 0, .int .i64 0, .slice none 0 0, .int .i64 0, .int .i64 0, .bool false, .int .i64 0, .slice none 0 0, .slice none 0 0] := by kernel_rfl
theorem zc45rD0 : ((Try.prog.info? 45).bind (·.zero)).map (·.cells.toList) = some [.int .i64 0, .int .i64 0, .int .i64 0, .int .i64 0, .slice none 0 0] := by kernel_rfl
theorem fl45rD4 : flatS Try.prog 45 [.int .i64 0, .int .i64 0, .int .i64 0, .int .i64 0, .slice none 0 0] = true := by kernel_rfl
theorem sz25rD4 : (Try.prog.info? 25).map (·.size) = some 10 := by kernel_rfl
theorem sz34rD4 : (Try.prog.info? 34).map (·.size) = some 11 := by kernel_rfl
theorem sz45rD4 : (Try.prog.info? 45).map (·.size) = some 5 := by kernel_rfl
theorem zc34rD4 : ((Try.prog.info? 34).bind (·.zero)).map (·.cells.toList) = some [.int .i64 0, .int .i64 0, .int .i64 0, .int .i64 0, .slice none 0 0, .int .i64 0, .int .i64 0, .bool false, .int .i64 0, .slice none 0 0, .slice none 0 0] := by kernel_rfl
theorem zc45rD4 : ((Try.prog.info? 45).bind (·.zero)).map (·.cells.toList) = some [.int .i64 0, .int .i64 0, .int .i64 0, .int .i64 0, .slice none 0 0] := by kernel_rfl
theorem fl45rD5 : flatS Try.prog 45 [.int .i64 0, .int .i64 0, .int .i64 0, .int .i64 0, .slice none 0 0] = true := by kernel_rfl
theorem sz25rD5 : (Try.prog.info? 25).map (·.size) = some 10 := by kernel_rfl
theorem sz34rD5 : (Try.prog.info? 34).map (·.size) = some 11 := by kernel_rfl
theorem sz45rD5 : (Try.prog.info? 45).map (·.size) = some 5 := by kernel_rfl
theorem zc34rD5 : ((Try.prog.info? 34).bind (·.zero)).map (·.cells.toList) = some [.int .i64 0, .int .i64 0, .int .i64 0, .int .i64 0, .slice none 0 0, .int .i64 0, .int .i64 0, .bool false, .int .i64 0, .slice none 0 0, .slice none 0 0] := by kernel_rfl
theorem zc45rD5 : ((Try.prog.info? 45).bind (·.zero)).map (·.cells.toList) = some [.int .i64 0, .int .i64 0, .int .i64 0, .int .i64 0, .slice none 0 0] := by kernel_rfl
theorem sz67sI : (Try.prog.info? 67).map (·.size) = some 2 := by kernel_rfl


theorem fl25cm : flatS Try.prog 25 [.int .i64 0, .int .i64 0, .int .i64 0, .int .i64 0, .int .i64 0, .slice none 0 0, .int .i64 0, .int .i64 0, .int .i64 0, .slice none 0 0] = true := by kernel_rfl
theorem inf5cm : (Try.prog.info? 5).map (fun i => (i.zero, i.size, i.bytes)) = some (some (.int .u8 0), 1, 1) := by kernel_rfl
theorem sz2cm : (Try.prog.info? 2).map (·.size) = some 1 := by kernel_rfl
theorem sz3cm : (Try.prog.info? 3).map (·.size) = some 1 := by kernel_rfl
theorem sz23cm : (Try.prog.info? 23).map (·.size) = some 1 := by kernel_rfl
theorem sz25cm : (Try.prog.info? 25).map (·.size) = some 10 := by kernel_rfl
theorem sz34cm : (Try.prog.info? 34).map (·.size) = some 11 := by kernel_rfl
theorem zc25cm : ((Try.prog.info? 25).bind (·.zero)).map (·.cells.toList) = some [.int .i64 0, .int .i64 0, .int .i64 0, .int .i64 0, .int .i64 0, .slice none 0 0, .int .i64 0, .int .i64 0, .int .i64 0, .slice none 0 0] := by kernel_rfl

theorem doR_err {bl sz to ne fl : Int} {hi : Bool} {pins : List Int} {ws : List (Int × List (Int × List Int))} {kd at0 ix : Int} {it : List (Int × List Int)} {ne' fl' e9 : Int} {hi' : Bool} {ws' : List (Int × List (Int × List Int))} (h : doR bl sz to ne fl hi pins ws kd at0 ix it = (ne', hi', fl', ws', e9)) (he : ¬ e9 = 0) : ne' = ne ∧ hi' = hi ∧ fl' = fl ∧ ws' = ws := by
 unfold doR putR pruneR takeR publishR wrR at h
 repeat' split at h
 all_goals (simp only [Prod.mk.injEq] at h; obtain ⟨rfl, rfl, rfl, rfl, rfl⟩ := h; first | exact ⟨rfl, rfl, rfl, rfl⟩ | exact absurd rfl he | (exfalso; revert he; simp; done) | simp_all)
theorem pinR_err {fl at0 n : Int} {hi : Bool} {pins pins' : List Int} {e9 : Int} (h : pinR hi fl at0 n pins = (pins', e9)) (he : ¬ e9 = 0) : pins' = pins := by
 unfold pinR at h
 split at h
 all_goals (simp only [Prod.mk.injEq] at h; obtain ⟨rfl, rfl⟩ := h; first | rfl | exact absurd rfl he)
theorem unpinR_err {at0 : Int} {hi : Bool} {pins pins' : List Int} {e9 : Int} (h : unpinR hi at0 pins = (pins', e9)) (he : ¬ e9 = 0) : pins' = pins := by
 unfold unpinR at h
 split at h
 all_goals (simp only [Prod.mk.injEq] at h; obtain ⟨rfl, rfl⟩ := h; first | rfl | exact absurd rfl he)
theorem small_snoc {l : List (Int × List Int)} {k : Nat} {xb : Int} {xd : List Int} (h : ∀ j, j < k → (l.getD j i0).2.length ≤ 40) (hes : l[k]? = some (xb, xd)) (hk : xd.length ≤ 40) : ∀ j, j < k + 1 → (l.getD j i0).2.length ≤ 40 := fun j hj => by
 rcases Nat.lt_or_ge j k with h1 | h1
 · exact h j h1
 · obtain rfl : j = k := by omega
   rw [getI hes]; exact hk
theorem small_all {l : List (Int × List Int)} (h : ∀ j, j < l.length → (l.getD j i0).2.length ≤ 40) : ∀ e ∈ l, e.2.length ≤ 40 := fun e he => by
 obtain ⟨j, hj, rfl⟩ := List.getElem_of_mem he
 have := h j hj
 rwa [List.getD, List.getElem?_eq_getElem hj] at this
theorem b2 {a b : Int} (ha : 0 ≤ a ∧ a ≤ 255) (hb : 0 ≤ b ∧ b ≤ 255) : ∀ j, j < [a, b].length → 0 ≤ [a, b].getD j 0 ∧ [a, b].getD j 0 ≤ 255 := fun j hj => by
 match j, hj with
 | 0, _ => exact ha
 | 1, _ => exact hb
theorem b3 {a b c : Int} (ha : 0 ≤ a ∧ a ≤ 255) (hb : 0 ≤ b ∧ b ≤ 255) (hc : 0 ≤ c ∧ c ≤ 255) : ∀ j, j < [a, b, c].length → 0 ≤ [a, b, c].getD j 0 ∧ [a, b, c].getD j 0 ≤ 255 := fun j hj => by
 match j, hj with
 | 0, _ => exact ha
 | 1, _ => exact hb
 | 2, _ => exact hc
def SmallI (l : List (Int × List Int)) : Prop := l.length ≤ 12 ∧ ∀ e ∈ l, e.2.length ≤ 40
theorem SmallI.ok {l : List (Int × List Int)} (h : SmallI l) : ItsOk l := fun e he => Nat.le_trans (h.2 e he) (by decide)
set_option maxRecDepth 100000
set_option maxHeartbeats 4000000
theorem rDo (X : Cx) (vo bl sz pe to ne fl : Int) (hi : Bool) (place pins : List Int) (ws : List (Int × List (Int × List Int))) (items : List (Int × List Int)) (pp pn pw : Option Addr) (cp cn9 cw : Nat) (pi : Option Addr) (ci : Nat) (kd v1 v2 v3 v4 v5 at0 ix : Int) (q1 : Option Addr) (n1 c1 : Nat) (w0 : World) (hk4 : kd ≠ 4) (hk5 : kd ≠ 5) (hne : -1000000000000000 ≤ ne ∧ ne ≤ 1000000000000000) (hl : ws.length ≤ 900000) (hp : pins.length ≤ 1000000) (hil : items.length ≤ 1000000) (hio : ItsOk items) (m0 : MemOk X w0 [(1, .dat (.slice pp place.length cp) (.ns .i64 place)), (2, .dat (.slice pn pins.length cn9) (.ns .i64 pins)), (3, .dat (.slice pw (ws.map wrD).length cw) (.l 2 (ws.map wrD))), (4, .dat (.slice pi items.length ci) (.l 2 (items.map itD)))] w0) :
   Calls Try.prog 17 #[.agg #[.int .i64 vo, .int .i64 bl, .int .i64 sz, .int .i64 pe, .slice pp place.length cp, .int .i64 to, .int .i64 ne, .bool hi, .int .i64 fl, .slice pn pins.length cn9, .slice pw (ws.map wrD).length cw], .agg #[.int .i64 kd, .int .i64 v1, .int .i64 v2, .int .i64 v3, .int .i64 v4, .slice q1 n1 c1, .int .i64 v5, .int .i64 at0, .int .i64 ix, .slice pi items.length ci]] w0 fun e w' => ∃ (ne' : Int) (hi' : Bool) (fl' : Int) (ws' : List (Int × List (Int × List Int))) (e9 rl rf rn : Int) (p3' : Option Addr) (d3' : Nat), e = .returned (.tuple #[.agg #[.int .i64 vo, .int .i64 bl, .int .i64 sz, .int .i64 pe, .slice pp place.length cp, .int .i64 to, .int .i64 ne', .bool hi', .int .i64 fl', .slice pn pins.length cn9, .slice p3' (ws'.map wrD).length d3'], .agg #[.int .i64 e9, .int .i64 rl, .int .i64 rf, .int .i64 rn, .slice none 0 0]]) ∧ doR bl sz to ne fl hi pins ws kd at0 ix items = (ne', hi', fl', ws', e9) ∧ ((e9 ≠ 0 ∧ rl = 0 ∧ rf = 0 ∧ rn = 0) ∨ (e9 = 0 ∧ rl = ws'.length ∧ rf = fl' ∧ rn = ne')) ∧ MemOk X w0 [(1, .dat (.slice pp place.length cp) (.ns .i64 place)), (2, .dat (.slice pn pins.length cn9) (.ns .i64 pins)), (3, .dat (.slice pw (ws.map wrD).length cw) (.l 2 (ws.map wrD))), (4, .dat (.slice pi items.length ci) (.l 2 (items.map itD))), (7, .dat (.slice p3' (ws'.map wrD).length d3') (.l 2 (ws'.map wrD)))] w' := by
 refine enter (fn := Try.f17) Try.func17 rfl Try.ntmps17 rfl (fun a0 ha0 => ?_)
 simp only [List.zipIdx_cons, List.zipIdx_nil, List.map_cons, List.map_nil, Nat.reduceAdd, Nat.zero_add] at ha0
 refine wp_seq_k (fun K0 hK0 => ?_)
 refine wp_region_lit ?_
 refine wpList_plain rfl (fun K hK => ?_)
 refine e_box ha0 m0 20 (cs := [_, _, _, _, _, _, _, _, _, _, _]) rfl rfl rfl ?_
 clear ha0 a0 m0; intro g1 a2 w2 ha2 m2 hB2 hg2
 clear hB2 hg2
 refine hK _ _ ?_; clear hK K
 refine wpList_plain rfl (fun K hK => ?_)
 refine e_box ha2 m2 21 (cs := [_, _, _, _, _, _, _, _, _, _]) rfl rfl rfl ?_
 clear ha2 a2 m2; intro g3 a4 w4 ha4 m4 hB4 hg4
 clear hB4 hg4
 refine hK _ _ ?_; clear hK K
 refine wpList_plain rfl (fun K hK => ?_)
 refine e_alloc ha4 m4 22 zc34rD0 rfl ?_
 clear ha4 a4 m4; intro g5 a6 w6 ha6 m6 hB6 hg6
 clear hB6 hg6
 refine hK _ _ ?_; clear hK K
 refine wpList_plain rfl (fun K hK => ?_)
 refine e_alloc ha6 m6 23 zc45rD0 rfl ?_
 clear ha6 a6 m6; intro g7 a8 w8 ha8 m8 hB8 hg8
 clear hB8 hg8
 refine hK _ _ ?_; clear hK K
 refine wpList_nil ?_
 refine hK0 _ _ ?_; clear hK0; try clear K0
 refine wp_seq_k (fun K1 hK1 => ?_)
 refine wp_region_lit ?_
 refine st_y ha8 rfl (y_loadBR ha8 m8 (i := 20) rfl rfl Try.underlying34 rfl sz34rD0 (by simp) (by dsimp only [List.drop, List.take] <;> rfl)) ?_
 clear ha8 a8; intro a9 ha9
 refine st_y ha9 rfl (y_loadBR ha9 m8 (i := 21) rfl rfl Try.underlying25 rfl sz25rD0 (by simp) (by dsimp only [List.drop, List.take] <;> rfl)) ?_
 clear ha9 a9; intro a10 ha10
 refine wpList_plain rfl (fun K hK => ?_)
 refine e_call ha10 Try.func44 rfl rfl rfl rfl (rdone _ _ _ _ _ _ _ _ _ place pins ws items _ _ _ _ _ _ _ _ kd _ _ _ _ _ _ _ _ _ _ _ hk4 hk5 hne hl hp hil hio (m8.into [(1, 1), (2, 2), (3, 3), (4, 4)] (by decide) rfl)) ?_
 rintro e w11 ⟨ne1, hi1, fl1, ws1, e1, p11, c11, rfl, hR, hm11⟩
 have mx11 := m8.back hm11 [(1, 1), (2, 2), (3, 3), (4, 4), (24, 7)] (by decide); clear hm11 m8
 have m11 : MemOk _ _ [(1, _), (2, _), (3, _), (4, _), (24, _), (20, _), (21, _), (22, _), (23, _)] _ := mx11.only [1, 2, 3, 4, 24, 20, 21, 22, 23]; clear mx11
 refine ⟨_, rfl, fun a12 ha12 => ?_⟩; clear ha10 a10
 refine hK _ _ ?_; clear hK K
 refine st_y ha12 rfl (y_move ha12 rfl) ?_
 clear ha12 a12; intro a13 ha13
 refine st_y ha13 rfl (y_extract ha13 rfl rfl) ?_
 clear ha13 a13; intro a14 ha14
 refine st_y ha14 rfl (y_extract ha14 rfl rfl) ?_
 clear ha14 a14; intro a15 ha15
 refine wpList_plain rfl (fun K hK => ?_)
 refine e_alloc ha15 m11 25 zc34rD0 rfl ?_
 clear ha15 a15 m11; intro g16 a17 w17 ha17 m17 hB17 hg17
 clear hB17 hg17
 refine hK _ _ ?_; clear hK K
 refine wpList_plain rfl (fun K hK => ?_)
 refine e_storeW ha17 m17 25 rfl rfl rfl rfl rfl sz34rD0 ?_
 clear m17; intro w18 m18 hB18
 clear hB18
 refine hK _ _ ?_; clear hK K
 refine st_y ha17 rfl (y_assign ha17 rfl) ?_
 clear ha17 a17; intro a19 ha19
 refine wpList_nil ?_
 refine hK1 _ _ ?_; clear hK1; try clear K1
 refine wp_seq_k (fun K2 hK2 => ?_)
 refine wp_seq_k (fun K3 hK3 => ?_)
 have ha20 : Has 27 [(2, _), (4, _), (5, _), (6, _), (7, _)] a19 := ha19.only [2, 4, 5, 6, 7]; clear ha19
 refine wp_region_lit ?_
 refine st_y ha20 rfl (y_move ha20 rfl) ?_
 clear ha20 a19; intro a21 ha21
 refine st_y ha21 rfl (y_neq ha21 rfl rfl) ?_
 clear ha21 a21; intro a22 ha22
 refine wpList_nil ?_
 refine hK3 _ _ ?_; clear hK3; try clear K3
 refine bool_cases ha22 (t := 15) rfl (fun hb23 ha23 => ?_) (fun hb23 ha23 => ?_)
 ·
  clear ha22
  try simp only [Q1x, Q2x, Q3x, Q4x, Q5x, Q6x, Q7x, Q8x, Q9x, Q0x, Qax, Qbx] at hb23
  refine wp_cond_true (ha23.ev (x := .tmp 15) rfl) ?_
  refine wp_seq_k (fun K4 hK4 => ?_)
  refine wp_region_lit ?_
  refine st_y ha23 rfl (y_loadBR ha23 m18 (i := 20) rfl rfl Try.underlying34 rfl sz34rD0 (by simp) (by dsimp only [List.drop, List.take] <;> rfl)) ?_
  clear ha23 a22; intro a24 ha24
  refine st_y ha24 rfl (y_move ha24 rfl) ?_
  clear ha24 a24; intro a25 ha25
  refine st_y ha25 rfl (y_build ha25 rfl zc45rD0 fl45rD0 rfl (by dsimp only [setL, List.set] <;> rfl)) ?_
  clear ha25 a25; intro a26 ha26
  refine wpList_plain rfl (fun K hK => ?_)
  refine e_storeW ha26 m18 22 rfl rfl rfl rfl rfl sz34rD0 ?_
  clear m18; intro w27 m27 hB27
  clear hB27
  refine hK _ _ ?_; clear hK K
  refine wpList_plain rfl (fun K hK => ?_)
  refine e_storeW ha26 m27 23 rfl rfl rfl rfl rfl sz45rD0 ?_
  clear m27; intro w28 m28 hB28
  clear hB28
  refine hK _ _ ?_; clear hK K
  refine wpList_nil ?_
  refine hK4 _ _ ?_; clear hK4; try clear K4
  refine wp_ret ?_
  try dsimp only [Exit.then, Exit.inBlock]
  refine (retCC (fn := Try.f17) ha26 m28 (i := 22) (i2 := 23) rfl rfl rfl rfl rfl Try.underlying34 rfl sz34rD0 Try.underlying45 rfl sz45rD0 ?_)
  obtain ⟨rfl, rfl, rfl, rfl⟩ := doR_err hR (by assumption)
  have m29 := m28.dat 26 rfl (m28.rd (i := 3) rfl); clear m28
  exact ⟨ne1, hi1, fl1, ws1, e1, 0, 0, 0, _, _, rfl, hR, .inl ⟨by assumption, rfl, rfl, rfl⟩, m29.ren [(1, 1), (2, 2), (3, 3), (4, 4), (7, 26)] (by decide)⟩
 ·
  clear ha22
  try simp only [Q1x, Q2x, Q3x, Q4x, Q5x, Q6x, Q7x, Q8x, Q9x, Q0x, Qax, Qbx] at hb23
  refine wp_cond_false (ha23.ev (x := .tmp 15) rfl) ?_
  refine wp_skip ?_
  refine hK2 _ _ ?_; clear hK2; try clear K2
  refine wp_seq_k (fun K5 hK5 => ?_)
  have m30 : MemOk _ _ [(1, _), (2, _), (3, _), (4, _), (20, _), (21, _), (22, _), (23, _), (24, _), (25, _)] _ := m18.only [1, 2, 3, 4, 20, 21, 22, 23, 24, 25]; clear m18
  refine region_m 10 (B := [(25, _)]) (m30.to ⟨il, trivial⟩) m30 (by kernel_rfl) (fun w31 mB31 m31 => ?_); clear m30 mB31
  refine dh 0 ha23 rfl rfl (m31.to ⟨il, trivial⟩) (fun W hW => y_loadBR ha23 hW (i := 25) rfl rfl Try.underlying34 rfl sz34rD0 (by simp) (by dsimp only [List.drop, List.take] <;> rfl)) ?_
  clear ha23 a22; intro a32 ha32
  refine dh 1 ha32 rfl rfl (m31.to ⟨il, trivial⟩) (fun W hW => y_loadBR ha32 hW (i := 25) rfl rfl Try.underlying34 rfl sz34rD0 (by simp) (by dsimp only [List.drop, List.take] <;> rfl)) ?_
  clear ha32 a32; intro a33 ha33
  refine dyn 3 ha33 rfl rfl (m31.to ⟨il, trivial⟩) (fun W => y_fieldAddr ha33 (off := 8) rfl Try.underlying34 rfl (s := 0) (by kernel_rfl) rfl) ?_
  clear ha33 a33; intro a34 ha34
  refine dh 4 ha34 rfl rfl (m31.to ⟨il, trivial⟩) (fun W hW => y_loadB1 ha34 hW (i := 25) rfl rfl rfl Try.underlying2 rfl) ?_
  clear ha34 a34; intro a35 ha35
  refine dyn 5 ha35 rfl rfl (m31.to ⟨il, trivial⟩) (fun W => y_fieldAddr ha35 (off := 6) rfl Try.underlying34 rfl (s := 0) (by kernel_rfl) rfl) ?_
  clear ha35 a35; intro a36 ha36
  refine dh 6 ha36 rfl rfl (m31.to ⟨il, trivial⟩) (fun W hW => y_loadB1 ha36 hW (i := 25) rfl rfl rfl Try.underlying3 rfl) ?_
  clear ha36 a36; intro a37 ha37
  refine stepE_only 2 rfl (by kernel_rfl) rfl (fun K hK => ?_)
  refine e_call ha37 Try.func21 rfl rfl rfl rfl (rlen_any _ _ _ _ _ _ _ _ _ _ _ _ _ _ _ _ _ _) ?_
  rintro e w38 ⟨rfl, hb38⟩
  have m39 := m31.later hb38
  clear m31
  clear hb38
  refine ⟨_, rfl, fun a40 ha40 => ?_⟩; clear ha37 a37
  refine hK _ _ (m39.to ⟨il, trivial⟩) ?_; clear hK K
  refine dyn 7 ha40 rfl rfl (m39.to ⟨il, trivial⟩) (fun W => y_build ha40 rfl zc45rD0 fl45rD0 rfl (by dsimp only [setL, List.set] <;> rfl)) ?_
  clear ha40 a40; intro a41 ha41
  refine stepE_only 8 rfl (by kernel_rfl) rfl (fun K hK => ?_)
  refine e_storeW ha41 m39 22 rfl rfl rfl rfl rfl sz34rD0 ?_
  clear m39; intro w42 m42 hB42
  clear hB42
  refine hK _ _ (m42.to ⟨il, trivial⟩) ?_; clear hK K
  refine stepE_only 9 rfl (by kernel_rfl) rfl (fun K hK => ?_)
  refine e_storeW ha41 m42 23 rfl rfl rfl rfl rfl sz45rD0 ?_
  clear m42; intro w43 m43 hB43
  clear hB43
  refine hK _ _ (m43.to ⟨il, trivial⟩) ?_; clear hK K
  refine wpAnyE_done (by kernel_rfl) ?_ _
  refine hK5 _ _ ?_; clear hK5; try clear K5
  refine wp_ret ?_
  try dsimp only [Exit.then, Exit.inBlock]
  refine (retCC (fn := Try.f17) ha41 m43 (i := 22) (i2 := 23) rfl rfl rfl rfl rfl Try.underlying34 rfl sz34rD0 Try.underlying45 rfl sz45rD0 ?_)
  obtain rfl : e1 = 0 := by first | assumption | omega
  exact ⟨ne1, hi1, fl1, ws1, 0, ws1.length, fl1, ne1, _, _, by rw [List.length_map], hR, .inr ⟨rfl, rfl, rfl, rfl⟩, m43.ren [(1, 1), (2, 2), (3, 3), (4, 4), (7, 24)] (by decide)⟩
theorem rDo4 (X : Cx) (vo bl sz pe to ne fl : Int) (hi : Bool) (place pins : List Int) (ws : List (Int × List (Int × List Int))) (pp pn pw : Option Addr) (cp cn9 cw : Nat) (v1 v2 v3 v4 v5 at0 v6 : Int) (q1 : Option Addr) (n1 c1 : Nat) (q2 : Option Addr) (n2 c2 : Nat) (w0 : World) (hp : pins.length ≤ 900000) (hsp : pins.Pairwise (· ≤ ·)) (m0 : MemOk X w0 [(1, .dat (.slice pp place.length cp) (.ns .i64 place)), (2, .dat (.slice pn pins.length cn9) (.ns .i64 pins)), (3, .dat (.slice pw (ws.map wrD).length cw) (.l 2 (ws.map wrD)))] w0) :
   Calls Try.prog 17 #[.agg #[.int .i64 vo, .int .i64 bl, .int .i64 sz, .int .i64 pe, .slice pp place.length cp, .int .i64 to, .int .i64 ne, .bool hi, .int .i64 fl, .slice pn pins.length cn9, .slice pw (ws.map wrD).length cw], .agg #[.int .i64 4, .int .i64 v1, .int .i64 v2, .int .i64 v3, .int .i64 v4, .slice q1 n1 c1, .int .i64 v5, .int .i64 at0, .int .i64 v6, .slice q2 n2 c2]] w0 fun e w' => ∃ (pins' : List Int) (e9 rl rf rn : Int) (p2' : Option Addr) (d2' : Nat), e = .returned (.tuple #[.agg #[.int .i64 vo, .int .i64 bl, .int .i64 sz, .int .i64 pe, .slice pp place.length cp, .int .i64 to, .int .i64 ne, .bool hi, .int .i64 fl, .slice p2' pins'.length d2', .slice pw (ws.map wrD).length cw], .agg #[.int .i64 e9, .int .i64 rl, .int .i64 rf, .int .i64 rn, .slice none 0 0]]) ∧ pinR hi fl at0 ws.length pins = (pins', e9) ∧ ((e9 ≠ 0 ∧ rl = 0 ∧ rf = 0 ∧ rn = 0) ∨ (e9 = 0 ∧ rl = ws.length ∧ rf = fl ∧ rn = ne)) ∧ MemOk X w0 [(1, .dat (.slice pp place.length cp) (.ns .i64 place)), (2, .dat (.slice pn pins.length cn9) (.ns .i64 pins)), (3, .dat (.slice pw (ws.map wrD).length cw) (.l 2 (ws.map wrD))), (6, .dat (.slice p2' pins'.length d2') (.ns .i64 pins'))] w' := by
 refine enter (fn := Try.f17) Try.func17 rfl Try.ntmps17 rfl (fun a0 ha0 => ?_)
 simp only [List.zipIdx_cons, List.zipIdx_nil, List.map_cons, List.map_nil, Nat.reduceAdd, Nat.zero_add] at ha0
 refine wp_seq_k (fun K0 hK0 => ?_)
 refine wp_region_lit ?_
 refine wpList_plain rfl (fun K hK => ?_)
 refine e_box ha0 m0 20 (cs := [_, _, _, _, _, _, _, _, _, _, _]) rfl rfl rfl ?_
 clear ha0 a0 m0; intro g1 a2 w2 ha2 m2 hB2 hg2
 clear hB2 hg2
 refine hK _ _ ?_; clear hK K
 refine wpList_plain rfl (fun K hK => ?_)
 refine e_box ha2 m2 21 (cs := [_, _, _, _, _, _, _, _, _, _]) rfl rfl rfl ?_
 clear ha2 a2 m2; intro g3 a4 w4 ha4 m4 hB4 hg4
 clear hB4 hg4
 refine hK _ _ ?_; clear hK K
 refine wpList_plain rfl (fun K hK => ?_)
 refine e_alloc ha4 m4 22 zc34rD4 rfl ?_
 clear ha4 a4 m4; intro g5 a6 w6 ha6 m6 hB6 hg6
 clear hB6 hg6
 refine hK _ _ ?_; clear hK K
 refine wpList_plain rfl (fun K hK => ?_)
 refine e_alloc ha6 m6 23 zc45rD4 rfl ?_
 clear ha6 a6 m6; intro g7 a8 w8 ha8 m8 hB8 hg8
 clear hB8 hg8
 refine hK _ _ ?_; clear hK K
 refine wpList_nil ?_
 refine hK0 _ _ ?_; clear hK0; try clear K0
 refine wp_seq_k (fun K1 hK1 => ?_)
 refine wp_region_lit ?_
 refine st_y ha8 rfl (y_loadBR ha8 m8 (i := 20) rfl rfl Try.underlying34 rfl sz34rD4 (by simp) (by dsimp only [List.drop, List.take] <;> rfl)) ?_
 clear ha8 a8; intro a9 ha9
 refine st_y ha9 rfl (y_loadBR ha9 m8 (i := 21) rfl rfl Try.underlying25 rfl sz25rD4 (by simp) (by dsimp only [List.drop, List.take] <;> rfl)) ?_
 clear ha9 a9; intro a10 ha10
 refine wpList_plain rfl (fun K hK => ?_)
 refine e_call ha10 Try.func44 rfl rfl rfl rfl (rdone4 _ _ _ _ _ _ _ _ _ place pins ws _ _ _ _ _ _ _ _ _ _ _ _ _ _ _ _ _ _ _ _ hp hsp (m8.into [(1, 1), (2, 2), (3, 3)] (by decide) rfl)) ?_
 rintro e w11 ⟨pins1, e1, p11, c11, rfl, hR, hm11⟩
 have mx11 := m8.back hm11 [(1, 1), (2, 2), (3, 3), (24, 6)] (by decide); clear hm11 m8
 have m11 : MemOk _ _ [(1, _), (2, _), (3, _), (24, _), (20, _), (21, _), (22, _), (23, _)] _ := mx11.only [1, 2, 3, 24, 20, 21, 22, 23]; clear mx11
 refine ⟨_, rfl, fun a12 ha12 => ?_⟩; clear ha10 a10
 refine hK _ _ ?_; clear hK K
 refine st_y ha12 rfl (y_move ha12 rfl) ?_
 clear ha12 a12; intro a13 ha13
 refine st_y ha13 rfl (y_extract ha13 rfl rfl) ?_
 clear ha13 a13; intro a14 ha14
 refine st_y ha14 rfl (y_extract ha14 rfl rfl) ?_
 clear ha14 a14; intro a15 ha15
 refine wpList_plain rfl (fun K hK => ?_)
 refine e_alloc ha15 m11 25 zc34rD4 rfl ?_
 clear ha15 a15 m11; intro g16 a17 w17 ha17 m17 hB17 hg17
 clear hB17 hg17
 refine hK _ _ ?_; clear hK K
 refine wpList_plain rfl (fun K hK => ?_)
 refine e_storeW ha17 m17 25 rfl rfl rfl rfl rfl sz34rD4 ?_
 clear m17; intro w18 m18 hB18
 clear hB18
 refine hK _ _ ?_; clear hK K
 refine st_y ha17 rfl (y_assign ha17 rfl) ?_
 clear ha17 a17; intro a19 ha19
 refine wpList_nil ?_
 refine hK1 _ _ ?_; clear hK1; try clear K1
 refine wp_seq_k (fun K2 hK2 => ?_)
 refine wp_seq_k (fun K3 hK3 => ?_)
 have ha20 : Has 27 [(2, _), (4, _), (5, _), (6, _), (7, _)] a19 := ha19.only [2, 4, 5, 6, 7]; clear ha19
 refine wp_region_lit ?_
 refine st_y ha20 rfl (y_move ha20 rfl) ?_
 clear ha20 a19; intro a21 ha21
 refine st_y ha21 rfl (y_neq ha21 rfl rfl) ?_
 clear ha21 a21; intro a22 ha22
 refine wpList_nil ?_
 refine hK3 _ _ ?_; clear hK3; try clear K3
 refine bool_cases ha22 (t := 15) rfl (fun hb23 ha23 => ?_) (fun hb23 ha23 => ?_)
 ·
  clear ha22
  try simp only [Q1x, Q2x, Q3x, Q4x, Q5x, Q6x, Q7x, Q8x, Q9x, Q0x, Qax, Qbx] at hb23
  refine wp_cond_true (ha23.ev (x := .tmp 15) rfl) ?_
  refine wp_seq_k (fun K4 hK4 => ?_)
  refine wp_region_lit ?_
  refine st_y ha23 rfl (y_loadBR ha23 m18 (i := 20) rfl rfl Try.underlying34 rfl sz34rD4 (by simp) (by dsimp only [List.drop, List.take] <;> rfl)) ?_
  clear ha23 a22; intro a24 ha24
  refine st_y ha24 rfl (y_move ha24 rfl) ?_
  clear ha24 a24; intro a25 ha25
  refine st_y ha25 rfl (y_build ha25 rfl zc45rD4 fl45rD4 rfl (by dsimp only [setL, List.set] <;> rfl)) ?_
  clear ha25 a25; intro a26 ha26
  refine wpList_plain rfl (fun K hK => ?_)
  refine e_storeW ha26 m18 22 rfl rfl rfl rfl rfl sz34rD4 ?_
  clear m18; intro w27 m27 hB27
  clear hB27
  refine hK _ _ ?_; clear hK K
  refine wpList_plain rfl (fun K hK => ?_)
  refine e_storeW ha26 m27 23 rfl rfl rfl rfl rfl sz45rD4 ?_
  clear m27; intro w28 m28 hB28
  clear hB28
  refine hK _ _ ?_; clear hK K
  refine wpList_nil ?_
  refine hK4 _ _ ?_; clear hK4; try clear K4
  refine wp_ret ?_
  try dsimp only [Exit.then, Exit.inBlock]
  refine (retCC (fn := Try.f17) ha26 m28 (i := 22) (i2 := 23) rfl rfl rfl rfl rfl Try.underlying34 rfl sz34rD4 Try.underlying45 rfl sz45rD4 ?_)
  obtain rfl := pinR_err hR (by assumption)
  have m29 := m28.dat 26 rfl (m28.rd (i := 2) rfl); clear m28
  exact ⟨pins1, e1, 0, 0, 0, _, _, rfl, hR, .inl ⟨by assumption, rfl, rfl, rfl⟩, m29.ren [(1, 1), (2, 2), (3, 3), (6, 26)] (by decide)⟩
 ·
  clear ha22
  try simp only [Q1x, Q2x, Q3x, Q4x, Q5x, Q6x, Q7x, Q8x, Q9x, Q0x, Qax, Qbx] at hb23
  refine wp_cond_false (ha23.ev (x := .tmp 15) rfl) ?_
  refine wp_skip ?_
  refine hK2 _ _ ?_; clear hK2; try clear K2
  refine wp_seq_k (fun K5 hK5 => ?_)
  have m30 : MemOk _ _ [(1, _), (2, _), (3, _), (20, _), (21, _), (22, _), (23, _), (24, _), (25, _)] _ := m18.only [1, 2, 3, 20, 21, 22, 23, 24, 25]; clear m18
  refine region_m 10 (B := [(25, _)]) (m30.to ⟨il, trivial⟩) m30 (by kernel_rfl) (fun w31 mB31 m31 => ?_); clear m30 mB31
  refine dh 0 ha23 rfl rfl (m31.to ⟨il, trivial⟩) (fun W hW => y_loadBR ha23 hW (i := 25) rfl rfl Try.underlying34 rfl sz34rD4 (by simp) (by dsimp only [List.drop, List.take] <;> rfl)) ?_
  clear ha23 a22; intro a32 ha32
  refine dh 1 ha32 rfl rfl (m31.to ⟨il, trivial⟩) (fun W hW => y_loadBR ha32 hW (i := 25) rfl rfl Try.underlying34 rfl sz34rD4 (by simp) (by dsimp only [List.drop, List.take] <;> rfl)) ?_
  clear ha32 a32; intro a33 ha33
  refine dyn 3 ha33 rfl rfl (m31.to ⟨il, trivial⟩) (fun W => y_fieldAddr ha33 (off := 8) rfl Try.underlying34 rfl (s := 0) (by kernel_rfl) rfl) ?_
  clear ha33 a33; intro a34 ha34
  refine dh 4 ha34 rfl rfl (m31.to ⟨il, trivial⟩) (fun W hW => y_loadB1 ha34 hW (i := 25) rfl rfl rfl Try.underlying2 rfl) ?_
  clear ha34 a34; intro a35 ha35
  refine dyn 5 ha35 rfl rfl (m31.to ⟨il, trivial⟩) (fun W => y_fieldAddr ha35 (off := 6) rfl Try.underlying34 rfl (s := 0) (by kernel_rfl) rfl) ?_
  clear ha35 a35; intro a36 ha36
  refine dh 6 ha36 rfl rfl (m31.to ⟨il, trivial⟩) (fun W hW => y_loadB1 ha36 hW (i := 25) rfl rfl rfl Try.underlying3 rfl) ?_
  clear ha36 a36; intro a37 ha37
  refine stepE_only 2 rfl (by kernel_rfl) rfl (fun K hK => ?_)
  refine e_call ha37 Try.func21 rfl rfl rfl rfl (rlen_any _ _ _ _ _ _ _ _ _ _ _ _ _ _ _ _ _ _) ?_
  rintro e w38 ⟨rfl, hb38⟩
  have m39 := m31.later hb38
  clear m31
  clear hb38
  refine ⟨_, rfl, fun a40 ha40 => ?_⟩; clear ha37 a37
  refine hK _ _ (m39.to ⟨il, trivial⟩) ?_; clear hK K
  refine dyn 7 ha40 rfl rfl (m39.to ⟨il, trivial⟩) (fun W => y_build ha40 rfl zc45rD4 fl45rD4 rfl (by dsimp only [setL, List.set] <;> rfl)) ?_
  clear ha40 a40; intro a41 ha41
  refine stepE_only 8 rfl (by kernel_rfl) rfl (fun K hK => ?_)
  refine e_storeW ha41 m39 22 rfl rfl rfl rfl rfl sz34rD4 ?_
  clear m39; intro w42 m42 hB42
  clear hB42
  refine hK _ _ (m42.to ⟨il, trivial⟩) ?_; clear hK K
  refine stepE_only 9 rfl (by kernel_rfl) rfl (fun K hK => ?_)
  refine e_storeW ha41 m42 23 rfl rfl rfl rfl rfl sz45rD4 ?_
  clear m42; intro w43 m43 hB43
  clear hB43
  refine hK _ _ (m43.to ⟨il, trivial⟩) ?_; clear hK K
  refine wpAnyE_done (by kernel_rfl) ?_ _
  refine hK5 _ _ ?_; clear hK5; try clear K5
  refine wp_ret ?_
  try dsimp only [Exit.then, Exit.inBlock]
  refine (retCC (fn := Try.f17) ha41 m43 (i := 22) (i2 := 23) rfl rfl rfl rfl rfl Try.underlying34 rfl sz34rD4 Try.underlying45 rfl sz45rD4 ?_)
  obtain rfl : e1 = 0 := by first | assumption | omega
  exact ⟨pins1, 0, ws.length, fl, ne, _, _, by rw [List.length_map], hR, .inr ⟨rfl, rfl, rfl, rfl⟩, m43.ren [(1, 1), (2, 2), (3, 3), (6, 24)] (by decide)⟩
theorem rDo5 (X : Cx) (vo bl sz pe to ne fl : Int) (hi : Bool) (place pins : List Int) (ws : List (Int × List (Int × List Int))) (pp pn pw : Option Addr) (cp cn9 cw : Nat) (v1 v2 v3 v4 v5 at0 v6 : Int) (q1 : Option Addr) (n1 c1 : Nat) (q2 : Option Addr) (n2 c2 : Nat) (w0 : World) (hp : pins.length ≤ 900000) (m0 : MemOk X w0 [(1, .dat (.slice pp place.length cp) (.ns .i64 place)), (2, .dat (.slice pn pins.length cn9) (.ns .i64 pins)), (3, .dat (.slice pw (ws.map wrD).length cw) (.l 2 (ws.map wrD)))] w0) :
   Calls Try.prog 17 #[.agg #[.int .i64 vo, .int .i64 bl, .int .i64 sz, .int .i64 pe, .slice pp place.length cp, .int .i64 to, .int .i64 ne, .bool hi, .int .i64 fl, .slice pn pins.length cn9, .slice pw (ws.map wrD).length cw], .agg #[.int .i64 5, .int .i64 v1, .int .i64 v2, .int .i64 v3, .int .i64 v4, .slice q1 n1 c1, .int .i64 v5, .int .i64 at0, .int .i64 v6, .slice q2 n2 c2]] w0 fun e w' => ∃ (pins' : List Int) (e9 rl rf rn : Int) (p2' : Option Addr) (d2' : Nat), e = .returned (.tuple #[.agg #[.int .i64 vo, .int .i64 bl, .int .i64 sz, .int .i64 pe, .slice pp place.length cp, .int .i64 to, .int .i64 ne, .bool hi, .int .i64 fl, .slice p2' pins'.length d2', .slice pw (ws.map wrD).length cw], .agg #[.int .i64 e9, .int .i64 rl, .int .i64 rf, .int .i64 rn, .slice none 0 0]]) ∧ unpinR hi at0 pins = (pins', e9) ∧ ((e9 ≠ 0 ∧ rl = 0 ∧ rf = 0 ∧ rn = 0) ∨ (e9 = 0 ∧ rl = ws.length ∧ rf = fl ∧ rn = ne)) ∧ MemOk X w0 [(1, .dat (.slice pp place.length cp) (.ns .i64 place)), (2, .dat (.slice pn pins.length cn9) (.ns .i64 pins)), (3, .dat (.slice pw (ws.map wrD).length cw) (.l 2 (ws.map wrD))), (6, .dat (.slice p2' pins'.length d2') (.ns .i64 pins'))] w' := by
 refine enter (fn := Try.f17) Try.func17 rfl Try.ntmps17 rfl (fun a0 ha0 => ?_)
 simp only [List.zipIdx_cons, List.zipIdx_nil, List.map_cons, List.map_nil, Nat.reduceAdd, Nat.zero_add] at ha0
 refine wp_seq_k (fun K0 hK0 => ?_)
 refine wp_region_lit ?_
 refine wpList_plain rfl (fun K hK => ?_)
 refine e_box ha0 m0 20 (cs := [_, _, _, _, _, _, _, _, _, _, _]) rfl rfl rfl ?_
 clear ha0 a0 m0; intro g1 a2 w2 ha2 m2 hB2 hg2
 clear hB2 hg2
 refine hK _ _ ?_; clear hK K
 refine wpList_plain rfl (fun K hK => ?_)
 refine e_box ha2 m2 21 (cs := [_, _, _, _, _, _, _, _, _, _]) rfl rfl rfl ?_
 clear ha2 a2 m2; intro g3 a4 w4 ha4 m4 hB4 hg4
 clear hB4 hg4
 refine hK _ _ ?_; clear hK K
 refine wpList_plain rfl (fun K hK => ?_)
 refine e_alloc ha4 m4 22 zc34rD5 rfl ?_
 clear ha4 a4 m4; intro g5 a6 w6 ha6 m6 hB6 hg6
 clear hB6 hg6
 refine hK _ _ ?_; clear hK K
 refine wpList_plain rfl (fun K hK => ?_)
 refine e_alloc ha6 m6 23 zc45rD5 rfl ?_
 clear ha6 a6 m6; intro g7 a8 w8 ha8 m8 hB8 hg8
 clear hB8 hg8
 refine hK _ _ ?_; clear hK K
 refine wpList_nil ?_
 refine hK0 _ _ ?_; clear hK0; try clear K0
 refine wp_seq_k (fun K1 hK1 => ?_)
 refine wp_region_lit ?_
 refine st_y ha8 rfl (y_loadBR ha8 m8 (i := 20) rfl rfl Try.underlying34 rfl sz34rD5 (by simp) (by dsimp only [List.drop, List.take] <;> rfl)) ?_
 clear ha8 a8; intro a9 ha9
 refine st_y ha9 rfl (y_loadBR ha9 m8 (i := 21) rfl rfl Try.underlying25 rfl sz25rD5 (by simp) (by dsimp only [List.drop, List.take] <;> rfl)) ?_
 clear ha9 a9; intro a10 ha10
 refine wpList_plain rfl (fun K hK => ?_)
 refine e_call ha10 Try.func44 rfl rfl rfl rfl (rdone5 _ _ _ _ _ _ _ _ _ place pins ws _ _ _ _ _ _ _ _ _ _ _ _ _ _ _ _ _ _ _ _ hp (m8.into [(1, 1), (2, 2), (3, 3)] (by decide) rfl)) ?_
 rintro e w11 ⟨pins1, e1, p11, c11, rfl, hR, hm11⟩
 have mx11 := m8.back hm11 [(1, 1), (2, 2), (3, 3), (24, 6)] (by decide); clear hm11 m8
 have m11 : MemOk _ _ [(1, _), (2, _), (3, _), (24, _), (20, _), (21, _), (22, _), (23, _)] _ := mx11.only [1, 2, 3, 24, 20, 21, 22, 23]; clear mx11
 refine ⟨_, rfl, fun a12 ha12 => ?_⟩; clear ha10 a10
 refine hK _ _ ?_; clear hK K
 refine st_y ha12 rfl (y_move ha12 rfl) ?_
 clear ha12 a12; intro a13 ha13
 refine st_y ha13 rfl (y_extract ha13 rfl rfl) ?_
 clear ha13 a13; intro a14 ha14
 refine st_y ha14 rfl (y_extract ha14 rfl rfl) ?_
 clear ha14 a14; intro a15 ha15
 refine wpList_plain rfl (fun K hK => ?_)
 refine e_alloc ha15 m11 25 zc34rD5 rfl ?_
 clear ha15 a15 m11; intro g16 a17 w17 ha17 m17 hB17 hg17
 clear hB17 hg17
 refine hK _ _ ?_; clear hK K
 refine wpList_plain rfl (fun K hK => ?_)
 refine e_storeW ha17 m17 25 rfl rfl rfl rfl rfl sz34rD5 ?_
 clear m17; intro w18 m18 hB18
 clear hB18
 refine hK _ _ ?_; clear hK K
 refine st_y ha17 rfl (y_assign ha17 rfl) ?_
 clear ha17 a17; intro a19 ha19
 refine wpList_nil ?_
 refine hK1 _ _ ?_; clear hK1; try clear K1
 refine wp_seq_k (fun K2 hK2 => ?_)
 refine wp_seq_k (fun K3 hK3 => ?_)
 have ha20 : Has 27 [(2, _), (4, _), (5, _), (6, _), (7, _)] a19 := ha19.only [2, 4, 5, 6, 7]; clear ha19
 refine wp_region_lit ?_
 refine st_y ha20 rfl (y_move ha20 rfl) ?_
 clear ha20 a19; intro a21 ha21
 refine st_y ha21 rfl (y_neq ha21 rfl rfl) ?_
 clear ha21 a21; intro a22 ha22
 refine wpList_nil ?_
 refine hK3 _ _ ?_; clear hK3; try clear K3
 refine bool_cases ha22 (t := 15) rfl (fun hb23 ha23 => ?_) (fun hb23 ha23 => ?_)
 ·
  clear ha22
  try simp only [Q1x, Q2x, Q3x, Q4x, Q5x, Q6x, Q7x, Q8x, Q9x, Q0x, Qax, Qbx] at hb23
  refine wp_cond_true (ha23.ev (x := .tmp 15) rfl) ?_
  refine wp_seq_k (fun K4 hK4 => ?_)
  refine wp_region_lit ?_
  refine st_y ha23 rfl (y_loadBR ha23 m18 (i := 20) rfl rfl Try.underlying34 rfl sz34rD5 (by simp) (by dsimp only [List.drop, List.take] <;> rfl)) ?_
  clear ha23 a22; intro a24 ha24
  refine st_y ha24 rfl (y_move ha24 rfl) ?_
  clear ha24 a24; intro a25 ha25
  refine st_y ha25 rfl (y_build ha25 rfl zc45rD5 fl45rD5 rfl (by dsimp only [setL, List.set] <;> rfl)) ?_
  clear ha25 a25; intro a26 ha26
  refine wpList_plain rfl (fun K hK => ?_)
  refine e_storeW ha26 m18 22 rfl rfl rfl rfl rfl sz34rD5 ?_
  clear m18; intro w27 m27 hB27
  clear hB27
  refine hK _ _ ?_; clear hK K
  refine wpList_plain rfl (fun K hK => ?_)
  refine e_storeW ha26 m27 23 rfl rfl rfl rfl rfl sz45rD5 ?_
  clear m27; intro w28 m28 hB28
  clear hB28
  refine hK _ _ ?_; clear hK K
  refine wpList_nil ?_
  refine hK4 _ _ ?_; clear hK4; try clear K4
  refine wp_ret ?_
  try dsimp only [Exit.then, Exit.inBlock]
  refine (retCC (fn := Try.f17) ha26 m28 (i := 22) (i2 := 23) rfl rfl rfl rfl rfl Try.underlying34 rfl sz34rD5 Try.underlying45 rfl sz45rD5 ?_)
  obtain rfl := unpinR_err hR (by assumption)
  have m29 := m28.dat 26 rfl (m28.rd (i := 2) rfl); clear m28
  exact ⟨pins1, e1, 0, 0, 0, _, _, rfl, hR, .inl ⟨by assumption, rfl, rfl, rfl⟩, m29.ren [(1, 1), (2, 2), (3, 3), (6, 26)] (by decide)⟩
 ·
  clear ha22
  try simp only [Q1x, Q2x, Q3x, Q4x, Q5x, Q6x, Q7x, Q8x, Q9x, Q0x, Qax, Qbx] at hb23
  refine wp_cond_false (ha23.ev (x := .tmp 15) rfl) ?_
  refine wp_skip ?_
  refine hK2 _ _ ?_; clear hK2; try clear K2
  refine wp_seq_k (fun K5 hK5 => ?_)
  have m30 : MemOk _ _ [(1, _), (2, _), (3, _), (20, _), (21, _), (22, _), (23, _), (24, _), (25, _)] _ := m18.only [1, 2, 3, 20, 21, 22, 23, 24, 25]; clear m18
  refine region_m 10 (B := [(25, _)]) (m30.to ⟨il, trivial⟩) m30 (by kernel_rfl) (fun w31 mB31 m31 => ?_); clear m30 mB31
  refine dh 0 ha23 rfl rfl (m31.to ⟨il, trivial⟩) (fun W hW => y_loadBR ha23 hW (i := 25) rfl rfl Try.underlying34 rfl sz34rD5 (by simp) (by dsimp only [List.drop, List.take] <;> rfl)) ?_
  clear ha23 a22; intro a32 ha32
  refine dh 1 ha32 rfl rfl (m31.to ⟨il, trivial⟩) (fun W hW => y_loadBR ha32 hW (i := 25) rfl rfl Try.underlying34 rfl sz34rD5 (by simp) (by dsimp only [List.drop, List.take] <;> rfl)) ?_
  clear ha32 a32; intro a33 ha33
  refine dyn 3 ha33 rfl rfl (m31.to ⟨il, trivial⟩) (fun W => y_fieldAddr ha33 (off := 8) rfl Try.underlying34 rfl (s := 0) (by kernel_rfl) rfl) ?_
  clear ha33 a33; intro a34 ha34
  refine dh 4 ha34 rfl rfl (m31.to ⟨il, trivial⟩) (fun W hW => y_loadB1 ha34 hW (i := 25) rfl rfl rfl Try.underlying2 rfl) ?_
  clear ha34 a34; intro a35 ha35
  refine dyn 5 ha35 rfl rfl (m31.to ⟨il, trivial⟩) (fun W => y_fieldAddr ha35 (off := 6) rfl Try.underlying34 rfl (s := 0) (by kernel_rfl) rfl) ?_
  clear ha35 a35; intro a36 ha36
  refine dh 6 ha36 rfl rfl (m31.to ⟨il, trivial⟩) (fun W hW => y_loadB1 ha36 hW (i := 25) rfl rfl rfl Try.underlying3 rfl) ?_
  clear ha36 a36; intro a37 ha37
  refine stepE_only 2 rfl (by kernel_rfl) rfl (fun K hK => ?_)
  refine e_call ha37 Try.func21 rfl rfl rfl rfl (rlen_any _ _ _ _ _ _ _ _ _ _ _ _ _ _ _ _ _ _) ?_
  rintro e w38 ⟨rfl, hb38⟩
  have m39 := m31.later hb38
  clear m31
  clear hb38
  refine ⟨_, rfl, fun a40 ha40 => ?_⟩; clear ha37 a37
  refine hK _ _ (m39.to ⟨il, trivial⟩) ?_; clear hK K
  refine dyn 7 ha40 rfl rfl (m39.to ⟨il, trivial⟩) (fun W => y_build ha40 rfl zc45rD5 fl45rD5 rfl (by dsimp only [setL, List.set] <;> rfl)) ?_
  clear ha40 a40; intro a41 ha41
  refine stepE_only 8 rfl (by kernel_rfl) rfl (fun K hK => ?_)
  refine e_storeW ha41 m39 22 rfl rfl rfl rfl rfl sz34rD5 ?_
  clear m39; intro w42 m42 hB42
  clear hB42
  refine hK _ _ (m42.to ⟨il, trivial⟩) ?_; clear hK K
  refine stepE_only 9 rfl (by kernel_rfl) rfl (fun K hK => ?_)
  refine e_storeW ha41 m42 23 rfl rfl rfl rfl rfl sz45rD5 ?_
  clear m42; intro w43 m43 hB43
  clear hB43
  refine hK _ _ (m43.to ⟨il, trivial⟩) ?_; clear hK K
  refine wpAnyE_done (by kernel_rfl) ?_ _
  refine hK5 _ _ ?_; clear hK5; try clear K5
  refine wp_ret ?_
  try dsimp only [Exit.then, Exit.inBlock]
  refine (retCC (fn := Try.f17) ha41 m43 (i := 22) (i2 := 23) rfl rfl rfl rfl rfl Try.underlying34 rfl sz34rD5 Try.underlying45 rfl sz45rD5 ?_)
  obtain rfl : e1 = 0 := by first | assumption | omega
  exact ⟨pins1, 0, ws.length, fl, ne, _, _, by rw [List.length_map], hR, .inr ⟨rfl, rfl, rfl, rfl⟩, m43.ren [(1, 1), (2, 2), (3, 3), (6, 24)] (by decide)⟩
theorem smallI_any (l : List (Int × List Int)) (p : Option Addr) (nn c : Nat) (w0 : World) (h0 : Rd (fun _ => True) w0 (.slice p nn c) (.l 2 (l.map itD))) (hl : l.length ≤ 140737488351232) :
   Calls Try.prog 25 #[.slice p nn c] w0 fun e w' => ∃ b : Bool, e = .returned (.bool b) ∧ (b = true → SmallI l) ∧ Below w0.heap.size w0 w' := by
 obtain rfl : nn = l.length := by obtain ⟨pq, cq, hv, _⟩ := h0.l_shape; injection hv with _ e2 _; rw [List.length_map] at e2; exact e2
 refine enter (fn := Try.f25) Try.func25 rfl Try.ntmps25 rfl (fun a0 ha0 => ?_)
 simp only [List.zipIdx_cons, List.zipIdx_nil, List.map_cons, List.map_nil, Nat.reduceAdd, Nat.zero_add] at ha0
 have m0 := MemOk.start (fun _ => False) w0
 refine wp_seq_k (fun K0 hK0 => ?_)
 refine wp_region_lit ?_
 refine st_y ha0 rfl (y_assign ha0 rfl) ?_
 clear ha0 a0; intro a1 ha1
 refine wpList_nil ?_
 refine hK0 _ _ ?_; clear hK0; try clear K0
 refine wp_seq_k (fun K1 hK1 => ?_)
 refine wp_seq_k (fun K2 hK2 => ?_)
 refine wp_region_lit ?_
 refine st_y ha1 rfl (y_move ha1 rfl) ?_
 clear ha1 a1; intro a2 ha2
 refine st_y ha2 rfl (y_len ha2 rfl Try.underlying23) ?_
 clear ha2 a2; intro a3 ha3
 refine st_y ha3 rfl (y_gtr ha3 rfl rfl) ?_
 clear ha3 a3; intro a4 ha4
 refine wpList_nil ?_
 refine hK2 _ _ ?_; clear hK2; try clear K2
 refine bool_cases ha4 (t := 6) rfl (fun hb5 ha5 => ?_) (fun hb5 ha5 => ?_)
 ·
  clear ha4
  try simp only [Q1x, Q2x, Q3x, Q4x, Q5x, Q6x, Q7x, Q8x, Q9x, Q0x, Qax, Qbx] at hb5
  refine wp_cond_true (ha5.ev (x := .tmp 6) rfl) ?_
  refine wp_seq_k (fun K3 hK3 => ?_)
  refine wp_region_lit ?_
  refine st_y ha5 rfl (y_assign ha5 rfl) ?_
  clear ha5 a4; intro a6 ha6
  refine wpList_nil ?_
  refine hK3 _ _ ?_; clear hK3; try clear K3
  refine wp_ret ?_
  try dsimp only [Exit.then, Exit.inBlock]
  refine (ret1 (fn := Try.f25) ha6 rfl rfl ?_)
  exact ⟨false, rfl, (fun h => by cases h), m0.below⟩
 ·
  clear ha4
  try simp only [Q1x, Q2x, Q3x, Q4x, Q5x, Q6x, Q7x, Q8x, Q9x, Q0x, Qax, Qbx] at hb5
  refine wp_cond_false (ha5.ev (x := .tmp 6) rfl) ?_
  refine wp_skip ?_
  refine hK1 _ _ ?_; clear hK1; try clear K1
  refine wp_seq_k (fun K4 hK4 => ?_)
  refine wp_seq_k (fun K5 hK5 => ?_)
  refine wp_region_lit ?_
  refine st_y ha5 rfl (y_assign ha5 rfl) ?_
  clear ha5 a4; intro a7 ha7
  refine wpList_nil ?_
  refine hK5 _ _ ?_; clear hK5; try clear K5
  refine wp_block ?_
  refine wp_loop_ghost (fun g a w => ∃ k : Nat, k ≤ l.length ∧ g = l.length - k ∧ (∀ j, j < k → (l.getD j i0).2.length ≤ 40) ∧ Has 20 [(0, .slice p l.length c), (3, .int .i64 k)] a ∧ MemOk (cn w0) w0 [] w) (l.length) ?_ ?_
  · exact ⟨0, Nat.zero_le _, rfl, (fun j hj => by omega), ha7.only [0, 3], m0.only []⟩
  ·
   clear ha7 m0
   rintro g a8 w8 ⟨k, hkl, hg, hall, ha8, m8⟩
   refine wp_seq_k (fun K6 hK6 => ?_)
   refine wp_seq_k (fun K7 hK7 => ?_)
   refine wp_region_lit ?_
   refine st_y ha8 rfl (y_move ha8 rfl) ?_
   clear ha8 a8; intro a9 ha9
   refine st_y ha9 rfl (y_move ha9 rfl) ?_
   clear ha9 a9; intro a10 ha10
   refine st_y ha10 rfl (y_len ha10 rfl Try.underlying23) ?_
   clear ha10 a10; intro a11 ha11
   refine st_y ha11 rfl (y_lss ha11 rfl rfl) ?_
   clear ha11 a11; intro a12 ha12
   refine wpList_nil ?_
   refine hK7 _ _ ?_; clear hK7; try clear K7
   refine bool_cases ha12 (t := 10) rfl (fun hb13 ha13 => ?_) (fun hb13 ha13 => ?_)
   ·
    clear ha12
    try simp only [Q1x, Q2x, Q3x, Q4x, Q5x, Q6x, Q7x, Q8x, Q9x, Q0x, Qax, Qbx] at hb13
    have hk : k < l.length := by omega
    obtain ⟨⟨xb, xd⟩, hes⟩ : ∃ e, l[k]? = some e := ⟨_, List.getElem?_eq_getElem hk⟩
    refine wp_cond_true (ha13.ev (x := .tmp 10) rfl) ?_
    refine wp_skip ?_
    refine hK6 _ _ ?_; clear hK6; try clear K6
    refine wp_seq_k (fun K8 hK8 => ?_)
    refine wp_block ?_
    refine wp_seq_k (fun K9 hK9 => ?_)
    refine wp_region_lit ?_
    refine st_y ha13 rfl (y_move ha13 rfl) ?_
    clear ha13 a12; intro a14 ha14
    refine st_y ha14 rfl (y_move ha14 rfl) ?_
    clear ha14 a14; intro a15 ha15
    obtain ⟨gx16, ox16, vx16, hp16, hl16, hR16, hrg16⟩ := h0.extA (k) (r := [.v (.int .i64 xb), .ns .u8 xd]) (itD_get hes)
    cases hp16; clear hl16
    rcases hR16 with _ | ⟨hd16_0, _ | ⟨hd16_1, _ | _⟩⟩
    obtain rfl := hd16_0.v_out
    clear hd16_0
    obtain ⟨p17, c17, hv17, hw17⟩ := hd16_1.ns_shape; subst hv17
    refine st_y ha15 rfl (y_idx ha15 rfl rfl Try.underlying23 sz67sI (k) rfl hk) ?_
    clear ha15 a15; intro a18 ha18
    refine st_y ha18 rfl (y_fieldAddrQ ha18 1 rfl Try.underlying67 rfl (s := 0) (by kernel_rfl) rfl) ?_
    clear ha18 a18; intro a19 ha19
    refine st_y ha19 rfl (y_loadAt1 ha19 (hrg16 m8 rfl) (q := 1) rfl rfl rfl Try.underlying43 rfl) ?_
    clear ha19 a19; intro a20 ha20
    refine st_y ha20 rfl (y_len ha20 rfl Try.underlying43) ?_
    clear ha20 a20; intro a21 ha21
    refine st_y ha21 rfl (y_gtr ha21 rfl rfl) ?_
    clear ha21 a21; intro a22 ha22
    refine wpList_nil ?_
    refine hK9 _ _ ?_; clear hK9; try clear K9
    refine bool_cases ha22 (t := 19) rfl (fun hb23 ha23 => ?_) (fun hb23 ha23 => ?_)
    ·
     clear ha22
     try simp only [Q1x, Q2x, Q3x, Q4x, Q5x, Q6x, Q7x, Q8x, Q9x, Q0x, Qax, Qbx] at hb23
     refine wp_cond_true (ha23.ev (x := .tmp 19) rfl) ?_
     refine wp_seq_k (fun K10 hK10 => ?_)
     have ha24 : Has 20 [(0, _), (3, _)] a22 := ha23.only [0, 3]; clear ha23
     refine wp_region_lit ?_
     refine st_y ha24 rfl (y_assign ha24 rfl) ?_
     clear ha24 a22; intro a25 ha25
     refine wpList_nil ?_
     refine hK10 _ _ ?_; clear hK10; try clear K10
     refine wp_ret ?_
     try dsimp only [Exit.then, Exit.inBlock]
     refine (ret1 (fn := Try.f25) ha25 rfl rfl ?_)
     exact ⟨false, rfl, (fun h => by cases h), m8.below⟩
    ·
     clear ha22
     try simp only [Q1x, Q2x, Q3x, Q4x, Q5x, Q6x, Q7x, Q8x, Q9x, Q0x, Qax, Qbx] at hb23
     refine wp_cond_false (ha23.ev (x := .tmp 19) rfl) ?_
     refine wp_skip ?_
     refine hK8 _ _ ?_; clear hK8; try clear K8
     have ha26 : Has 20 [(0, _), (3, _)] a22 := ha23.only [0, 3]; clear ha23
     refine wp_region_lit ?_
     refine st_y ha26 rfl (y_move ha26 rfl) ?_
     clear ha26 a22; intro a27 ha27
     refine st_y ha27 rfl (y_add ha27 rfl rfl (r := ((k + 1 : Nat) : Int)) (by rw [IntWalk.i64_in _ (by omega)]; omega)) ?_
     clear ha27 a27; intro a28 ha28
     refine st_y ha28 rfl (y_assign ha28 rfl) ?_
     clear ha28 a28; intro a29 ha29
     refine wpList_nil ?_
     show ∃ n', n' < _ ∧ _
     exact ⟨l.length - (k + 1), by omega, k + 1, by omega, rfl, small_snoc hall hes (by omega), ha29.only [0, 3], m8.only []⟩
   ·
    clear ha12
    try simp only [Q1x, Q2x, Q3x, Q4x, Q5x, Q6x, Q7x, Q8x, Q9x, Q0x, Qax, Qbx] at hb13
    have hkl9 : k = l.length := by omega
    refine wp_cond_false (ha13.ev (x := .tmp 10) rfl) ?_
    refine wp_exit ?_
    refine hK4 _ _ ?_; clear hK4; try clear K4
    refine wp_seq_k (fun K11 hK11 => ?_)
    refine wp_region_lit ?_
    refine st_y ha13 rfl (y_assign ha13 rfl) ?_
    clear ha13 a12; intro a30 ha30
    refine wpList_nil ?_
    refine hK11 _ _ ?_; clear hK11; try clear K11
    refine wp_ret ?_
    try dsimp only [Exit.then, Exit.inBlock]
    refine (ret1 (fn := Try.f25) ha30 rfl rfl ?_)
    exact ⟨true, rfl, (fun _ => ⟨by omega, small_all (by rw [hkl9] at hall; exact hall)⟩), m8.below⟩
theorem smallC_any (kd vo bl sz pe to at0 ix : Int) (place : List Int) (items : List (Int × List Int)) (pp pi : Option Addr) (cp ni ci : Nat) (w0 : World) (h0 : Rd (fun _ => True) w0 (.slice pp place.length cp) (.ns .i64 place)) (h1 : Rd (fun _ => True) w0 (.slice pi ni ci) (.l 2 (items.map itD))) (hl : items.length ≤ 140737488351232) :
   Calls Try.prog 10 #[.agg #[.int .i64 kd, .int .i64 vo, .int .i64 bl, .int .i64 sz, .int .i64 pe, .slice pp place.length cp, .int .i64 to, .int .i64 at0, .int .i64 ix, .slice pi ni ci]] w0 fun e w' => ∃ b : Bool, e = .returned (.bool b) ∧ (b = true → place.length ≤ 40 ∧ SmallI items) ∧ Below w0.heap.size w0 w' := by
 refine enter (fn := Try.f10) Try.func10 rfl Try.ntmps10 rfl (fun a0 ha0 => ?_)
 simp only [List.zipIdx_cons, List.zipIdx_nil, List.map_cons, List.map_nil, Nat.reduceAdd, Nat.zero_add] at ha0
 have m0 := MemOk.start (fun _ => False) w0
 refine wp_seq_k (fun K0 hK0 => ?_)
 refine wp_region_lit ?_
 refine wpList_plain rfl (fun K hK => ?_)
 refine e_box ha0 m0 20 (cs := [_, _, _, _, _, _, _, _, _, _]) rfl rfl rfl ?_
 clear ha0 a0 m0; intro g1 a2 w2 ha2 m2 hB2 hg2
 clear hB2 hg2
 refine hK _ _ ?_; clear hK K
 refine st_y ha2 rfl (y_assign ha2 rfl) ?_
 clear ha2 a2; intro a3 ha3
 refine wpList_nil ?_
 refine hK0 _ _ ?_; clear hK0; try clear K0
 refine wp_seq_k (fun K1 hK1 => ?_)
 refine wp_region_lit ?_
 refine st_y ha3 rfl (y_fieldAddr ha3 (off := 5) rfl Try.underlying25 rfl (s := 0) (by kernel_rfl) rfl) ?_
 clear ha3 a3; intro a4 ha4
 refine st_y ha4 rfl (y_loadB1 ha4 m2 (i := 20) rfl rfl rfl Try.underlying22 rfl) ?_
 clear ha4 a4; intro a5 ha5
 refine st_y ha5 rfl (y_len ha5 rfl Try.underlying22) ?_
 clear ha5 a5; intro a6 ha6
 refine st_y ha6 rfl (y_leq ha6 rfl rfl) ?_
 clear ha6 a6; intro a7 ha7
 refine st_y ha7 rfl (y_move ha7 rfl) ?_
 clear ha7 a7; intro a8 ha8
 refine bool_cases ha8 (t := 7) rfl (fun hb9 ha9 => ?_) (fun hb9 ha9 => ?_)
 ·
  clear ha8
  try simp only [Q1x, Q2x, Q3x, Q4x, Q5x, Q6x, Q7x, Q8x, Q9x, Q0x, Qax, Qbx] at hb9
  refine st_g ha9 rfl rfl rfl rfl (y_fieldAddr ha9 (off := 9) rfl Try.underlying25 rfl (s := 0) (by kernel_rfl) rfl) ?_
  clear ha9 a8; intro a10 ha10
  refine st_g ha10 rfl rfl rfl rfl (y_loadB1 ha10 m2 (i := 20) rfl rfl rfl Try.underlying23 rfl) ?_
  clear ha10 a10; intro a11 ha11
  refine st_ge ha11 rfl rfl rfl rfl (fun K hK => ?_)
  refine e_call ha11 Try.func25 rfl rfl rfl rfl (smallI_any items _ _ _ _ ((h1.now' m2 rfl).any) hl) ?_
  rintro e w12 ⟨sb, rfl, hsb, hb12⟩
  have m13 := m2.later hb12
  clear m2
  clear hb12
  refine ⟨_, rfl, fun a14 ha14 => ?_⟩; clear ha11 a11
  refine hK _ _ ?_; clear hK K
  refine st_y ha14 rfl (y_pickT ha14 rfl rfl) ?_
  clear ha14 a14; intro a15 ha15
  refine st_y ha15 rfl (y_assign ha15 rfl) ?_
  clear ha15 a15; intro a16 ha16
  refine wpList_nil ?_
  refine hK1 _ _ ?_; clear hK1; try clear K1
  refine wp_ret ?_
  try dsimp only [Exit.then, Exit.inBlock]
  refine (ret1 (fn := Try.f10) ha16 rfl rfl ?_)
  exact ⟨_, rfl, (fun h => ⟨by omega, hsb h⟩), m13.below⟩
 ·
  clear ha8
  try simp only [Q1x, Q2x, Q3x, Q4x, Q5x, Q6x, Q7x, Q8x, Q9x, Q0x, Qax, Qbx] at hb9
  refine st_skip ha9 rfl rfl rfl rfl ?_
  clear ha9 a8; intro a17 ha17
  refine st_skip ha17 rfl rfl rfl rfl ?_
  clear ha17 a17; intro a18 ha18
  refine st_skip ha18 rfl rfl rfl rfl ?_
  clear ha18 a18; intro a19 ha19
  refine st_y ha19 rfl (y_pickF ha19 rfl rfl) ?_
  clear ha19 a19; intro a20 ha20
  refine st_y ha20 rfl (y_assign ha20 rfl) ?_
  clear ha20 a20; intro a21 ha21
  refine wpList_nil ?_
  refine hK1 _ _ ?_; clear hK1; try clear K1
  refine wp_ret ?_
  try dsimp only [Exit.then, Exit.inBlock]
  refine (ret1 (fn := Try.f10) ha21 rfl rfl ?_)
  exact ⟨_, rfl, (fun h => by first | (cases h; done) | (simp at h)), m2.below⟩
theorem reply_any (e9 rl rf rn : Int) (w0 : World) :
   Calls Try.prog 18 #[.agg #[.int .i64 e9, .int .i64 rl, .int .i64 rf, .int .i64 rn, .slice none 0 0], .agg #[.int .i64 e9, .int .i64 rl, .int .i64 rf, .int .i64 rn, .slice none 0 0]] w0 fun e w' => e = .returned (.bool true) ∧ Below w0.heap.size w0 w' := by
 refine enter (fn := Try.f18) Try.func18 rfl Try.ntmps18 rfl (fun a0 ha0 => ?_)
 simp only [List.zipIdx_cons, List.zipIdx_nil, List.map_cons, List.map_nil, Nat.reduceAdd, Nat.zero_add] at ha0
 have m0 := MemOk.start (fun _ => False) w0
 refine wp_seq_k (fun K0 hK0 => ?_)
 refine wp_region_lit ?_
 refine wpList_plain rfl (fun K hK => ?_)
 refine e_box ha0 m0 20 (cs := [_, _, _, _, _]) rfl rfl rfl ?_
 clear ha0 a0 m0; intro g1 a2 w2 ha2 m2 hB2 hg2
 clear hB2 hg2
 refine hK _ _ ?_; clear hK K
 refine wpList_plain rfl (fun K hK => ?_)
 refine e_box ha2 m2 21 (cs := [_, _, _, _, _]) rfl rfl rfl ?_
 clear ha2 a2 m2; intro g3 a4 w4 ha4 m4 hB4 hg4
 clear hB4 hg4
 refine hK _ _ ?_; clear hK K
 refine st_y ha4 rfl (y_assign ha4 rfl) ?_
 clear ha4 a4; intro a5 ha5
 refine wpList_nil ?_
 refine hK0 _ _ ?_; clear hK0; try clear K0
 refine wp_seq_k (fun K1 hK1 => ?_)
 refine wp_region_lit ?_
 refine st_y ha5 rfl (y_fieldAddr ha5 (off := 0) rfl Try.underlying45 rfl (s := 0) (by kernel_rfl) rfl) ?_
 clear ha5 a5; intro a6 ha6
 refine st_y ha6 rfl (y_loadB1 ha6 m4 (i := 20) rfl rfl rfl Try.underlying35 rfl) ?_
 clear ha6 a6; intro a7 ha7
 refine st_y ha7 rfl (y_fieldAddr ha7 (off := 0) rfl Try.underlying45 rfl (s := 0) (by kernel_rfl) rfl) ?_
 clear ha7 a7; intro a8 ha8
 refine st_y ha8 rfl (y_loadB1 ha8 m4 (i := 21) rfl rfl rfl Try.underlying35 rfl) ?_
 clear ha8 a8; intro a9 ha9
 refine st_y ha9 rfl (y_eql ha9 rfl rfl) ?_
 clear ha9 a9; intro a10 ha10
 refine st_y ha10 rfl (y_move ha10 rfl) ?_
 clear ha10 a10; intro a11 ha11
 refine bool_cases ha11 (t := 10) rfl (fun hb12 ha12 => ?_) (fun hb12 ha12 => ?_)
 rotate_left
 · exact absurd hb12 (by simp)
 clear ha11 hb12
 refine st_g ha12 rfl rfl rfl rfl (y_fieldAddr ha12 (off := 1) rfl Try.underlying45 rfl (s := 0) (by kernel_rfl) rfl) ?_
 clear ha12 a11; intro a13 ha13
 refine st_g ha13 rfl rfl rfl rfl (y_loadB1 ha13 m4 (i := 20) rfl rfl rfl Try.underlying2 rfl) ?_
 clear ha13 a13; intro a14 ha14
 refine st_g ha14 rfl rfl rfl rfl (y_fieldAddr ha14 (off := 1) rfl Try.underlying45 rfl (s := 0) (by kernel_rfl) rfl) ?_
 clear ha14 a14; intro a15 ha15
 refine st_g ha15 rfl rfl rfl rfl (y_loadB1 ha15 m4 (i := 21) rfl rfl rfl Try.underlying2 rfl) ?_
 clear ha15 a15; intro a16 ha16
 refine st_g ha16 rfl rfl rfl rfl (y_eql ha16 rfl rfl) ?_
 clear ha16 a16; intro a17 ha17
 refine st_y ha17 rfl (y_pickT ha17 rfl rfl) ?_
 clear ha17 a17; intro a18 ha18
 refine st_y ha18 rfl (y_move ha18 rfl) ?_
 clear ha18 a18; intro a19 ha19
 refine bool_cases ha19 (t := 17) rfl (fun hb20 ha20 => ?_) (fun hb20 ha20 => ?_)
 rotate_left
 · exact absurd hb20 (by simp)
 clear ha19 hb20
 refine st_g ha20 rfl rfl rfl rfl (y_fieldAddr ha20 (off := 2) rfl Try.underlying45 rfl (s := 0) (by kernel_rfl) rfl) ?_
 clear ha20 a19; intro a21 ha21
 refine st_g ha21 rfl rfl rfl rfl (y_loadB1 ha21 m4 (i := 20) rfl rfl rfl Try.underlying2 rfl) ?_
 clear ha21 a21; intro a22 ha22
 refine st_g ha22 rfl rfl rfl rfl (y_fieldAddr ha22 (off := 2) rfl Try.underlying45 rfl (s := 0) (by kernel_rfl) rfl) ?_
 clear ha22 a22; intro a23 ha23
 refine st_g ha23 rfl rfl rfl rfl (y_loadB1 ha23 m4 (i := 21) rfl rfl rfl Try.underlying2 rfl) ?_
 clear ha23 a23; intro a24 ha24
 refine st_g ha24 rfl rfl rfl rfl (y_eql ha24 rfl rfl) ?_
 clear ha24 a24; intro a25 ha25
 refine st_y ha25 rfl (y_pickT ha25 rfl rfl) ?_
 clear ha25 a25; intro a26 ha26
 refine st_y ha26 rfl (y_move ha26 rfl) ?_
 clear ha26 a26; intro a27 ha27
 refine bool_cases ha27 (t := 24) rfl (fun hb28 ha28 => ?_) (fun hb28 ha28 => ?_)
 rotate_left
 · exact absurd hb28 (by simp)
 clear ha27 hb28
 refine st_g ha28 rfl rfl rfl rfl (y_fieldAddr ha28 (off := 3) rfl Try.underlying45 rfl (s := 0) (by kernel_rfl) rfl) ?_
 clear ha28 a27; intro a29 ha29
 refine st_g ha29 rfl rfl rfl rfl (y_loadB1 ha29 m4 (i := 20) rfl rfl rfl Try.underlying3 rfl) ?_
 clear ha29 a29; intro a30 ha30
 refine st_g ha30 rfl rfl rfl rfl (y_fieldAddr ha30 (off := 3) rfl Try.underlying45 rfl (s := 0) (by kernel_rfl) rfl) ?_
 clear ha30 a30; intro a31 ha31
 refine st_g ha31 rfl rfl rfl rfl (y_loadB1 ha31 m4 (i := 21) rfl rfl rfl Try.underlying3 rfl) ?_
 clear ha31 a31; intro a32 ha32
 refine st_g ha32 rfl rfl rfl rfl (y_eql ha32 rfl rfl) ?_
 clear ha32 a32; intro a33 ha33
 refine st_y ha33 rfl (y_pickT ha33 rfl rfl) ?_
 clear ha33 a33; intro a34 ha34
 refine st_y ha34 rfl (y_move ha34 rfl) ?_
 clear ha34 a34; intro a35 ha35
 refine bool_cases ha35 (t := 31) rfl (fun hb36 ha36 => ?_) (fun hb36 ha36 => ?_)
 rotate_left
 · exact absurd hb36 (by simp)
 clear ha35 hb36
 refine st_g ha36 rfl rfl rfl rfl (y_fieldAddr ha36 (off := 4) rfl Try.underlying45 rfl (s := 0) (by kernel_rfl) rfl) ?_
 clear ha36 a35; intro a37 ha37
 refine st_g ha37 rfl rfl rfl rfl (y_loadB1 ha37 m4 (i := 20) rfl rfl rfl Try.underlying43 rfl) ?_
 clear ha37 a37; intro a38 ha38
 refine st_g ha38 rfl rfl rfl rfl (y_str ha38 rfl (IsNums.nil _ _ _ _) Try.underlying43 Try.underlying5 Try.underlying9) ?_
 clear ha38 a38; intro a39 ha39
 refine st_g ha39 rfl rfl rfl rfl (y_fieldAddr ha39 (off := 4) rfl Try.underlying45 rfl (s := 0) (by kernel_rfl) rfl) ?_
 clear ha39 a39; intro a40 ha40
 refine st_g ha40 rfl rfl rfl rfl (y_loadB1 ha40 m4 (i := 21) rfl rfl rfl Try.underlying43 rfl) ?_
 clear ha40 a40; intro a41 ha41
 refine st_g ha41 rfl rfl rfl rfl (y_str ha41 rfl (IsNums.nil _ _ _ _) Try.underlying43 Try.underlying5 Try.underlying9) ?_
 clear ha41 a41; intro a42 ha42
 refine st_g ha42 rfl rfl rfl rfl (y_eqlS ha42 rfl rfl) ?_
 clear ha42 a42; intro a43 ha43
 refine st_y ha43 rfl (y_pickT ha43 rfl rfl) ?_
 clear ha43 a43; intro a44 ha44
 refine st_y ha44 rfl (y_assign ha44 rfl) ?_
 clear ha44 a44; intro a45 ha45
 refine wpList_nil ?_
 refine hK1 _ _ ?_; clear hK1; try clear K1
 refine wp_ret ?_
 try dsimp only [Exit.then, Exit.inBlock]
 refine (ret1 (fn := Try.f18) ha45 rfl rfl ?_)
 exact ⟨by simp, m4.below⟩
theorem scmd_any (vo bl : Int) (z : Nat) (pe to ne fl : Int) (hi : Bool) (pp pn pw : Option Addr) (np cp nn9 cn9 nw cw : Nat) (wh xa xb xc : Int) (w0 : World) (hz : z ≤ 1000) (hnw : nw ≤ 1000000) (hne : -1000000000000000 ≤ ne ∧ ne ≤ 1000000000000000) (hw9 : 0 ≤ wh ∧ wh ≤ 255) (ha9 : 0 ≤ xa ∧ xa ≤ 255) (hb9 : 0 ≤ xb ∧ xb ≤ 255) (hc9 : 0 ≤ xc ∧ xc ≤ 255) :
   Calls Try.prog 15 #[.agg #[.int .i64 vo, .int .i64 bl, .int .i64 (z : Int), .int .i64 pe, .slice pp np cp, .int .i64 to, .int .i64 ne, .bool hi, .int .i64 fl, .slice pn nn9 cn9, .slice pw nw cw], .bool true, .int .u8 wh, .int .u8 xa, .int .u8 xb, .int .u8 xc] w0 fun e w' => ∃ (kd bl2 sz2 pe2 to2 at0 ix vo2 : Int) (it : List (Int × List Int)) (pi : Option Addr) (ci : Nat) (dd : Unit), e = .returned (.agg #[.int .i64 kd, .int .i64 vo2, .int .i64 bl2, .int .i64 sz2, .int .i64 pe2, .slice none 0 0, .int .i64 to2, .int .i64 at0, .int .i64 ix, .slice pi it.length ci]) ∧ (2 ≤ kd ∧ kd ≤ 8) ∧ it.length ≤ 8 ∧ ItsB it ∧ Rd (New w0) w' (.slice pi it.length ci) (.l 2 (it.map itD)) ∧ Below w0.heap.size w0 w' := by
 refine enter (fn := Try.f15) Try.func15 rfl Try.ntmps15 rfl (fun a0 ha0 => ?_)
 simp only [List.zipIdx_cons, List.zipIdx_nil, List.map_cons, List.map_nil, Nat.reduceAdd, Nat.zero_add] at ha0
 have m0 := MemOk.start (fun _ => False) w0
 refine wp_seq_k (fun K0 hK0 => ?_)
 refine wp_region_lit ?_
 refine wpList_plain rfl (fun K hK => ?_)
 refine e_box ha0 m0 20 (cs := [_, _, _, _, _, _, _, _, _, _, _]) rfl rfl rfl ?_
 clear ha0 a0 m0; intro g1 a2 w2 ha2 m2 hB2 hg2
 clear hB2 hg2
 refine hK _ _ ?_; clear hK K
 refine wpList_plain rfl (fun K hK => ?_)
 refine e_alloc ha2 m2 21 zc25cm rfl ?_
 clear ha2 a2 m2; intro g3 a4 w4 ha4 m4 hB4 hg4
 clear hB4 hg4
 refine hK _ _ ?_; clear hK K
 refine wpList_nil ?_
 refine hK0 _ _ ?_; clear hK0; try clear K0
 refine wp_seq_k (fun K1 hK1 => ?_)
 refine wp_seq_k (fun K2 hK2 => ?_)
 refine wp_region_lit ?_
 refine st_y ha4 rfl (y_move ha4 rfl) ?_
 clear ha4 a4; intro a5 ha5
 refine st_y ha5 rfl (y_not ha5 rfl) ?_
 clear ha5 a5; intro a6 ha6
 refine wpList_nil ?_
 refine hK2 _ _ ?_; clear hK2; try clear K2
 refine wp_cond_false (ha6.ev (x := .tmp 16) rfl) ?_
 refine wp_skip ?_
 refine hK1 _ _ ?_; clear hK1; try clear K1
 refine wp_seq_k (fun K3 hK3 => ?_)
 refine wp_region_lit ?_
 refine st_y ha6 rfl (y_fieldAddr ha6 (off := 0) rfl Try.underlying34 rfl (s := 0) (by kernel_rfl) rfl) ?_
 clear ha6 a6; intro a7 ha7
 refine st_y ha7 rfl (y_loadB1 ha7 m4 (i := 20) rfl rfl rfl Try.underlying3 rfl) ?_
 clear ha7 a7; intro a8 ha8
 refine st_y ha8 rfl (y_build ha8 rfl zc25cm fl25cm rfl (by dsimp only [setL, List.set] <;> rfl)) ?_
 clear ha8 a8; intro a9 ha9
 refine wpList_plain rfl (fun K hK => ?_)
 refine e_alloc ha9 m4 22 zc25cm rfl ?_
 clear ha9 a9 m4; intro g10 a11 w11 ha11 m11 hB11 hg11
 clear hB11 hg11
 refine hK _ _ ?_; clear hK K
 refine wpList_plain rfl (fun K hK => ?_)
 refine e_storeW ha11 m11 22 rfl rfl rfl rfl rfl sz25cm ?_
 clear m11; intro w12 m12 hB12
 clear hB12
 refine hK _ _ ?_; clear hK K
 refine wpList_nil ?_
 refine hK3 _ _ ?_; clear hK3; try clear K3
 refine wp_seq_k (fun K4 hK4 => ?_)
 have hC4 : ∀ (a : Act) (w : World), (∃ (kd at0 ix : Int) (it : List (Int × List Int)) (pi : Option Addr) (ci : Nat) (B6 B12 B14 : Nat), (2 ≤ kd ∧ kd ≤ 8) ∧ it.length ≤ 8 ∧ ItsB it ∧ Has 131 [(2, .int .u8 wh), (3, .int .u8 xa), (4, .int .u8 xb), (5, .int .u8 xc), (6, .pointer (some ⟨B6, 0, none⟩)), (12, .pointer (some ⟨B12, 0, none⟩)), (14, .pointer (some ⟨B14, 0, none⟩))] a ∧ MemOk (cn w0) w0 [(6, .box B6 34 [.int .i64 vo, .int .i64 bl, .int .i64 (z : Int), .int .i64 pe, .slice pp np cp, .int .i64 to, .int .i64 ne, .bool hi, .int .i64 fl, .slice pn nn9 cn9, .slice pw nw cw]), (12, .box B12 25 [.int .i64 0, .int .i64 0, .int .i64 0, .int .i64 0, .int .i64 0, .slice none 0 0, .int .i64 0, .int .i64 0, .int .i64 0, .slice none 0 0]), (14, .box B14 25 [.int .i64 kd, .int .i64 vo, .int .i64 0, .int .i64 0, .int .i64 0, .slice none 0 0, .int .i64 0, .int .i64 at0, .int .i64 ix, .slice pi it.length ci]), (9, .dat (.slice pi it.length ci) (.l 2 (it.map itD)))] w) → K4 a w := by
   clear ha11 m12
   rintro a13 w13 ⟨kd, at0, ix, it, pi, ci, B6, B12, B14, hkd, hit8, hitb, ha13, m13⟩
   refine hK4 _ _ ?_; clear hK4; try clear K4
   refine wp_seq_k (fun K5 hK5 => ?_)
   refine wp_seq_k (fun K6 hK6 => ?_)
   refine wp_region_lit ?_
   refine st_y ha13 rfl (y_fieldAddr ha13 (off := 7) rfl Try.underlying34 rfl (s := 0) (by kernel_rfl) rfl) ?_
   clear ha13 a13; intro a14 ha14
   refine st_y ha14 rfl (y_loadB1 ha14 m13 (i := 6) rfl rfl rfl Try.underlying4 rfl) ?_
   clear ha14 a14; intro a15 ha15
   refine st_y ha15 rfl (y_move ha15 rfl) ?_
   clear ha15 a15; intro a16 ha16
   refine bool_cases ha16 (t := 111) rfl (fun hb17 ha17 => ?_) (fun hb17 ha17 => ?_)
   ·
    clear ha16
    try simp only [Q1x, Q2x, Q3x, Q4x, Q5x, Q6x, Q7x, Q8x, Q9x, Q0x, Qax, Qbx] at hb17
    refine st_g ha17 rfl rfl rfl rfl (y_move ha17 rfl) ?_
    clear ha17 a16; intro a18 ha18
    refine st_g ha18 rfl rfl rfl rfl (y_rem ha18 rfl rfl (by decide) rfl) ?_
    clear ha18 a18; intro a19 ha19
    refine st_g ha19 rfl rfl rfl rfl (y_lss ha19 rfl rfl) ?_
    clear ha19 a19; intro a20 ha20
    refine st_y ha20 rfl (y_pickT ha20 rfl rfl) ?_
    clear ha20 a20; intro a21 ha21
    refine wpList_nil ?_
    refine hK6 _ _ ?_; clear hK6; try clear K6
    refine bool_cases ha21 (t := 115) rfl (fun hb22 ha22 => ?_) (fun hb22 ha22 => ?_)
    ·
     clear ha21
     try simp only [Q1x, Q2x, Q3x, Q4x, Q5x, Q6x, Q7x, Q8x, Q9x, Q0x, Qax, Qbx] at hb22
     refine wp_cond_true (ha22.ev (x := .tmp 115) rfl) ?_
     have ha23 : Has 131 [(3, _), (4, _), (5, _), (6, _), (12, _), (14, _)] a21 := ha22.only [3, 4, 5, 6, 12, 14]; clear ha22
     have m24 : MemOk _ _ [(6, _), (9, _), (12, _), (14, _)] _ := m13.only [6, 9, 12, 14]; clear m13
     refine region_m 15 (B := [(6, _)]) (m24.to ⟨il, trivial⟩) m24 (by kernel_rfl) (fun w25 mB25 m25 => ?_); clear m24 mB25
     refine dyn 0 ha23 rfl rfl (m25.to ⟨il, trivial⟩) (fun W => y_fieldAddr ha23 (off := 0) rfl Try.underlying34 rfl (s := 0) (by kernel_rfl) rfl) ?_
     clear ha23 a21; intro a26 ha26
     refine dh 1 ha26 rfl rfl (m25.to ⟨il, trivial⟩) (fun W hW => y_loadB1 ha26 hW (i := 6) rfl rfl rfl Try.underlying3 rfl) ?_
     clear ha26 a26; intro a27 ha27
     refine dyn 2 ha27 rfl rfl (m25.to ⟨il, trivial⟩) (fun W => y_fieldAddr ha27 (off := 6) rfl Try.underlying34 rfl (s := 0) (by kernel_rfl) rfl) ?_
     clear ha27 a27; intro a28 ha28
     refine dh 3 ha28 rfl rfl (m25.to ⟨il, trivial⟩) (fun W hW => y_loadB1 ha28 hW (i := 6) rfl rfl rfl Try.underlying3 rfl) ?_
     clear ha28 a28; intro a29 ha29
     refine dyn 4 ha29 rfl rfl (m25.to ⟨il, trivial⟩) (fun W => y_fieldAddr ha29 (off := 1) rfl Try.underlying34 rfl (s := 0) (by kernel_rfl) rfl) ?_
     clear ha29 a29; intro a30 ha30
     refine dh 5 ha30 rfl rfl (m25.to ⟨il, trivial⟩) (fun W hW => y_loadB1 ha30 hW (i := 6) rfl rfl rfl Try.underlying3 rfl) ?_
     clear ha30 a30; intro a31 ha31
     refine dyn 6 ha31 rfl rfl (m25.to ⟨il, trivial⟩) (fun W => y_fieldAddr ha31 (off := 2) rfl Try.underlying34 rfl (s := 0) (by kernel_rfl) rfl) ?_
     clear ha31 a31; intro a32 ha32
     refine dh 7 ha32 rfl rfl (m25.to ⟨il, trivial⟩) (fun W hW => y_loadB1 ha32 hW (i := 6) rfl rfl rfl Try.underlying3 rfl) ?_
     clear ha32 a32; intro a33 ha33
     refine dyn 8 ha33 rfl rfl (m25.to ⟨il, trivial⟩) (fun W => y_move ha33 rfl) ?_
     clear ha33 a33; intro a34 ha34
     refine dyn 9 ha34 rfl rfl (m25.to ⟨il, trivial⟩) (fun W => y_move ha34 rfl) ?_
     clear ha34 a34; intro a35 ha35
     refine dyn 10 ha35 rfl rfl (m25.to ⟨il, trivial⟩) (fun W => y_move ha35 rfl) ?_
     clear ha35 a35; intro a36 ha36
     refine stepE_only 11 rfl (by kernel_rfl) rfl (fun K hK => ?_)
     refine e_litN ha36 m25 100 (k := .u8) rfl rfl Try.underlying43 inf5cm rfl rfl rfl rfl ?_
     clear ha36 a36 m25; intro g37 a38 w38 ha38 m38
     refine hK _ _ (m38.to ⟨il, trivial⟩) ?_; clear hK K
     have m39 := m38.freezeN 100 rfl; clear m38
     refine stepE_only 12 rfl (by kernel_rfl) rfl (fun K hK => ?_)
     refine e_call ha38 Try.func30 rfl rfl rfl rfl (sitem_any bl z [xa, xb, xc] _ _ _ ((m39.rd (i := 100) rfl).any) (by simp) (b3 ha9 hb9 hc9) (by omega)) ?_
     rintro e w40 ⟨it, p40, c40, rfl, hit8, hpre9, hitb, hit1, hd40, hb40⟩
     have m41 := m39.callF 101 rfl hb40 hd40
     clear m39
     clear hb40 hd40
     refine ⟨_, rfl, fun a42 ha42 => ?_⟩; clear ha38 a38
     refine hK _ _ (m41.to ⟨il, trivial⟩) ?_; clear hK K
     refine dyn 13 ha42 rfl rfl (m41.to ⟨il, trivial⟩) (fun W => y_build ha42 rfl zc25cm fl25cm rfl (by dsimp only [setL, List.set] <;> rfl)) ?_
     clear ha42 a42; intro a43 ha43
     refine stepE_only 14 rfl (by kernel_rfl) rfl (fun K hK => ?_)
     refine e_storeW ha43 m41 14 rfl rfl rfl rfl rfl sz25cm ?_
     clear m41; intro w44 m44 hB44
     clear hB44
     refine hK _ _ (m44.to ⟨il, trivial⟩) ?_; clear hK K
     refine wpAnyE_done (by kernel_rfl) ?_ _
     refine hK5 _ _ ?_; clear hK5; try clear K5
     refine wp_seq_k (fun K7 hK7 => ?_)
     have ha45 : Has 131 [(12, _), (14, _)] a43 := ha43.only [12, 14]; clear ha43
     refine wp_region_lit ?_
     refine st_y ha45 rfl (y_loadBR ha45 m44 (i := 14) rfl rfl Try.underlying25 rfl sz25cm (by simp) (by dsimp only [List.drop, List.take] <;> rfl)) ?_
     clear ha45 a43; intro a46 ha46
     refine wpList_plain rfl (fun K hK => ?_)
     refine e_storeW ha46 m44 12 rfl rfl rfl rfl rfl sz25cm ?_
     clear m44; intro w47 m47 hB47
     clear hB47
     refine hK _ _ ?_; clear hK K
     refine wpList_nil ?_
     refine hK7 _ _ ?_; clear hK7; try clear K7
     refine wp_ret ?_
     try dsimp only [Exit.then, Exit.inBlock]
     refine (retC (fn := Try.f15) ha46 m47 (i := 12) rfl rfl rfl Try.underlying25 rfl sz25cm ?_)
     exact ⟨_, _, _, _, _, _, _, _, _, _, _, (), rfl, by first | assumption | decide, by first | assumption, by first | assumption, m47.outF (i := 101) rfl, m47.below⟩
    ·
     clear ha21
     try simp only [Q1x, Q2x, Q3x, Q4x, Q5x, Q6x, Q7x, Q8x, Q9x, Q0x, Qax, Qbx] at hb22
     refine wp_cond_false (ha22.ev (x := .tmp 115) rfl) ?_
     refine wp_skip ?_
     refine hK5 _ _ ?_; clear hK5; try clear K5
     refine wp_seq_k (fun K8 hK8 => ?_)
     have ha48 : Has 131 [(12, _), (14, _)] a21 := ha22.only [12, 14]; clear ha22
     refine wp_region_lit ?_
     refine st_y ha48 rfl (y_loadBR ha48 m13 (i := 14) rfl rfl Try.underlying25 rfl sz25cm (by simp) (by dsimp only [List.drop, List.take] <;> rfl)) ?_
     clear ha48 a21; intro a49 ha49
     refine wpList_plain rfl (fun K hK => ?_)
     refine e_storeW ha49 m13 12 rfl rfl rfl rfl rfl sz25cm ?_
     clear m13; intro w50 m50 hB50
     clear hB50
     refine hK _ _ ?_; clear hK K
     refine wpList_nil ?_
     refine hK8 _ _ ?_; clear hK8; try clear K8
     refine wp_ret ?_
     try dsimp only [Exit.then, Exit.inBlock]
     refine (retC (fn := Try.f15) ha49 m50 (i := 12) rfl rfl rfl Try.underlying25 rfl sz25cm ?_)
     exact ⟨_, _, _, _, _, _, _, _, _, _, _, (), rfl, by first | assumption | decide, by first | assumption, by first | assumption, m50.outF (i := 9) rfl, m50.below⟩
   ·
    clear ha16
    try simp only [Q1x, Q2x, Q3x, Q4x, Q5x, Q6x, Q7x, Q8x, Q9x, Q0x, Qax, Qbx] at hb17
    refine st_skip ha17 rfl rfl rfl rfl ?_
    clear ha17 a16; intro a51 ha51
    refine st_skip ha51 rfl rfl rfl rfl ?_
    clear ha51 a51; intro a52 ha52
    refine st_skip ha52 rfl rfl rfl rfl ?_
    clear ha52 a52; intro a53 ha53
    refine st_y ha53 rfl (y_pickF ha53 rfl rfl) ?_
    clear ha53 a53; intro a54 ha54
    refine wpList_nil ?_
    refine hK6 _ _ ?_; clear hK6; try clear K6
    refine wp_cond_false (ha54.ev (x := .tmp 115) rfl) ?_
    refine wp_skip ?_
    refine hK5 _ _ ?_; clear hK5; try clear K5
    refine wp_seq_k (fun K9 hK9 => ?_)
    have ha55 : Has 131 [(12, _), (14, _)] a54 := ha54.only [12, 14]; clear ha54
    refine wp_region_lit ?_
    refine st_y ha55 rfl (y_loadBR ha55 m13 (i := 14) rfl rfl Try.underlying25 rfl sz25cm (by simp) (by dsimp only [List.drop, List.take] <;> rfl)) ?_
    clear ha55 a54; intro a56 ha56
    refine wpList_plain rfl (fun K hK => ?_)
    refine e_storeW ha56 m13 12 rfl rfl rfl rfl rfl sz25cm ?_
    clear m13; intro w57 m57 hB57
    clear hB57
    refine hK _ _ ?_; clear hK K
    refine wpList_nil ?_
    refine hK9 _ _ ?_; clear hK9; try clear K9
    refine wp_ret ?_
    try dsimp only [Exit.then, Exit.inBlock]
    refine (retC (fn := Try.f15) ha56 m57 (i := 12) rfl rfl rfl Try.underlying25 rfl sz25cm ?_)
    exact ⟨_, _, _, _, _, _, _, _, _, _, _, (), rfl, by first | assumption | decide, by first | assumption, by first | assumption, m57.outF (i := 9) rfl, m57.below⟩
 refine wp_seq_k (fun K10 hK10 => ?_)
 have ha58 : Has 131 [(2, _), (3, _), (4, _), (5, _), (6, _), (12, _), (14, _)] a11 := ha11.only [2, 3, 4, 5, 6, 12, 14]; clear ha11
 refine wp_region_lit ?_
 refine st_y ha58 rfl (y_move ha58 rfl) ?_
 clear ha58 a11; intro a59 ha59
 refine st_y ha59 rfl (y_rem ha59 rfl rfl (by decide) rfl) ?_
 clear ha59 a59; intro a60 ha60
 refine wpList_nil ?_
 refine hK10 _ _ ?_; clear hK10; try clear K10
 refine wp_block ?_
 refine wp_seq_k (fun K11 hK11 => ?_)
 refine wp_seq_k (fun K12 hK12 => ?_)
 refine wp_region_lit ?_
 refine st_y ha60 rfl (y_eql ha60 rfl rfl) ?_
 clear ha60 a60; intro a61 ha61
 refine st_y ha61 rfl (y_assign ha61 rfl) ?_
 clear ha61 a61; intro a62 ha62
 refine wpList_nil ?_
 refine hK12 _ _ ?_; clear hK12; try clear K12
 refine bool_cases ha62 (t := 39) rfl (fun hb63 ha63 => ?_) (fun hb63 ha63 => ?_)
 ·
  clear ha62
  try simp only [Q1x, Q2x, Q3x, Q4x, Q5x, Q6x, Q7x, Q8x, Q9x, Q0x, Qax, Qbx] at hb63
  refine wp_cond_true (ha63.ev (x := .tmp 39) rfl) ?_
  refine wp_skip ?_
  refine hK11 _ _ ?_; clear hK11; try clear K11
  refine wp_cond_true (ha63.ev (x := .tmp 39) rfl) ?_
  refine wp_region_lit ?_
  refine st_y ha63 rfl (y_fieldAddr ha63 (off := 1) rfl Try.underlying34 rfl (s := 0) (by kernel_rfl) rfl) ?_
  clear ha63 a62; intro a64 ha64
  refine st_y ha64 rfl (y_loadB1 ha64 m12 (i := 20) rfl rfl rfl Try.underlying3 rfl) ?_
  clear ha64 a64; intro a65 ha65
  refine st_y ha65 rfl (y_fieldAddr ha65 (off := 2) rfl Try.underlying34 rfl (s := 0) (by kernel_rfl) rfl) ?_
  clear ha65 a65; intro a66 ha66
  refine st_y ha66 rfl (y_loadB1 ha66 m12 (i := 20) rfl rfl rfl Try.underlying3 rfl) ?_
  clear ha66 a66; intro a67 ha67
  refine st_y ha67 rfl (y_move ha67 rfl) ?_
  clear ha67 a67; intro a68 ha68
  refine st_y ha68 rfl (y_move ha68 rfl) ?_
  clear ha68 a68; intro a69 ha69
  refine st_y ha69 rfl (y_move ha69 rfl) ?_
  clear ha69 a69; intro a70 ha70
  refine wpList_plain rfl (fun K hK => ?_)
  refine e_litN ha70 m12 23 (k := .u8) rfl rfl Try.underlying43 inf5cm rfl rfl rfl rfl ?_
  clear ha70 a70 m12; intro g71 a72 w72 ha72 m72
  refine hK _ _ ?_; clear hK K
  have m73 := m72.freezeN 23 rfl; clear m72
  refine wpList_plain rfl (fun K hK => ?_)
  refine e_call ha72 Try.func30 rfl rfl rfl rfl (sitem_any bl z [xa, xb, xc] _ _ _ ((m73.rd (i := 23) rfl).any) (by simp) (b3 ha9 hb9 hc9) (by omega)) ?_
  rintro e w74 ⟨it, p74, c74, rfl, hit8, hpre9, hitb, hit1, hd74, hb74⟩
  have m75 := m73.callF 24 rfl hb74 hd74
  clear m73
  clear hb74 hd74
  refine ⟨_, rfl, fun a76 ha76 => ?_⟩; clear ha72 a72
  refine hK _ _ ?_; clear hK K
  refine st_y ha76 rfl (y_fieldAddr ha76 (off := 0) rfl Try.underlying25 rfl (s := 0) (by kernel_rfl) rfl) ?_
  clear ha76 a76; intro a77 ha77
  refine wpList_plain rfl (fun K hK => ?_)
  refine e_store1 ha77 m75 22 rfl rfl rfl rfl rfl sz3cm (by dsimp only [List.set] <;> rfl) ?_
  clear m75; intro w78 m78 hB78
  clear hB78
  refine hK _ _ ?_; clear hK K
  refine st_y ha77 rfl (y_fieldAddr ha77 (off := 9) rfl Try.underlying25 rfl (s := 0) (by kernel_rfl) rfl) ?_
  clear ha77 a77; intro a79 ha79
  refine wpList_plain rfl (fun K hK => ?_)
  refine e_store1 ha79 m78 22 rfl rfl rfl rfl rfl sz23cm (by dsimp only [List.set] <;> rfl) ?_
  clear m78; intro w80 m80 hB80
  clear hB80
  refine hK _ _ ?_; clear hK K
  refine wpList_nil ?_
  show K4 _ _
  exact hC4 _ _ ⟨_, _, _, it, _, _, _, _, _, by decide, hit8, hitb, ha79.only [2, 3, 4, 5, 6, 12, 14], m80.ren [(6, 20), (12, 21), (14, 22), (9, 24)] (by decide)⟩
 ·
  clear ha62
  try simp only [Q1x, Q2x, Q3x, Q4x, Q5x, Q6x, Q7x, Q8x, Q9x, Q0x, Qax, Qbx] at hb63
  refine wp_cond_false (ha63.ev (x := .tmp 39) rfl) ?_
  refine wp_seq_k (fun K13 hK13 => ?_)
  refine wp_region_lit ?_
  refine st_y ha63 rfl (y_eql ha63 rfl rfl) ?_
  clear ha63 a62; intro a81 ha81
  refine st_y ha81 rfl (y_assign ha81 rfl) ?_
  clear ha81 a81; intro a82 ha82
  refine wpList_nil ?_
  refine hK13 _ _ ?_; clear hK13; try clear K13
  refine bool_cases ha82 (t := 39) rfl (fun hb83 ha83 => ?_) (fun hb83 ha83 => ?_)
  ·
   clear ha82
   try simp only [Q1x, Q2x, Q3x, Q4x, Q5x, Q6x, Q7x, Q8x, Q9x, Q0x, Qax, Qbx] at hb83
   refine wp_cond_true (ha83.ev (x := .tmp 39) rfl) ?_
   refine wp_skip ?_
   refine hK11 _ _ ?_; clear hK11; try clear K11
   refine wp_cond_true (ha83.ev (x := .tmp 39) rfl) ?_
   refine wp_region_lit ?_
   refine st_y ha83 rfl (y_fieldAddr ha83 (off := 1) rfl Try.underlying34 rfl (s := 0) (by kernel_rfl) rfl) ?_
   clear ha83 a82; intro a84 ha84
   refine st_y ha84 rfl (y_loadB1 ha84 m12 (i := 20) rfl rfl rfl Try.underlying3 rfl) ?_
   clear ha84 a84; intro a85 ha85
   refine st_y ha85 rfl (y_fieldAddr ha85 (off := 2) rfl Try.underlying34 rfl (s := 0) (by kernel_rfl) rfl) ?_
   clear ha85 a85; intro a86 ha86
   refine st_y ha86 rfl (y_loadB1 ha86 m12 (i := 20) rfl rfl rfl Try.underlying3 rfl) ?_
   clear ha86 a86; intro a87 ha87
   refine st_y ha87 rfl (y_move ha87 rfl) ?_
   clear ha87 a87; intro a88 ha88
   refine st_y ha88 rfl (y_move ha88 rfl) ?_
   clear ha88 a88; intro a89 ha89
   refine st_y ha89 rfl (y_move ha89 rfl) ?_
   clear ha89 a89; intro a90 ha90
   refine wpList_plain rfl (fun K hK => ?_)
   refine e_litN ha90 m12 23 (k := .u8) rfl rfl Try.underlying43 inf5cm rfl rfl rfl rfl ?_
   clear ha90 a90 m12; intro g91 a92 w92 ha92 m92
   refine hK _ _ ?_; clear hK K
   have m93 := m92.freezeN 23 rfl; clear m92
   refine wpList_plain rfl (fun K hK => ?_)
   refine e_call ha92 Try.func30 rfl rfl rfl rfl (sitem_any bl z [xa, xb, xc] _ _ _ ((m93.rd (i := 23) rfl).any) (by simp) (b3 ha9 hb9 hc9) (by omega)) ?_
   rintro e w94 ⟨it, p94, c94, rfl, hit8, hpre9, hitb, hit1, hd94, hb94⟩
   have m95 := m93.callF 24 rfl hb94 hd94
   clear m93
   clear hb94 hd94
   refine ⟨_, rfl, fun a96 ha96 => ?_⟩; clear ha92 a92
   refine hK _ _ ?_; clear hK K
   refine st_y ha96 rfl (y_fieldAddr ha96 (off := 0) rfl Try.underlying25 rfl (s := 0) (by kernel_rfl) rfl) ?_
   clear ha96 a96; intro a97 ha97
   refine wpList_plain rfl (fun K hK => ?_)
   refine e_store1 ha97 m95 22 rfl rfl rfl rfl rfl sz3cm (by dsimp only [List.set] <;> rfl) ?_
   clear m95; intro w98 m98 hB98
   clear hB98
   refine hK _ _ ?_; clear hK K
   refine st_y ha97 rfl (y_fieldAddr ha97 (off := 9) rfl Try.underlying25 rfl (s := 0) (by kernel_rfl) rfl) ?_
   clear ha97 a97; intro a99 ha99
   refine wpList_plain rfl (fun K hK => ?_)
   refine e_store1 ha99 m98 22 rfl rfl rfl rfl rfl sz23cm (by dsimp only [List.set] <;> rfl) ?_
   clear m98; intro w100 m100 hB100
   clear hB100
   refine hK _ _ ?_; clear hK K
   refine wpList_nil ?_
   show K4 _ _
   exact hC4 _ _ ⟨_, _, _, it, _, _, _, _, _, by decide, hit8, hitb, ha99.only [2, 3, 4, 5, 6, 12, 14], m100.ren [(6, 20), (12, 21), (14, 22), (9, 24)] (by decide)⟩
  ·
   clear ha82
   try simp only [Q1x, Q2x, Q3x, Q4x, Q5x, Q6x, Q7x, Q8x, Q9x, Q0x, Qax, Qbx] at hb83
   refine wp_cond_false (ha83.ev (x := .tmp 39) rfl) ?_
   refine wp_seq_k (fun K14 hK14 => ?_)
   refine wp_region_lit ?_
   refine st_y ha83 rfl (y_eql ha83 rfl rfl) ?_
   clear ha83 a82; intro a101 ha101
   refine st_y ha101 rfl (y_assign ha101 rfl) ?_
   clear ha101 a101; intro a102 ha102
   refine wpList_nil ?_
   refine hK14 _ _ ?_; clear hK14; try clear K14
   refine bool_cases ha102 (t := 39) rfl (fun hb103 ha103 => ?_) (fun hb103 ha103 => ?_)
   ·
    clear ha102
    try simp only [Q1x, Q2x, Q3x, Q4x, Q5x, Q6x, Q7x, Q8x, Q9x, Q0x, Qax, Qbx] at hb103
    refine wp_cond_true (ha103.ev (x := .tmp 39) rfl) ?_
    refine wp_skip ?_
    refine hK11 _ _ ?_; clear hK11; try clear K11
    refine wp_cond_true (ha103.ev (x := .tmp 39) rfl) ?_
    refine wp_region_lit ?_
    refine st_y ha103 rfl (y_fieldAddr ha103 (off := 1) rfl Try.underlying34 rfl (s := 0) (by kernel_rfl) rfl) ?_
    clear ha103 a102; intro a104 ha104
    refine st_y ha104 rfl (y_loadB1 ha104 m12 (i := 20) rfl rfl rfl Try.underlying3 rfl) ?_
    clear ha104 a104; intro a105 ha105
    refine st_y ha105 rfl (y_fieldAddr ha105 (off := 2) rfl Try.underlying34 rfl (s := 0) (by kernel_rfl) rfl) ?_
    clear ha105 a105; intro a106 ha106
    refine st_y ha106 rfl (y_loadB1 ha106 m12 (i := 20) rfl rfl rfl Try.underlying3 rfl) ?_
    clear ha106 a106; intro a107 ha107
    refine st_y ha107 rfl (y_move ha107 rfl) ?_
    clear ha107 a107; intro a108 ha108
    refine st_y ha108 rfl (y_move ha108 rfl) ?_
    clear ha108 a108; intro a109 ha109
    refine st_y ha109 rfl (y_move ha109 rfl) ?_
    clear ha109 a109; intro a110 ha110
    refine wpList_plain rfl (fun K hK => ?_)
    refine e_litN ha110 m12 23 (k := .u8) rfl rfl Try.underlying43 inf5cm rfl rfl rfl rfl ?_
    clear ha110 a110 m12; intro g111 a112 w112 ha112 m112
    refine hK _ _ ?_; clear hK K
    have m113 := m112.freezeN 23 rfl; clear m112
    refine wpList_plain rfl (fun K hK => ?_)
    refine e_call ha112 Try.func30 rfl rfl rfl rfl (sitem_any bl z [xa, xb, xc] _ _ _ ((m113.rd (i := 23) rfl).any) (by simp) (b3 ha9 hb9 hc9) (by omega)) ?_
    rintro e w114 ⟨it, p114, c114, rfl, hit8, hpre9, hitb, hit1, hd114, hb114⟩
    have m115 := m113.callF 24 rfl hb114 hd114
    clear m113
    clear hb114 hd114
    refine ⟨_, rfl, fun a116 ha116 => ?_⟩; clear ha112 a112
    refine hK _ _ ?_; clear hK K
    refine st_y ha116 rfl (y_fieldAddr ha116 (off := 0) rfl Try.underlying25 rfl (s := 0) (by kernel_rfl) rfl) ?_
    clear ha116 a116; intro a117 ha117
    refine wpList_plain rfl (fun K hK => ?_)
    refine e_store1 ha117 m115 22 rfl rfl rfl rfl rfl sz3cm (by dsimp only [List.set] <;> rfl) ?_
    clear m115; intro w118 m118 hB118
    clear hB118
    refine hK _ _ ?_; clear hK K
    refine st_y ha117 rfl (y_fieldAddr ha117 (off := 9) rfl Try.underlying25 rfl (s := 0) (by kernel_rfl) rfl) ?_
    clear ha117 a117; intro a119 ha119
    refine wpList_plain rfl (fun K hK => ?_)
    refine e_store1 ha119 m118 22 rfl rfl rfl rfl rfl sz23cm (by dsimp only [List.set] <;> rfl) ?_
    clear m118; intro w120 m120 hB120
    clear hB120
    refine hK _ _ ?_; clear hK K
    refine wpList_nil ?_
    show K4 _ _
    exact hC4 _ _ ⟨_, _, _, it, _, _, _, _, _, by decide, hit8, hitb, ha119.only [2, 3, 4, 5, 6, 12, 14], m120.ren [(6, 20), (12, 21), (14, 22), (9, 24)] (by decide)⟩
   ·
    clear ha102
    try simp only [Q1x, Q2x, Q3x, Q4x, Q5x, Q6x, Q7x, Q8x, Q9x, Q0x, Qax, Qbx] at hb103
    refine wp_cond_false (ha103.ev (x := .tmp 39) rfl) ?_
    refine wp_region_lit ?_
    refine st_y ha103 rfl (y_eql ha103 rfl rfl) ?_
    clear ha103 a102; intro a121 ha121
    refine st_y ha121 rfl (y_assign ha121 rfl) ?_
    clear ha121 a121; intro a122 ha122
    refine wpList_nil ?_
    refine hK11 _ _ ?_; clear hK11; try clear K11
    refine bool_cases ha122 (t := 39) rfl (fun hb123 ha123 => ?_) (fun hb123 ha123 => ?_)
    ·
     clear ha122
     try simp only [Q1x, Q2x, Q3x, Q4x, Q5x, Q6x, Q7x, Q8x, Q9x, Q0x, Qax, Qbx] at hb123
     refine wp_cond_true (ha123.ev (x := .tmp 39) rfl) ?_
     have ha124 : Has 131 [(2, _), (3, _), (4, _), (5, _), (6, _), (12, _), (14, _), (37, _)] a122 := ha123.only [2, 3, 4, 5, 6, 12, 14, 37]; clear ha123
     refine wp_region_lit ?_
     refine st_y ha124 rfl (y_fieldAddr ha124 (off := 1) rfl Try.underlying34 rfl (s := 0) (by kernel_rfl) rfl) ?_
     clear ha124 a122; intro a125 ha125
     refine st_y ha125 rfl (y_loadB1 ha125 m12 (i := 20) rfl rfl rfl Try.underlying3 rfl) ?_
     clear ha125 a125; intro a126 ha126
     refine st_y ha126 rfl (y_fieldAddr ha126 (off := 2) rfl Try.underlying34 rfl (s := 0) (by kernel_rfl) rfl) ?_
     clear ha126 a126; intro a127 ha127
     refine st_y ha127 rfl (y_loadB1 ha127 m12 (i := 20) rfl rfl rfl Try.underlying3 rfl) ?_
     clear ha127 a127; intro a128 ha128
     refine st_y ha128 rfl (y_move ha128 rfl) ?_
     clear ha128 a128; intro a129 ha129
     refine st_y ha129 rfl (y_move ha129 rfl) ?_
     clear ha129 a129; intro a130 ha130
     refine st_y ha130 rfl (y_move ha130 rfl) ?_
     clear ha130 a130; intro a131 ha131
     refine wpList_plain rfl (fun K hK => ?_)
     refine e_litN ha131 m12 23 (k := .u8) rfl rfl Try.underlying43 inf5cm rfl rfl rfl rfl ?_
     clear ha131 a131 m12; intro g132 a133 w133 ha133 m133
     refine hK _ _ ?_; clear hK K
     have m134 := m133.freezeN 23 rfl; clear m133
     refine wpList_plain rfl (fun K hK => ?_)
     refine e_call ha133 Try.func30 rfl rfl rfl rfl (sitem_any bl z [xa, xb, xc] _ _ _ ((m134.rd (i := 23) rfl).any) (by simp) (b3 ha9 hb9 hc9) (by omega)) ?_
     rintro e w135 ⟨it, p135, c135, rfl, hit8, hpre9, hitb, hit1, hd135, hb135⟩
     have m136 := m134.callF 24 rfl hb135 hd135
     clear m134
     clear hb135 hd135
     refine ⟨_, rfl, fun a137 ha137 => ?_⟩; clear ha133 a133
     refine hK _ _ ?_; clear hK K
     refine st_y ha137 rfl (y_fieldAddr ha137 (off := 0) rfl Try.underlying25 rfl (s := 0) (by kernel_rfl) rfl) ?_
     clear ha137 a137; intro a138 ha138
     refine wpList_plain rfl (fun K hK => ?_)
     refine e_store1 ha138 m136 22 rfl rfl rfl rfl rfl sz3cm (by dsimp only [List.set] <;> rfl) ?_
     clear m136; intro w139 m139 hB139
     clear hB139
     refine hK _ _ ?_; clear hK K
     refine st_y ha138 rfl (y_fieldAddr ha138 (off := 9) rfl Try.underlying25 rfl (s := 0) (by kernel_rfl) rfl) ?_
     clear ha138 a138; intro a140 ha140
     refine wpList_plain rfl (fun K hK => ?_)
     refine e_store1 ha140 m139 22 rfl rfl rfl rfl rfl sz23cm (by dsimp only [List.set] <;> rfl) ?_
     clear m139; intro w141 m141 hB141
     clear hB141
     refine hK _ _ ?_; clear hK K
     refine wpList_nil ?_
     show K4 _ _
     exact hC4 _ _ ⟨_, _, _, it, _, _, _, _, _, by decide, hit8, hitb, ha140.only [2, 3, 4, 5, 6, 12, 14], m141.ren [(6, 20), (12, 21), (14, 22), (9, 24)] (by decide)⟩
    ·
     clear ha122
     try simp only [Q1x, Q2x, Q3x, Q4x, Q5x, Q6x, Q7x, Q8x, Q9x, Q0x, Qax, Qbx] at hb123
     refine wp_cond_false (ha123.ev (x := .tmp 39) rfl) ?_
     refine wp_seq_k (fun K15 hK15 => ?_)
     have ha142 : Has 131 [(2, _), (3, _), (4, _), (5, _), (6, _), (12, _), (14, _), (37, _)] a122 := ha123.only [2, 3, 4, 5, 6, 12, 14, 37]; clear ha123
     refine wp_region_lit ?_
     refine st_y ha142 rfl (y_eql ha142 rfl rfl) ?_
     clear ha142 a122; intro a143 ha143
     refine st_y ha143 rfl (y_assign ha143 rfl) ?_
     clear ha143 a143; intro a144 ha144
     refine wpList_nil ?_
     refine hK15 _ _ ?_; clear hK15; try clear K15
     refine bool_cases ha144 (t := 55) rfl (fun hb145 ha145 => ?_) (fun hb145 ha145 => ?_)
     ·
      clear ha144
      try simp only [Q1x, Q2x, Q3x, Q4x, Q5x, Q6x, Q7x, Q8x, Q9x, Q0x, Qax, Qbx] at hb145
      refine wp_cond_true (ha145.ev (x := .tmp 55) rfl) ?_
      have m146 : MemOk _ _ [(20, _), (21, _), (22, _)] _ := m12.only [20, 21, 22]; clear m12
      refine region_m 10 (B := [(20, _)]) (m146.to ⟨il, trivial⟩) m146 (by kernel_rfl) (fun w147 mB147 m147 => ?_); clear m146 mB147
      refine dyn 0 ha145 rfl rfl (m147.to ⟨il, trivial⟩) (fun W => y_move ha145 rfl) ?_
      clear ha145 a144; intro a148 ha148
      refine dyn 1 ha148 rfl rfl (m147.to ⟨il, trivial⟩) (fun W => y_conv ha148 rfl Try.underlying5 Try.underlying2 (r := xa) (IntWalk.i64_in _ (by omega))) ?_
      clear ha148 a148; intro a149 ha149
      refine dh 2 ha149 rfl rfl (m147.to ⟨il, trivial⟩) (fun W hW => y_loadBR ha149 hW (i := 20) rfl rfl Try.underlying34 rfl sz34cm (by simp) (by dsimp only [List.drop, List.take] <;> rfl)) ?_
      clear ha149 a149; intro a150 ha150
      refine dyn 6 ha150 rfl rfl (m147.to ⟨il, trivial⟩) (fun W => y_fieldAddr ha150 (off := 0) rfl Try.underlying25 rfl (s := 0) (by kernel_rfl) rfl) ?_
      clear ha150 a150; intro a151 ha151
      refine stepE_only 3 rfl (by kernel_rfl) rfl (fun K hK => ?_)
      refine e_call ha151 Try.func21 rfl rfl rfl rfl (rlen_any _ _ _ _ _ _ _ _ _ _ _ _ _ _ _ _ _ _) ?_
      rintro e w152 ⟨rfl, hb152⟩
      have m153 := m147.later hb152
      clear m147
      clear hb152
      refine ⟨_, rfl, fun a154 ha154 => ?_⟩; clear ha151 a151
      refine hK _ _ (m153.to ⟨il, trivial⟩) ?_; clear hK K
      refine dyn 4 ha154 rfl rfl (m153.to ⟨il, trivial⟩) (fun W => y_add ha154 rfl rfl (r := (nw : Int) + 2) (IntWalk.i64_in _ (by omega))) ?_
      clear ha154 a154; intro a155 ha155
      refine dyn 5 ha155 rfl rfl (m153.to ⟨il, trivial⟩) (fun W => y_rem ha155 rfl rfl (by omega) rfl) ?_
      clear ha155 a155; intro a156 ha156
      refine stepE_only 7 rfl (by kernel_rfl) rfl (fun K hK => ?_)
      refine e_store1 ha156 m153 22 rfl rfl rfl rfl rfl sz3cm (by dsimp only [List.set] <;> rfl) ?_
      clear m153; intro w157 m157 hB157
      clear hB157
      refine hK _ _ (m157.to ⟨il, trivial⟩) ?_; clear hK K
      refine dyn 8 ha156 rfl rfl (m157.to ⟨il, trivial⟩) (fun W => y_fieldAddr ha156 (off := 7) rfl Try.underlying25 rfl (s := 0) (by kernel_rfl) rfl) ?_
      clear ha156 a156; intro a158 ha158
      refine stepE_only 9 rfl (by kernel_rfl) rfl (fun K hK => ?_)
      refine e_store1 ha158 m157 22 rfl rfl rfl rfl rfl sz2cm (by dsimp only [List.set] <;> rfl) ?_
      clear m157; intro w159 m159 hB159
      clear hB159
      refine hK _ _ (m159.to ⟨il, trivial⟩) ?_; clear hK K
      refine wpAnyE_done (by kernel_rfl) ?_ _
      have m160 := m159.dat 23 rfl (Rd.l0 none 0 2); clear m159
      show K4 _ _
      exact hC4 _ _ ⟨_, _, _, [], _, _, _, _, _, by decide, by decide, (fun _ h => by cases h), ha158.only [2, 3, 4, 5, 6, 12, 14], m160.ren [(6, 20), (12, 21), (14, 22), (9, 23)] (by decide)⟩
     ·
      clear ha144
      try simp only [Q1x, Q2x, Q3x, Q4x, Q5x, Q6x, Q7x, Q8x, Q9x, Q0x, Qax, Qbx] at hb145
      refine wp_cond_false (ha145.ev (x := .tmp 55) rfl) ?_
      refine wp_seq_k (fun K16 hK16 => ?_)
      refine wp_region_lit ?_
      refine st_y ha145 rfl (y_eql ha145 rfl rfl) ?_
      clear ha145 a144; intro a161 ha161
      refine st_y ha161 rfl (y_assign ha161 rfl) ?_
      clear ha161 a161; intro a162 ha162
      refine wpList_nil ?_
      refine hK16 _ _ ?_; clear hK16; try clear K16
      refine bool_cases ha162 (t := 65) rfl (fun hb163 ha163 => ?_) (fun hb163 ha163 => ?_)
      ·
       clear ha162
       try simp only [Q1x, Q2x, Q3x, Q4x, Q5x, Q6x, Q7x, Q8x, Q9x, Q0x, Qax, Qbx] at hb163
       refine wp_cond_true (ha163.ev (x := .tmp 65) rfl) ?_
       have m164 : MemOk _ _ [(20, _), (21, _), (22, _)] _ := m12.only [20, 21, 22]; clear m12
       refine region_m 10 (B := [(20, _)]) (m164.to ⟨il, trivial⟩) m164 (by kernel_rfl) (fun w165 mB165 m165 => ?_); clear m164 mB165
       refine dyn 0 ha163 rfl rfl (m165.to ⟨il, trivial⟩) (fun W => y_move ha163 rfl) ?_
       clear ha163 a162; intro a166 ha166
       refine dyn 1 ha166 rfl rfl (m165.to ⟨il, trivial⟩) (fun W => y_conv ha166 rfl Try.underlying5 Try.underlying2 (r := xa) (IntWalk.i64_in _ (by omega))) ?_
       clear ha166 a166; intro a167 ha167
       refine dh 2 ha167 rfl rfl (m165.to ⟨il, trivial⟩) (fun W hW => y_loadBR ha167 hW (i := 20) rfl rfl Try.underlying34 rfl sz34cm (by simp) (by dsimp only [List.drop, List.take] <;> rfl)) ?_
       clear ha167 a167; intro a168 ha168
       refine dyn 6 ha168 rfl rfl (m165.to ⟨il, trivial⟩) (fun W => y_fieldAddr ha168 (off := 0) rfl Try.underlying25 rfl (s := 0) (by kernel_rfl) rfl) ?_
       clear ha168 a168; intro a169 ha169
       refine stepE_only 3 rfl (by kernel_rfl) rfl (fun K hK => ?_)
       refine e_call ha169 Try.func21 rfl rfl rfl rfl (rlen_any _ _ _ _ _ _ _ _ _ _ _ _ _ _ _ _ _ _) ?_
       rintro e w170 ⟨rfl, hb170⟩
       have m171 := m165.later hb170
       clear m165
       clear hb170
       refine ⟨_, rfl, fun a172 ha172 => ?_⟩; clear ha169 a169
       refine hK _ _ (m171.to ⟨il, trivial⟩) ?_; clear hK K
       refine dyn 4 ha172 rfl rfl (m171.to ⟨il, trivial⟩) (fun W => y_add ha172 rfl rfl (r := (nw : Int) + 2) (IntWalk.i64_in _ (by omega))) ?_
       clear ha172 a172; intro a173 ha173
       refine dyn 5 ha173 rfl rfl (m171.to ⟨il, trivial⟩) (fun W => y_rem ha173 rfl rfl (by omega) rfl) ?_
       clear ha173 a173; intro a174 ha174
       refine stepE_only 7 rfl (by kernel_rfl) rfl (fun K hK => ?_)
       refine e_store1 ha174 m171 22 rfl rfl rfl rfl rfl sz3cm (by dsimp only [List.set] <;> rfl) ?_
       clear m171; intro w175 m175 hB175
       clear hB175
       refine hK _ _ (m175.to ⟨il, trivial⟩) ?_; clear hK K
       refine dyn 8 ha174 rfl rfl (m175.to ⟨il, trivial⟩) (fun W => y_fieldAddr ha174 (off := 7) rfl Try.underlying25 rfl (s := 0) (by kernel_rfl) rfl) ?_
       clear ha174 a174; intro a176 ha176
       refine stepE_only 9 rfl (by kernel_rfl) rfl (fun K hK => ?_)
       refine e_store1 ha176 m175 22 rfl rfl rfl rfl rfl sz2cm (by dsimp only [List.set] <;> rfl) ?_
       clear m175; intro w177 m177 hB177
       clear hB177
       refine hK _ _ (m177.to ⟨il, trivial⟩) ?_; clear hK K
       refine wpAnyE_done (by kernel_rfl) ?_ _
       have m178 := m177.dat 23 rfl (Rd.l0 none 0 2); clear m177
       show K4 _ _
       exact hC4 _ _ ⟨_, _, _, [], _, _, _, _, _, by decide, by decide, (fun _ h => by cases h), ha176.only [2, 3, 4, 5, 6, 12, 14], m178.ren [(6, 20), (12, 21), (14, 22), (9, 23)] (by decide)⟩
      ·
       clear ha162
       try simp only [Q1x, Q2x, Q3x, Q4x, Q5x, Q6x, Q7x, Q8x, Q9x, Q0x, Qax, Qbx] at hb163
       refine wp_cond_false (ha163.ev (x := .tmp 65) rfl) ?_
       refine wp_seq_k (fun K17 hK17 => ?_)
       refine wp_region_lit ?_
       refine st_y ha163 rfl (y_eql ha163 rfl rfl) ?_
       clear ha163 a162; intro a179 ha179
       refine st_y ha179 rfl (y_assign ha179 rfl) ?_
       clear ha179 a179; intro a180 ha180
       refine wpList_nil ?_
       refine hK17 _ _ ?_; clear hK17; try clear K17
       refine bool_cases ha180 (t := 75) rfl (fun hb181 ha181 => ?_) (fun hb181 ha181 => ?_)
       ·
        clear ha180
        try simp only [Q1x, Q2x, Q3x, Q4x, Q5x, Q6x, Q7x, Q8x, Q9x, Q0x, Qax, Qbx] at hb181
        refine wp_cond_true (ha181.ev (x := .tmp 75) rfl) ?_
        have ha182 : Has 131 [(2, _), (3, _), (4, _), (5, _), (6, _), (12, _), (14, _), (37, _)] a180 := ha181.only [2, 3, 4, 5, 6, 12, 14, 37]; clear ha181
        have m183 : MemOk _ _ [(20, _), (21, _), (22, _)] _ := m12.only [20, 21, 22]; clear m12
        refine region_m 10 (B := [(20, _)]) (m183.to ⟨il, trivial⟩) m183 (by kernel_rfl) (fun w184 mB184 m184 => ?_); clear m183 mB184
        refine dyn 0 ha182 rfl rfl (m184.to ⟨il, trivial⟩) (fun W => y_move ha182 rfl) ?_
        clear ha182 a180; intro a185 ha185
        refine dyn 1 ha185 rfl rfl (m184.to ⟨il, trivial⟩) (fun W => y_conv ha185 rfl Try.underlying5 Try.underlying2 (r := xa) (IntWalk.i64_in _ (by omega))) ?_
        clear ha185 a185; intro a186 ha186
        refine dh 2 ha186 rfl rfl (m184.to ⟨il, trivial⟩) (fun W hW => y_loadBR ha186 hW (i := 20) rfl rfl Try.underlying34 rfl sz34cm (by simp) (by dsimp only [List.drop, List.take] <;> rfl)) ?_
        clear ha186 a186; intro a187 ha187
        refine dyn 6 ha187 rfl rfl (m184.to ⟨il, trivial⟩) (fun W => y_fieldAddr ha187 (off := 0) rfl Try.underlying25 rfl (s := 0) (by kernel_rfl) rfl) ?_
        clear ha187 a187; intro a188 ha188
        refine stepE_only 3 rfl (by kernel_rfl) rfl (fun K hK => ?_)
        refine e_call ha188 Try.func21 rfl rfl rfl rfl (rlen_any _ _ _ _ _ _ _ _ _ _ _ _ _ _ _ _ _ _) ?_
        rintro e w189 ⟨rfl, hb189⟩
        have m190 := m184.later hb189
        clear m184
        clear hb189
        refine ⟨_, rfl, fun a191 ha191 => ?_⟩; clear ha188 a188
        refine hK _ _ (m190.to ⟨il, trivial⟩) ?_; clear hK K
        refine dyn 4 ha191 rfl rfl (m190.to ⟨il, trivial⟩) (fun W => y_add ha191 rfl rfl (r := (nw : Int) + 2) (IntWalk.i64_in _ (by omega))) ?_
        clear ha191 a191; intro a192 ha192
        refine dyn 5 ha192 rfl rfl (m190.to ⟨il, trivial⟩) (fun W => y_rem ha192 rfl rfl (by omega) rfl) ?_
        clear ha192 a192; intro a193 ha193
        refine stepE_only 7 rfl (by kernel_rfl) rfl (fun K hK => ?_)
        refine e_store1 ha193 m190 22 rfl rfl rfl rfl rfl sz3cm (by dsimp only [List.set] <;> rfl) ?_
        clear m190; intro w194 m194 hB194
        clear hB194
        refine hK _ _ (m194.to ⟨il, trivial⟩) ?_; clear hK K
        refine dyn 8 ha193 rfl rfl (m194.to ⟨il, trivial⟩) (fun W => y_fieldAddr ha193 (off := 7) rfl Try.underlying25 rfl (s := 0) (by kernel_rfl) rfl) ?_
        clear ha193 a193; intro a195 ha195
        refine stepE_only 9 rfl (by kernel_rfl) rfl (fun K hK => ?_)
        refine e_store1 ha195 m194 22 rfl rfl rfl rfl rfl sz2cm (by dsimp only [List.set] <;> rfl) ?_
        clear m194; intro w196 m196 hB196
        clear hB196
        refine hK _ _ (m196.to ⟨il, trivial⟩) ?_; clear hK K
        refine wpAnyE_done (by kernel_rfl) ?_ _
        have m197 := m196.dat 23 rfl (Rd.l0 none 0 2); clear m196
        show K4 _ _
        exact hC4 _ _ ⟨_, _, _, [], _, _, _, _, _, by decide, by decide, (fun _ h => by cases h), ha195.only [2, 3, 4, 5, 6, 12, 14], m197.ren [(6, 20), (12, 21), (14, 22), (9, 23)] (by decide)⟩
       ·
        clear ha180
        try simp only [Q1x, Q2x, Q3x, Q4x, Q5x, Q6x, Q7x, Q8x, Q9x, Q0x, Qax, Qbx] at hb181
        refine wp_cond_false (ha181.ev (x := .tmp 75) rfl) ?_
        refine wp_seq_k (fun K18 hK18 => ?_)
        have ha198 : Has 131 [(2, _), (3, _), (4, _), (5, _), (6, _), (12, _), (14, _), (37, _)] a180 := ha181.only [2, 3, 4, 5, 6, 12, 14, 37]; clear ha181
        refine wp_region_lit ?_
        refine st_y ha198 rfl (y_eql ha198 rfl rfl) ?_
        clear ha198 a180; intro a199 ha199
        refine st_y ha199 rfl (y_assign ha199 rfl) ?_
        clear ha199 a199; intro a200 ha200
        refine wpList_nil ?_
        refine hK18 _ _ ?_; clear hK18; try clear K18
        refine bool_cases ha200 (t := 85) rfl (fun hb201 ha201 => ?_) (fun hb201 ha201 => ?_)
        ·
         clear ha200
         try simp only [Q1x, Q2x, Q3x, Q4x, Q5x, Q6x, Q7x, Q8x, Q9x, Q0x, Qax, Qbx] at hb201
         refine wp_cond_true (ha201.ev (x := .tmp 85) rfl) ?_
         refine wp_region_lit ?_
         refine st_y ha201 rfl (y_fieldAddr ha201 (off := 0) rfl Try.underlying25 rfl (s := 0) (by kernel_rfl) rfl) ?_
         clear ha201 a200; intro a202 ha202
         refine wpList_plain rfl (fun K hK => ?_)
         refine e_store1 ha202 m12 22 rfl rfl rfl rfl rfl sz3cm (by dsimp only [List.set] <;> rfl) ?_
         clear m12; intro w203 m203 hB203
         clear hB203
         refine hK _ _ ?_; clear hK K
         refine wpList_nil ?_
         have m204 := m203.dat 23 rfl (Rd.l0 none 0 2); clear m203
         show K4 _ _
         exact hC4 _ _ ⟨_, _, _, [], _, _, _, _, _, by decide, by decide, (fun _ h => by cases h), ha202.only [2, 3, 4, 5, 6, 12, 14], m204.ren [(6, 20), (12, 21), (14, 22), (9, 23)] (by decide)⟩
        ·
         clear ha200
         try simp only [Q1x, Q2x, Q3x, Q4x, Q5x, Q6x, Q7x, Q8x, Q9x, Q0x, Qax, Qbx] at hb201
         refine wp_cond_false (ha201.ev (x := .tmp 85) rfl) ?_
         refine wp_seq_k (fun K19 hK19 => ?_)
         refine wp_region_lit ?_
         refine st_y ha201 rfl (y_eql ha201 rfl rfl) ?_
         clear ha201 a200; intro a205 ha205
         refine st_y ha205 rfl (y_assign ha205 rfl) ?_
         clear ha205 a205; intro a206 ha206
         refine wpList_nil ?_
         refine hK19 _ _ ?_; clear hK19; try clear K19
         refine bool_cases ha206 (t := 88) rfl (fun hb207 ha207 => ?_) (fun hb207 ha207 => ?_)
         ·
          clear ha206
          try simp only [Q1x, Q2x, Q3x, Q4x, Q5x, Q6x, Q7x, Q8x, Q9x, Q0x, Qax, Qbx] at hb207
          refine wp_cond_true (ha207.ev (x := .tmp 88) rfl) ?_
          have m208 : MemOk _ _ [(20, _), (21, _), (22, _)] _ := m12.only [20, 21, 22]; clear m12
          refine region_m 22 (B := [(20, _)]) (m208.to ⟨il, trivial⟩) m208 (by kernel_rfl) (fun w209 mB209 m209 => ?_); clear m208 mB209
          refine dyn 0 ha207 rfl rfl (m209.to ⟨il, trivial⟩) (fun W => y_fieldAddr ha207 (off := 6) rfl Try.underlying34 rfl (s := 0) (by kernel_rfl) rfl) ?_
          clear ha207 a206; intro a210 ha210
          refine dh 1 ha210 rfl rfl (m209.to ⟨il, trivial⟩) (fun W hW => y_loadB1 ha210 hW (i := 20) rfl rfl rfl Try.underlying3 rfl) ?_
          clear ha210 a210; intro a211 ha211
          refine dyn 2 ha211 rfl rfl (m209.to ⟨il, trivial⟩) (fun W => y_move ha211 rfl) ?_
          clear ha211 a211; intro a212 ha212
          refine dyn 3 ha212 rfl rfl (m209.to ⟨il, trivial⟩) (fun W => y_rem ha212 rfl rfl (by decide) (Int.tmod_eq_emod_of_nonneg (by omega))) ?_
          clear ha212 a212; intro a213 ha213
          refine dyn 4 ha213 rfl rfl (m209.to ⟨il, trivial⟩) (fun W => y_conv ha213 rfl Try.underlying5 Try.underlying3 (r := xc % 5) (IntWalk.i64_in _ (by omega))) ?_
          clear ha213 a213; intro a214 ha214
          refine dyn 5 ha214 rfl rfl (m209.to ⟨il, trivial⟩) (fun W => y_quo ha214 rfl rfl (by decide) (r := xc % 5 / 4) (by rw [Int.tdiv_eq_ediv_of_nonneg (by omega)]; exact IntWalk.i64_in _ (by omega))) ?_
          clear ha214 a214; intro a215 ha215
          refine dyn 6 ha215 rfl rfl (m209.to ⟨il, trivial⟩) (fun W => y_sub ha215 rfl rfl (r := ne - xc % 5 / 4) (IntWalk.i64_in _ (by omega))) ?_
          clear ha215 a215; intro a216 ha216
          refine dyn 7 ha216 rfl rfl (m209.to ⟨il, trivial⟩) (fun W => y_max ha216 rfl rfl rfl) ?_
          clear ha216 a216; intro a217 ha217
          refine dyn 8 ha217 rfl rfl (m209.to ⟨il, trivial⟩) (fun W => y_fieldAddr ha217 (off := 1) rfl Try.underlying34 rfl (s := 0) (by kernel_rfl) rfl) ?_
          clear ha217 a217; intro a218 ha218
          refine dh 9 ha218 rfl rfl (m209.to ⟨il, trivial⟩) (fun W hW => y_loadB1 ha218 hW (i := 20) rfl rfl rfl Try.underlying3 rfl) ?_
          clear ha218 a218; intro a219 ha219
          refine dyn 10 ha219 rfl rfl (m209.to ⟨il, trivial⟩) (fun W => y_fieldAddr ha219 (off := 2) rfl Try.underlying34 rfl (s := 0) (by kernel_rfl) rfl) ?_
          clear ha219 a219; intro a220 ha220
          refine dh 11 ha220 rfl rfl (m209.to ⟨il, trivial⟩) (fun W hW => y_loadB1 ha220 hW (i := 20) rfl rfl rfl Try.underlying3 rfl) ?_
          clear ha220 a220; intro a221 ha221
          refine dyn 12 ha221 rfl rfl (m209.to ⟨il, trivial⟩) (fun W => y_move ha221 rfl) ?_
          clear ha221 a221; intro a222 ha222
          refine dyn 13 ha222 rfl rfl (m209.to ⟨il, trivial⟩) (fun W => y_move ha222 rfl) ?_
          clear ha222 a222; intro a223 ha223
          refine dyn 16 ha223 rfl rfl (m209.to ⟨il, trivial⟩) (fun W => y_fieldAddr ha223 (off := 0) rfl Try.underlying25 rfl (s := 0) (by kernel_rfl) rfl) ?_
          clear ha223 a223; intro a224 ha224
          refine stepE_only 14 rfl (by kernel_rfl) rfl (fun K hK => ?_)
          refine e_litN ha224 m209 23 (k := .u8) rfl rfl Try.underlying43 inf5cm rfl rfl rfl rfl ?_
          clear ha224 a224 m209; intro g225 a226 w226 ha226 m226
          refine hK _ _ (m226.to ⟨il, trivial⟩) ?_; clear hK K
          have m227 := m226.freezeN 23 rfl; clear m226
          refine stepE_only 15 rfl (by kernel_rfl) rfl (fun K hK => ?_)
          refine e_call ha226 Try.func30 rfl rfl rfl rfl (sitem_any bl z [xa, xb] _ _ _ ((m227.rd (i := 23) rfl).any) (by simp) (b2 ha9 hb9) (by omega)) ?_
          rintro e w228 ⟨it, p228, c228, rfl, hit8, hpre9, hitb, hit1, hd228, hb228⟩
          have m229 := m227.callF 24 rfl hb228 hd228
          clear m227
          clear hb228 hd228
          refine ⟨_, rfl, fun a230 ha230 => ?_⟩; clear ha226 a226
          refine hK _ _ (m229.to ⟨il, trivial⟩) ?_; clear hK K
          refine stepE_only 17 rfl (by kernel_rfl) rfl (fun K hK => ?_)
          refine e_store1 ha230 m229 22 rfl rfl rfl rfl rfl sz3cm (by dsimp only [List.set] <;> rfl) ?_
          clear m229; intro w231 m231 hB231
          clear hB231
          refine hK _ _ (m231.to ⟨il, trivial⟩) ?_; clear hK K
          refine dyn 18 ha230 rfl rfl (m231.to ⟨il, trivial⟩) (fun W => y_fieldAddr ha230 (off := 8) rfl Try.underlying25 rfl (s := 0) (by kernel_rfl) rfl) ?_
          clear ha230 a230; intro a232 ha232
          refine stepE_only 19 rfl (by kernel_rfl) rfl (fun K hK => ?_)
          refine e_store1 ha232 m231 22 rfl rfl rfl rfl rfl sz3cm (by dsimp only [List.set] <;> rfl) ?_
          clear m231; intro w233 m233 hB233
          clear hB233
          refine hK _ _ (m233.to ⟨il, trivial⟩) ?_; clear hK K
          refine dyn 20 ha232 rfl rfl (m233.to ⟨il, trivial⟩) (fun W => y_fieldAddr ha232 (off := 9) rfl Try.underlying25 rfl (s := 0) (by kernel_rfl) rfl) ?_
          clear ha232 a232; intro a234 ha234
          refine stepE_only 21 rfl (by kernel_rfl) rfl (fun K hK => ?_)
          refine e_store1 ha234 m233 22 rfl rfl rfl rfl rfl sz23cm (by dsimp only [List.set] <;> rfl) ?_
          clear m233; intro w235 m235 hB235
          clear hB235
          refine hK _ _ (m235.to ⟨il, trivial⟩) ?_; clear hK K
          refine wpAnyE_done (by kernel_rfl) ?_ _
          show K4 _ _
          exact hC4 _ _ ⟨_, _, _, it, _, _, _, _, _, by decide, hit8, hitb, ha234.only [2, 3, 4, 5, 6, 12, 14], m235.ren [(6, 20), (12, 21), (14, 22), (9, 24)] (by decide)⟩
         ·
          clear ha206
          try simp only [Q1x, Q2x, Q3x, Q4x, Q5x, Q6x, Q7x, Q8x, Q9x, Q0x, Qax, Qbx] at hb207
          refine wp_cond_false (ha207.ev (x := .tmp 88) rfl) ?_
          refine wp_region_lit ?_
          refine st_y ha207 rfl (y_fieldAddr ha207 (off := 0) rfl Try.underlying25 rfl (s := 0) (by kernel_rfl) rfl) ?_
          clear ha207 a206; intro a236 ha236
          refine wpList_plain rfl (fun K hK => ?_)
          refine e_store1 ha236 m12 22 rfl rfl rfl rfl rfl sz3cm (by dsimp only [List.set] <;> rfl) ?_
          clear m12; intro w237 m237 hB237
          clear hB237
          refine hK _ _ ?_; clear hK K
          refine wpList_nil ?_
          have m238 := m237.dat 23 rfl (Rd.l0 none 0 2); clear m237
          show K4 _ _
          exact hC4 _ _ ⟨_, _, _, [], _, _, _, _, _, by decide, by decide, (fun _ h => by cases h), ha236.only [2, 3, 4, 5, 6, 12, 14], m238.ren [(6, 20), (12, 21), (14, 22), (9, 23)] (by decide)⟩
end Go.Proofs.Ytocfbocdnklllaa.K
