/- LogAgain's walk. -/
import Derived.Test.YtmdckdhogbbhlaaLog7
namespace Go.Proofs.Ytmdckdhogbbhlaa.K
open Go.ChangeShapes Go.WideShapes Go.ChangeAt Go.RowKit
set_option linter.unusedVariables false
set_option linter.unusedSimpArgs false

theorem fl28lg : flatS Try.prog 28 [.int .i64 0, .int .i64 0, .slice none 0 0, .slice none 0 0] = true := by kernel_rfl
theorem inf3lg : (Try.prog.info? 3).map (fun i => (i.zero, i.size, i.bytes)) = some (some (.int .i64 0), 1, 8) := by kernel_rfl
theorem sz28lg : (Try.prog.info? 28).map (·.size) = some 4 := by kernel_rfl
theorem zc28lg : ((Try.prog.info? 28).bind (·.zero)).map (·.cells.toList) = some [.int .i64 0, .int .i64 0, .slice none 0 0, .slice none 0 0] := by kernel_rfl

/-- The Indexes rise by one each from behind pv on. -/
def Seq (pv : Int) (es : List (Int × Int × Int × List Int)) : Prop := ∀ j, j < es.length → (es.getD j e0).1 = pv + 1 + j
theorem Seq.runN {pv : Int} {es : List (Int × Int × Int × List Int)} (h : Seq pv es) : K.runN pv es = es.length := (Run.eq (k := es.length) ⟨Nat.le_refl _, h, .inl rfl⟩).symm
theorem Seq.run {pv : Int} {es : List (Int × Int × Int × List Int)} (h : Seq pv es) : es.take (K.runN pv es) = es := by rw [h.runN]; exact List.take_length
theorem Seq.drop {pv : Int} {es : List (Int × Int × Int × List Int)} (h : Seq pv es) (n : Nat) : Seq (pv + n) (es.drop n) := fun j hj => by
  rw [List.length_drop] at hj
  have := h (n + j) (by omega)
  rw [List.getD, List.getElem?_drop]
  rw [List.getD] at this
  rw [this]; push_cast; omega
theorem Seq.take {pv : Int} {es : List (Int × Int × Int × List Int)} (h : Seq pv es) (n : Nat) : Seq pv (es.take n) := fun j hj => by
  rw [List.length_take] at hj
  have := h j (by omega)
  rw [List.getD, List.getElem?_take_of_lt (by omega)]
  rw [List.getD] at this
  exact this
theorem ents_getD (F : Int) (l : List Int) : ∀ n k, k < n → (entsN F l n).getD k e0 = entOf F (termN l (k + 1)) (l.getD k 0) k
  | 0, k, h => by omega
  | n + 1, k, h => by
    rw [entsN, List.getD]
    by_cases e : k < n
    · rw [List.getElem?_append_left (by rw [entsN_len]; exact e)]; exact ents_getD F l n k e
    · obtain rfl : k = n := by omega
      rw [List.getElem?_append_right (by rw [entsN_len]; omega), entsN_len]; simp
theorem seq_ents (F : Int) (l : List Int) : Seq (F - 1) (entsN F l l.length) := fun j hj => by
  rw [entsN_len] at hj
  rw [ents_getD F l _ j hj]
  show F + (j : Int) = F - 1 + 1 + j
  omega
theorem entOf_data {F tm x i : Int} (hx : 0 ≤ x ∧ x ≤ 255) (hi : 0 ≤ i ∧ i ≤ 255) : (entOf F tm x i).2.2.2.length ≤ 2 ∧ ByteL (entOf F tm x i).2.2.2 := by
  unfold entOf ByteL
  dsimp only
  split
  · exact ⟨by simp, fun z hz => by simp at hz; omega⟩
  · split
    · exact ⟨by simp, fun z hz => by simp at hz; omega⟩
    · exact ⟨by simp, fun z hz => by cases hz⟩
theorem ents_mem {F : Int} {l : List Int} {e : Int × Int × Int × List Int} (h : e ∈ entsN F l l.length) : ∃ k, k < l.length ∧ e = entOf F (termN l (k + 1)) (l.getD k 0) k := by
  obtain ⟨k, hk, rfl⟩ := List.getElem_of_mem h
  rw [entsN_len] at hk
  refine ⟨k, hk, ?_⟩
  have := ents_getD F l l.length k hk
  rw [List.getD, List.getElem?_eq_getElem (by rw [entsN_len]; exact hk)] at this
  exact this
theorem ents_ok {F : Int} {l : List Int} (hb : ∀ j, j < l.length → 0 ≤ l.getD j 0 ∧ l.getD j 0 ≤ 255) (hl : l.length ≤ 256 := by omega) : EntsOk (entsN F l l.length) := fun e he => by
  obtain ⟨k, hk, rfl⟩ := ents_mem he
  have := (entOf_data (F := F) (tm := termN l (k + 1)) (hb k hk) (i := k) (by omega)).1
  omega
theorem ents_b {F : Int} {l : List Int} (hb : ∀ j, j < l.length → 0 ≤ l.getD j 0 ∧ l.getD j 0 ≤ 255) (hl : l.length ≤ 256 := by omega) : EntsB (entsN F l l.length) := fun e he => by
  obtain ⟨k, hk, rfl⟩ := ents_mem he
  exact (entOf_data (F := F) (tm := termN l (k + 1)) (hb k hk) (i := k) (by omega)).2
theorem skip_all {bi : Int} {es : List (Int × Int × Int × List Int)} (h : Seq bi es) {part : List (Int × Int × Int × List Int)} {p q : Nat} (hp : part = (es.drop p).take q) : part.drop (skipN bi es part) = [] := by
  have : ∀ e ∈ part, skipB bi es e = true := by
    intro e he
    subst hp
    obtain ⟨j, hj, rfl⟩ := List.getElem_of_mem he
    rw [List.length_take, List.length_drop] at hj
    have e1 : ((es.drop p).take q)[j] = es.getD (p + j) e0 := by
      rw [List.getElem_take, List.getElem_drop, List.getD, List.getElem?_eq_getElem (by omega)]; rfl
    rw [e1]
    have hi := h (p + j) (by omega)
    unfold skipB hasB
    have hin : inB bi es (es.getD (p + j) e0).1 := by unfold inB; rw [hi]; push_cast; omega
    have hix : ((es.getD (p + j) e0).1 - bi - 1).toNat = p + j := by rw [hi]; omega
    rw [hix, decide_eq_true (p := inB bi es (es.getD (p + j) e0).1 ∧ _) ⟨hin, rfl⟩, Bool.or_true]
  unfold skipN
  have ht : ∀ l : List (Int × Int × Int × List Int), (∀ e ∈ l, skipB bi es e = true) → l.takeWhile (skipB bi es) = l := by
    intro l
    induction l with
    | nil => intro _; rfl
    | cons a l ih => intro h; rw [List.takeWhile_cons, h a (by simp), ih (fun e he => h e (by simp [he]))]; rfl
  rw [ht part this, List.drop_length]
theorem fol_again {es : List (Int × Int × Int × List Int)} (h : Seq 0 es) (p q : Nat) {part : List (Int × Int × Int × List Int)} (hp : part = (es.drop p).take q) : folR (p : Int) 0 es part = ([], es, (p : Int) + part.length) := by
  have hs : Seq (p : Int) part := by have := (h.drop p).take q; rw [hp]; simpa using this
  unfold folR
  simp only [hs.run]
  rw [skip_all h hp]
  refine Prod.ext rfl (Prod.ext rfl ?_)
  show max ((p : Int) + part.length) 0 = (p : Int) + part.length
  omega
set_option maxRecDepth 100000
set_option maxHeartbeats 4000000
theorem logagain_walk (l : List Int) (prv nn : Nat) (p0 : Option Addr) (c0 : Nat) (w0 : World) (hprv : prv ≤ 255) (hnn : nn ≤ 255) (hl0 : Rd (fun _ => True) w0 (.slice p0 l.length c0) (.ns .u8 l)) (hlb : ∀ j, j < l.length → 0 ≤ l.getD j 0 ∧ l.getD j 0 ≤ 255) :
    Calls Try.prog 6 #[.slice p0 l.length c0, .int .u8 (prv : Int), .int .u8 (nn : Int)] w0 fun e w' => e = .returned (.bool true) ∧ Below w0.heap.size w0 w' := by
  refine enter (fn := Try.f6) Try.func6 rfl Try.ntmps6 rfl (fun a0 ha0 => ?_)
  simp only [List.zipIdx_cons, List.zipIdx_nil, List.map_cons, List.map_nil, Nat.reduceAdd, Nat.zero_add] at ha0
  have m0 := MemOk.start (fun _ => False) w0
  refine wp_seq_k (fun K0 hK0 => ?_)
  refine wp_region_lit ?_
  refine st_y ha0 rfl (y_assign ha0 rfl) ?_
  clear ha0 a0; intro a1 ha1
  refine wpList_nil ?_
  refine hK0 _ _ ?_; clear hK0; try clear K0
  refine wp_seq_k (fun K1 hK1 => ?_)
  refine wp_seq_k (fun K2 hK2 => ?_)
  refine wp_region_lit ?_
  refine wpList_plain rfl (fun K hK => ?_)
  refine e_call ha1 Try.func7 rfl rfl rfl rfl (lknown_any _) ?_
  rintro e w2 ⟨rfl, hb2⟩
  have m3 := m0.later hb2
  clear m0
  clear hb2
  refine ⟨_, rfl, fun a4 ha4 => ?_⟩; clear ha1 a1
  refine hK _ _ ?_; clear hK K
  refine st_y ha4 rfl (y_not ha4 rfl) ?_
  clear ha4 a4; intro a5 ha5
  refine wpList_nil ?_
  refine hK2 _ _ ?_; clear hK2; try clear K2
  refine wp_cond_false (ha5.ev (x := .tmp 16) rfl) ?_
  refine wp_skip ?_
  refine hK1 _ _ ?_; clear hK1; try clear K1
  refine wp_seq_k (fun K3 hK3 => ?_)
  refine wp_seq_k (fun K4 hK4 => ?_)
  refine wp_region_lit ?_
  refine st_y ha5 rfl (y_move ha5 rfl) ?_
  clear ha5 a5; intro a6 ha6
  refine st_y ha6 rfl (y_len ha6 rfl Try.underlying23) ?_
  clear ha6 a6; intro a7 ha7
  refine st_y ha7 rfl (y_gtr ha7 rfl rfl) ?_
  clear ha7 a7; intro a8 ha8
  refine wpList_nil ?_
  refine hK4 _ _ ?_; clear hK4; try clear K4
  refine bool_cases ha8 (t := 19) rfl (fun hb9 ha9 => ?_) (fun hb9 ha9 => ?_)
  · skip
    clear ha8
    try simp only [decide_eq_true_eq, decide_eq_false_iff_not, Bool.not_eq_true, Bool.not_eq_false, Bool.not_eq_eq_eq_not, Bool.not_true, Bool.not_false, Bool.not_not, Int.not_lt, Int.not_le, ne_eq, Decidable.not_not] at hb9
    refine wp_cond_true (ha9.ev (x := .tmp 19) rfl) ?_
    refine wp_seq_k (fun K5 hK5 => ?_)
    refine wp_region_lit ?_
    refine st_y ha9 rfl (y_assign ha9 rfl) ?_
    clear ha9 a8; intro a10 ha10
    refine wpList_nil ?_
    refine hK5 _ _ ?_; clear hK5; try clear K5
    refine wp_ret ?_
    try dsimp only [Exit.then, Exit.inBlock]
    refine (ret1 (fn := Try.f6) ha10 rfl rfl ?_)
    exact ⟨by first | rfl | simp, m3.below⟩
  · skip
    clear ha8
    try simp only [decide_eq_true_eq, decide_eq_false_iff_not, Bool.not_eq_true, Bool.not_eq_false, Bool.not_eq_eq_eq_not, Bool.not_true, Bool.not_false, Bool.not_not, Int.not_lt, Int.not_le, ne_eq, Decidable.not_not] at hb9
    obtain ⟨es, hes⟩ : ∃ x, entsN 1 l l.length = x := ⟨_, rfl⟩
    have hesl : es.length = l.length := by rw [← hes, entsN_len]
    have hseq : Seq 0 es := by rw [← hes]; exact seq_ents 1 l
    have heok : EntsOk es := by rw [← hes]; exact ents_ok hlb
    have hrun : es.take (runN 0 es) = es := hseq.run
    have hall : fromL 0 es 0 99 = es := by unfold fromL; rw [show ((0 : Int) - 0 - 1).toNat = 0 from rfl, List.drop_zero]; exact List.take_of_length_le (by show es.length ≤ 99; omega)
    obtain ⟨pp, hpp⟩ : ∃ x, prv % (l.length + 1) = x := ⟨_, rfl⟩
    have hppl : pp ≤ l.length := by rw [← hpp]; have := Nat.mod_lt prv (show 0 < l.length + 1 by omega); omega
    obtain ⟨qq, hqq⟩ : ∃ x, nn % 5 = x := ⟨_, rfl⟩
    have hqql : qq ≤ 4 := by omega
    obtain ⟨part, hpart⟩ : ∃ x, fromL 0 es ((pp : Int) + 1) (qq : Int) = x := ⟨_, rfl⟩
    have hpt : part = (es.drop pp).take qq := by rw [← hpart]; unfold fromL; congr 1; congr 1; omega
    have hpl : part.length ≤ es.length := by rw [hpt, List.length_take, List.length_drop]; omega
    have hpok : EntsOk part := fun e he => heok e (by rw [hpt] at he; exact List.mem_of_mem_drop (List.mem_of_mem_take he))
    have hfol := fol_again hseq pp qq hpt
    refine wp_cond_false (ha9.ev (x := .tmp 19) rfl) ?_
    refine wp_skip ?_
    refine hK3 _ _ ?_; clear hK3; try clear K3
    refine wp_seq_k (fun K6 hK6 => ?_)
    refine wp_region_lit ?_
    refine wpList_plain rfl (fun K hK => ?_)
    refine e_litN ha9 m3 20 (k := .i64) rfl rfl Try.underlying26 inf3lg rfl rfl rfl rfl ?_
    clear ha9 a8 m3; intro g11 a12 w12 ha12 m12 
    refine hK _ _ ?_; clear hK K
    refine st_y ha12 rfl (y_build ha12 rfl zc28lg fl28lg rfl (by dsimp only [setL, List.set] <;> rfl)) ?_
    clear ha12 a12; intro a13 ha13
    refine wpList_plain rfl (fun K hK => ?_)
    refine e_alloc ha13 m12 21 zc28lg rfl ?_
    clear ha13 a13 m12; intro g14 a15 w15 ha15 m15 hB15 hg15
    clear hB15 hg15
    refine hK _ _ ?_; clear hK K
    refine wpList_plain rfl (fun K hK => ?_)
    refine e_storeW ha15 m15 21 rfl rfl rfl rfl rfl sz28lg ?_
    clear m15; intro w16 m16 hB16
    clear hB16
    refine hK _ _ ?_; clear hK K
    refine wpList_nil ?_
    refine hK6 _ _ ?_; clear hK6; try clear K6
    refine wp_seq_k (fun K7 hK7 => ?_)
    have ha17 : Has 71 [(0, _), (1, _), (2, _), (6, _), (7, _)] a15 := ha15.only [0, 1, 2, 6, 7]; clear ha15
    refine wp_region_lit ?_
    refine st_y ha17 rfl (y_move ha17 rfl) ?_
    clear ha17 a15; intro a18 ha18
    refine wpList_plain rfl (fun K hK => ?_)
    refine e_call ha18 Try.func8 rfl rfl rfl rfl (ents_any 1 l _ _ _ ((hl0.now' m16 rfl).any) (by decide) (by omega) hlb) ?_
    rintro e w19 ⟨p19, c19, rfl, hd19, hb19⟩
    have m20 := m16.callF 22 rfl hb19 hd19
    clear m16
    clear hb19 hd19
    refine ⟨_, rfl, fun a21 ha21 => ?_⟩; clear ha18 a18
    refine hK _ _ ?_; clear hK K
    rw [hes] at m20 ha21
    refine st_y ha21 rfl (y_assign ha21 rfl) ?_
    clear ha21 a21; intro a22 ha22
    refine wpList_nil ?_
    refine hK7 _ _ ?_; clear hK7; try clear K7
    refine wp_seq_k (fun K8 hK8 => ?_)
    refine wp_region_lit ?_
    refine st_y ha22 rfl (y_loadBR ha22 m20 (i := 21) rfl rfl Try.underlying28 rfl sz28lg (by simp) (by dsimp only [List.drop, List.take] <;> rfl)) ?_
    clear ha22 a22; intro a23 ha23
    refine st_y ha23 rfl (y_move ha23 rfl) ?_
    clear ha23 a23; intro a24 ha24
    have m25 := m20.freezeN 20 rfl; clear m20
    have m26 := m25.dat 23 rfl (m25.rd (i := 20) rfl); clear m25
    have m27 := m26.dat 24 rfl (Rd.nilN _ _ .u8 none); clear m26
    have m28 := m27.dat 25 rfl (m27.rd (i := 22) rfl); clear m27
    refine wpList_plain rfl (fun K hK => ?_)
    refine e_call ha24 Try.func9 rfl rfl rfl rfl (new_is _ 0 0 [0] [] es _ _ _ _ _ _ _ _ (by decide) (by decide) (by decide) (by omega) heok hrun (m28.into [(5, 23), (6, 24), (7, 25)] (by decide) rfl)) ?_
    rintro e w29 ⟨B29, pc29, cc29, pd29, cd29, pl29, cl29, rfl, hm29⟩
    have mx29 := m28.back hm29 [(11, 1), (12, 2), (13, 3), (14, 4)] (by decide); clear hm29 m28
    have m29 : MemOk _ _ [(11, _), (12, _), (13, _), (14, _), (20, _), (21, _), (22, _)] _ := mx29.only [11, 12, 13, 14, 20, 21, 22]; clear mx29
    refine ⟨_, rfl, fun a30 ha30 => ?_⟩; clear ha24 a24
    refine hK _ _ ?_; clear hK K
    refine st_y ha30 rfl (y_assign ha30 rfl) ?_
    clear ha30 a30; intro a31 ha31
    refine wpList_nil ?_
    refine hK8 _ _ ?_; clear hK8; try clear K8
    refine wp_seq_k (fun K9 hK9 => ?_)
    have ha32 : Has 71 [(0, _), (1, _), (2, _), (6, _), (8, _), (9, _)] a31 := ha31.only [0, 1, 2, 6, 8, 9]; clear ha31
    refine wp_region_lit ?_
    refine st_y ha32 rfl (y_move ha32 rfl) ?_
    clear ha32 a31; intro a33 ha33
    refine st_y ha33 rfl (y_conv ha33 rfl Try.underlying5 Try.underlying3 (r := (prv : Int)) (IntWalk.i64_in _ (by omega))) ?_
    clear ha33 a33; intro a34 ha34
    refine st_y ha34 rfl (y_move ha34 rfl) ?_
    clear ha34 a34; intro a35 ha35
    refine st_y ha35 rfl (y_len ha35 rfl Try.underlying23) ?_
    clear ha35 a35; intro a36 ha36
    refine st_y ha36 rfl (y_add ha36 rfl rfl (r := ((l.length + 1 : Nat) : Int)) (by rw [IntWalk.i64_in _ (by omega)]; omega)) ?_
    clear ha36 a36; intro a37 ha37
    refine st_y ha37 rfl (y_rem ha37 rfl rfl (by omega) (r := (pp : Int)) (by rw [tmod_nat, hpp])) ?_
    clear ha37 a37; intro a38 ha38
    refine st_y ha38 rfl (y_assign ha38 rfl) ?_
    clear ha38 a38; intro a39 ha39
    refine wpList_nil ?_
    refine hK9 _ _ ?_; clear hK9; try clear K9
    refine wp_seq_k (fun K10 hK10 => ?_)
    have ha40 : Has 71 [(2, _), (6, _), (8, _), (9, _), (10, _)] a39 := ha39.only [2, 6, 8, 9, 10]; clear ha39
    refine wp_region_lit ?_
    refine st_y ha40 rfl (y_move ha40 rfl) ?_
    clear ha40 a39; intro a41 ha41
    refine st_y ha41 rfl (y_move ha41 rfl) ?_
    clear ha41 a41; intro a42 ha42
    refine st_y ha42 rfl (y_add ha42 rfl rfl (r := (pp : Int) + 1) (IntWalk.i64_in _ (by omega))) ?_
    clear ha42 a42; intro a43 ha43
    refine st_y ha43 rfl (y_move ha43 rfl) ?_
    clear ha43 a43; intro a44 ha44
    refine st_y ha44 rfl (y_rem ha44 rfl rfl (by decide) (r := (qq : Int)) (by rw [show (5 : Int) = ((5 : Nat) : Int) from rfl, tmod_nat, hqq])) ?_
    clear ha44 a44; intro a45 ha45
    refine st_y ha45 rfl (y_conv ha45 rfl Try.underlying5 Try.underlying3 (r := (qq : Int)) (IntWalk.i64_in _ (by omega))) ?_
    clear ha45 a45; intro a46 ha46
    refine wpList_plain rfl (fun K hK => ?_)
    refine e_call ha46 Try.func30 rfl rfl rfl rfl (from_is _ 0 0 [0] [] es _ _ _ _ _ _ _ ((pp : Int) + 1) (qq : Int) (m29.ok 11 _ rfl : Res.ok _ _ _ _ (.box _ _ _)).1 ((m29.ok 12 _ rfl : Res.ok _ _ _ _ (.seg _ _ _ _)).1.rd (S' := fun _ => True) (fun _ _ _ => trivial) (fun _ _ => trivial)) (by decide) (by omega) heok (part := part) hpart) ?_
    rintro e w47 ⟨p47, c47, rfl, hd47, hb47⟩
    have m48 := m29.callF 26 rfl hb47 hd47
    clear m29
    clear hb47 hd47
    refine ⟨_, rfl, fun a49 ha49 => ?_⟩; clear ha46 a46
    refine hK _ _ ?_; clear hK K
    refine st_y ha49 rfl (y_assign ha49 rfl) ?_
    clear ha49 a49; intro a50 ha50
    refine wpList_nil ?_
    refine hK10 _ _ ?_; clear hK10; try clear K10
    refine wp_seq_k (fun K11 hK11 => ?_)
    have ha51 : Has 71 [(6, _), (8, _), (9, _), (10, _), (11, _)] a50 := ha50.only [6, 8, 9, 10, 11]; clear ha50
    refine wp_region_lit ?_
    refine st_y ha51 rfl (y_move ha51 rfl) ?_
    clear ha51 a50; intro a52 ha52
    refine st_y ha52 rfl (y_move ha52 rfl) ?_
    clear ha52 a52; intro a53 ha53
    refine st_y ha53 rfl (y_move ha53 rfl) ?_
    clear ha53 a53; intro a54 ha54
    refine st_y ha54 rfl (y_move ha54 rfl) ?_
    clear ha54 a54; intro a55 ha55
    refine wpList_plain rfl (fun K hK => ?_)
    refine e_call ha55 Try.func26 rfl rfl rfl rfl (term_any _ 0 0 [0] [] es _ _ _ _ _ _ _ _ (m48.ok 11 _ rfl : Res.ok _ _ _ _ (.box _ _ _)).1 ((m48.ok 12 _ rfl : Res.ok _ _ _ _ (.seg _ _ _ _)).1.rd (S' := fun _ => True) (fun _ _ _ => trivial) (fun _ _ => trivial)) (by decide) (by omega)) ?_
    rintro e w56 ⟨rfl, hb56⟩
    have m57 := m48.later hb56
    clear m48
    clear hb56
    refine ⟨_, rfl, fun a58 ha58 => ?_⟩; clear ha55 a55
    refine hK _ _ ?_; clear hK K
    refine st_y ha58 rfl (y_move ha58 rfl) ?_
    clear ha58 a58; intro a59 ha59
    have m60 := m57.dat 27 rfl (m57.rd (i := 26) rfl); clear m57
    refine wpList_plain rfl (fun K hK => ?_)
    refine e_call ha59 Try.func13 rfl rfl rfl rfl (follow_is _ _ 0 0 [0] [] es _ _ _ _ _ _ (pp : Int) _ part _ _ _ _ (l2 := []) (es' := es) (last := (pp : Int) + part.length) (by decide) (by omega) (by omega) hpok (fun _ => ⟨by omega, rfl⟩) hfol (m60.into [(1, 11), (2, 12), (3, 13), (4, 14), (5, 27)] (by decide) rfl)) ?_
    rintro e w61 ⟨pl61, cl61, pr61, cr61, rfl, hm61⟩
    have mx61 := m60.back hm61 [(11, 1), (12, 2), (13, 3), (14, 4), (27, 5)] (by decide); clear hm61 m60
    have m61 : MemOk _ _ [(11, _), (12, _), (13, _), (14, _), (27, _), (20, _), (21, _), (22, _), (26, _)] _ := mx61.only [11, 12, 13, 14, 27, 20, 21, 22, 26]; clear mx61
    refine ⟨_, rfl, fun a62 ha62 => ?_⟩; clear ha59 a59
    refine hK _ _ ?_; clear hK K
    refine st_y ha62 rfl (y_move ha62 rfl) ?_
    clear ha62 a62; intro a63 ha63
    refine st_y ha63 rfl (y_extract ha63 rfl rfl) ?_
    clear ha63 a63; intro a64 ha64
    refine st_y ha64 rfl (y_extract ha64 rfl rfl) ?_
    clear ha64 a64; intro a65 ha65
    refine st_y ha65 rfl (y_extract ha65 rfl rfl) ?_
    clear ha65 a65; intro a66 ha66
    refine st_y ha66 rfl (y_assign ha66 rfl) ?_
    clear ha66 a66; intro a67 ha67
    refine st_y ha67 rfl (y_assign ha67 rfl) ?_
    clear ha67 a67; intro a68 ha68
    refine st_y ha68 rfl (y_assign ha68 rfl) ?_
    clear ha68 a68; intro a69 ha69
    refine wpList_nil ?_
    refine hK11 _ _ ?_; clear hK11; try clear K11
    refine wp_seq_k (fun K12 hK12 => ?_)
    have ha70 : Has 71 [(6, _), (8, _), (9, _), (10, _), (11, _), (12, _), (13, _), (14, _)] a69 := ha69.only [6, 8, 9, 10, 11, 12, 13, 14]; clear ha69
    refine wp_region_lit ?_
    refine st_y ha70 rfl (y_move ha70 rfl) ?_
    clear ha70 a69; intro a71 ha71
    refine st_y ha71 rfl (y_move ha71 rfl) ?_
    clear ha71 a71; intro a72 ha72
    refine st_g ha72 rfl rfl rfl rfl (y_move ha72 rfl) ?_
    clear ha72 a72; intro a73 ha73
    refine st_g ha73 rfl rfl rfl rfl (y_len ha73 rfl Try.underlying29) ?_
    clear ha73 a73; intro a74 ha74
    refine st_g ha74 rfl rfl rfl rfl (y_eql ha74 rfl rfl) ?_
    clear ha74 a74; intro a75 ha75
    refine st_y ha75 rfl (y_pickT ha75 rfl rfl) ?_
    clear ha75 a75; intro a76 ha76
    refine st_y ha76 rfl (y_move ha76 rfl) ?_
    clear ha76 a76; intro a77 ha77
    refine bool_cases ha77 (t := 57) rfl (fun hb78 ha78 => ?_) (fun hb78 ha78 => ?_)
    rotate_left
    · exact absurd hb78 (by simp)
    clear ha77 hb78
    refine st_g ha78 rfl rfl rfl rfl (y_move ha78 rfl) ?_
    clear ha78 a77; intro a79 ha79
    refine st_g ha79 rfl rfl rfl rfl (y_move ha79 rfl) ?_
    clear ha79 a79; intro a80 ha80
    refine st_g ha80 rfl rfl rfl rfl (y_move ha80 rfl) ?_
    clear ha80 a80; intro a81 ha81
    refine st_g ha81 rfl rfl rfl rfl (y_len ha81 rfl Try.underlying29) ?_
    clear ha81 a81; intro a82 ha82
    refine st_g ha82 rfl rfl rfl rfl (y_add ha82 rfl rfl (r := (pp : Int) + part.length) (by rw [List.length_map]; exact IntWalk.i64_in _ (by omega))) ?_
    clear ha82 a82; intro a83 ha83
    refine st_g ha83 rfl rfl rfl rfl (y_eql ha83 rfl rfl) ?_
    clear ha83 a83; intro a84 ha84
    refine st_y ha84 rfl (y_pickT ha84 rfl rfl) ?_
    clear ha84 a84; intro a85 ha85
    refine st_y ha85 rfl (y_move ha85 rfl) ?_
    clear ha85 a85; intro a86 ha86
    refine bool_cases ha86 (t := 65) rfl (fun hb87 ha87 => ?_) (fun hb87 ha87 => ?_)
    rotate_left
    · exact absurd hb87 (by simp)
    clear ha86 hb87
    refine st_g ha87 rfl rfl rfl rfl (y_move ha87 rfl) ?_
    clear ha87 a86; intro a88 ha88
    refine st_ge ha88 rfl rfl rfl rfl (fun K hK => ?_)
    refine e_call ha88 Try.func30 rfl rfl rfl rfl (from_is _ 0 0 [0] [] es _ _ _ _ _ _ _ 0 99 (m61.ok 11 _ rfl : Res.ok _ _ _ _ (.box _ _ _)).1 ((m61.ok 12 _ rfl : Res.ok _ _ _ _ (.seg _ _ _ _)).1.rd (S' := fun _ => True) (fun _ _ _ => trivial) (fun _ _ => trivial)) (by decide) (by omega) heok (part := es) hall) ?_
    rintro e w89 ⟨p89, c89, rfl, hd89, hb89⟩
    have m90 := m61.callF 28 rfl hb89 hd89
    clear m61
    clear hb89 hd89
    refine ⟨_, rfl, fun a91 ha91 => ?_⟩; clear ha88 a88
    refine hK _ _ ?_; clear hK K
    refine st_g ha91 rfl rfl rfl rfl (y_move ha91 rfl) ?_
    clear ha91 a91; intro a92 ha92
    refine st_ge ha92 rfl rfl rfl rfl (fun K hK => ?_)
    refine e_call ha92 Try.func15 rfl rfl rfl rfl (sameS_any es _ _ _ _ _ (by omega) ((m90.rd (i := 28) rfl).any) ((m90.rd (i := 22) rfl).any)) ?_
    rintro e w93 ⟨rfl, hb93⟩
    have m94 := m90.later hb93
    clear m90
    clear hb93
    refine ⟨_, rfl, fun a95 ha95 => ?_⟩; clear ha92 a92
    refine hK _ _ ?_; clear hK K
    refine st_y ha95 rfl (y_pickT ha95 rfl rfl) ?_
    clear ha95 a95; intro a96 ha96
    refine st_y ha96 rfl (y_assign ha96 rfl) ?_
    clear ha96 a96; intro a97 ha97
    refine wpList_nil ?_
    refine hK12 _ _ ?_; clear hK12; try clear K12
    refine wp_ret ?_
    try dsimp only [Exit.then, Exit.inBlock]
    refine (ret1 (fn := Try.f6) ha97 rfl rfl ?_)
    exact ⟨by first | rfl | simp, m94.below⟩
end Go.Proofs.Ytmdckdhogbbhlaa.K
