/- mementolaw9.known. -/
import Derived.Test.YtmdckdhogbbhlaaLog6
namespace Go.Proofs.Ytmdckdhogbbhlaa.K
open Go.ChangeShapes Go.WideShapes Go.ChangeAt Go.RowKit
set_option linter.unusedVariables false
set_option linter.unusedSimpArgs false

theorem fl28kn : flatS Try.prog 28 [.int .i64 0, .int .i64 0, .slice none 0 0, .slice none 0 0] = true := by kernel_rfl
theorem fl32kn : flatS Try.prog 32 [.int .i64 0, .int .i64 0, .int .i64 0, .slice none 0 0] = true := by kernel_rfl
theorem inf3kn : (Try.prog.info? 3).map (fun i => (i.zero, i.size, i.bytes)) = some (some (.int .i64 0), 1, 8) := by kernel_rfl
theorem inf5kn : (Try.prog.info? 5).map (fun i => (i.zero, i.size, i.bytes)) = some (some (.int .u8 0), 1, 1) := by kernel_rfl
theorem inf32kn : (Try.prog.info? 32).map (fun i => (i.zero, i.size, i.bytes)) = some (some (.agg #[.int .i64 0, .int .i64 0, .int .i64 0, .slice none 0 0]), 4, 48) := by kernel_rfl
theorem sz32kn : (Try.prog.info? 32).map (·.size) = some 4 := by kernel_rfl
theorem zc28kn : ((Try.prog.info? 28).bind (·.zero)).map (·.cells.toList) = some [.int .i64 0, .int .i64 0, .slice none 0 0, .slice none 0 0] := by kernel_rfl
theorem zc32kn : ((Try.prog.info? 32).bind (·.zero)).map (·.cells.toList) = some [.int .i64 0, .int .i64 0, .int .i64 0, .slice none 0 0] := by kernel_rfl

def fromL (bi : Int) (es : List (Int × Int × Int × List Int)) (i q : Int) : List (Int × Int × Int × List Int) := (es.drop (i - bi - 1).toNat).take q.toNat
theorem from_is (B : Nat) (bi bt : Int) (cf d : List Int) (es : List (Int × Int × Int × List Int)) (pc pd pl : Option Addr) (cc cd cl : Nat) (w0 : World) (i q : Int) (hB : Blk w0 B 56 [.int .i64 bi, .int .i64 bt, .slice pc cf.length cc, .slice pd d.length cd, .slice pl (es.map entD).length cl]) (hl : Rd (fun _ => True) w0 (.slice pl (es.map entD).length cl) (.l 4 (es.map entD))) (hbi : -1000000000000000000 ≤ bi ∧ bi ≤ 1000000000000000000) (hn : es.length ≤ 1000000) (hok : EntsOk es) {part : List (Int × Int × Int × List Int)} (hp : fromL bi es i q = part) :
    Calls Try.prog 30 #[.pointer (some ⟨B, 0, none⟩), .int .i64 i, .int .i64 q] w0 fun e w' => ∃ p c, e = .returned (.slice p (part.map entD).length c) ∧ Rd (New w0) w' (.slice p (part.map entD).length c) (.l 4 (part.map entD)) ∧ Below w0.heap.size w0 w' := by
  subst hp
  by_cases h : q ≤ 0 ∨ bi + es.length < i
  · have e : fromL bi es i q = [] := by
      unfold fromL
      rcases h with h | h
      · rw [show q.toNat = 0 from by omega, List.take_zero]
      · rw [List.drop_of_length_le (by omega), List.take_nil]
    rw [e]
    refine (from_none B bi bt cf d es pc pd pl cc cd cl w0 i q hB hl hbi hn h).mono ?_
    rintro e w' ⟨rfl, hb⟩
    exact ⟨none, 0, rfl, .l0 none 0 4, hb⟩
  · have e : fromL bi es i q = (es.drop (i - bi - 1).toNat).take (min q.toNat (es.length - (i - bi - 1).toNat)) := by
      unfold fromL
      have hd : (es.drop (i - bi - 1).toNat).length = es.length - (i - bi - 1).toNat := List.length_drop
      by_cases hq : q.toNat ≤ es.length - (i - bi - 1).toNat
      · rw [Nat.min_eq_left hq]
      · rw [Nat.min_eq_right (by omega), List.take_of_length_le (by omega), List.take_of_length_le (by omega)]
    rw [e]
    exact from_some B bi bt cf d es pc pd pl cc cd cl w0 (i - bi - 1).toNat _ i q hB hl hbi hn hok (by omega) (by omega) (by omega) (by omega)
theorem conf_is (B : Nat) (bi bt : Int) (cf d : List Int) (es : List (Int × Int × Int × List Int)) (pc pd pl : Option Addr) (cc cd cl : Nat) (w0 : World) (i : Int) (hB : Blk w0 B 56 [.int .i64 bi, .int .i64 bt, .slice pc cf.length cc, .slice pd d.length cd, .slice pl (es.map entD).length cl]) (hl : Rd (fun _ => True) w0 (.slice pl (es.map entD).length cl) (.l 4 (es.map entD))) (hn : es.length ≤ 1000000) (hc : Rd (fun _ => True) w0 (.slice pc cf.length cc) (.ns .i64 cf)) (hcf : cf.length ≤ 900) (heb : EntsB es) {ms : List Int} (hms : confL cf es i = ms) :
    Calls Try.prog 29 #[.pointer (some ⟨B, 0, none⟩), .int .i64 i] w0 fun e w' => ∃ p c, e = .returned (.slice p ms.length c) ∧ Rd (New w0) w' (.slice p ms.length c) (.ns .i64 ms) ∧ Below w0.heap.size w0 w' := by
  subst hms; exact conf_any B bi bt cf d es pc pd pl cc cd cl w0 i hB hl hn hc hcf heb
theorem compact_is (X : Cx) (B : Nat) (bi bt : Int) (cf d : List Int) (es : List (Int × Int × Int × List Int)) (pc pd pl : Option Addr) (cc cd cl : Nat) (k : Nat) (i : Int) (dd : List Int) (pa : Option Addr) (ca : Nat) (w0 : World) {ei et ek : Int} {ed : List Int} (hbi : -1000000000000000000 ≤ bi ∧ bi ≤ 1000000000000000000) (hn : es.length ≤ 1000000) (hdd : dd.length ≤ 140737488351232) (hcf : cf.length ≤ 900) (heb : EntsB es) (hes : es[k]? = some (ei, et, ek, ed)) (hi : i = bi + 1 + k) {ms : List Int} (hms : confL cf es i = ms) (m0 : MemOk X w0 [(1, .box B 56 [.int .i64 bi, .int .i64 bt, .slice pc cf.length cc, .slice pd d.length cd, .slice pl (es.map entD).length cl]), (2, .seg (.slice pl (es.map entD).length cl) 32 4 (es.map entD)), (3, .dat (.slice pc cf.length cc) (.ns .i64 cf)), (4, .dat (.slice pd d.length cd) (.ns .u8 d)), (5, .dat (.slice pa dd.length ca) (.ns .u8 dd))] w0) :
    Calls Try.prog 19 #[.pointer (some ⟨B, 0, none⟩), .int .i64 i, .slice pa dd.length ca] w0 fun e w' => ∃ (pc' : Option Addr) (cc' : Nat) (pd' : Option Addr) (cd' : Nat) (pl' : Option Addr) (cl' : Nat), e = .returned (.bool true) ∧ MemOk X w0 [(1, .box B 56 [.int .i64 i, .int .i64 et, .slice pc' ms.length cc', .slice pd' dd.length cd', .slice pl' ((es.drop (k + 1)).map entD).length cl']), (2, .seg (.slice pl' ((es.drop (k + 1)).map entD).length cl') 32 4 ((es.drop (k + 1)).map entD)), (3, .dat (.slice pc' ms.length cc') (.ns .i64 ms)), (4, .dat (.slice pd' dd.length cd') (.ns .u8 dd))] w' := by
  subst hms; exact compact_yes X B bi bt cf d es pc pd pl cc cd cl k i dd pa ca w0 hbi hn hdd hcf heb hes hi m0
set_option maxRecDepth 100000
set_option maxHeartbeats 4000000
theorem lknown_any (w0 : World) : Calls Try.prog 7 #[] w0 fun e w' => e = .returned (.bool true) ∧ Below w0.heap.size w0 w' := by
  refine enter (fn := Try.f7) Try.func7 rfl Try.ntmps7 rfl (fun a0 ha0 => ?_)
  simp only [List.zipIdx_cons, List.zipIdx_nil, List.map_cons, List.map_nil, Nat.reduceAdd, Nat.zero_add] at ha0
  have m0 := MemOk.start (fun _ => False) w0
  refine wp_seq_k (fun K0 hK0 => ?_)
  refine wp_region_lit ?_
  refine st_y ha0 rfl (y_assign ha0 rfl) ?_
  clear ha0 a0; intro a1 ha1
  refine wpList_nil ?_
  refine hK0 _ _ ?_; clear hK0; try clear K0
  refine wp_seq_k (fun K1 hK1 => ?_)
  refine wp_region_lit ?_
  refine wpList_plain rfl (fun K hK => ?_)
  refine e_litN ha1 m0 20 (k := .i64) rfl rfl Try.underlying26 inf3kn rfl rfl rfl rfl ?_
  clear ha1 a1 m0; intro g2 a3 w3 ha3 m3 
  refine hK _ _ ?_; clear hK K
  refine st_y ha3 rfl (y_build ha3 rfl zc28kn fl28kn rfl (by dsimp only [setL, List.set] <;> rfl)) ?_
  clear ha3 a3; intro a4 ha4
  have m5 := m3.freezeN 20 rfl; clear m3
  have m6 := m5.dat 21 rfl (m5.rd (i := 20) rfl); clear m5
  have m7 := m6.dat 22 rfl (Rd.nilN _ _ .u8 none); clear m6
  have m8 := m7.dat 23 rfl (Rd.l0 none 0 4); clear m7
  refine wpList_plain rfl (fun K hK => ?_)
  refine e_call ha4 Try.func9 rfl rfl rfl rfl (new_is _ 0 0 [0] [] [] _ _ _ _ _ _ _ _ (by decide) (by decide) (by decide) (by decide) (by unfold EntsOk; decide) rfl (m8.into [(5, 21), (6, 22), (7, 23)] (by decide) rfl)) ?_
  rintro e w9 ⟨B9, pc9, cc9, pd9, cd9, pl9, cl9, rfl, hm9⟩
  have mx9 := m8.back hm9 [(11, 1), (12, 2), (13, 3), (14, 4)] (by decide); clear hm9 m8
  have m9 : MemOk _ _ [(11, _), (12, _), (13, _), (14, _), (20, _)] _ := mx9.only [11, 12, 13, 14, 20]; clear mx9
  refine ⟨_, rfl, fun a10 ha10 => ?_⟩; clear ha4 a4
  refine hK _ _ ?_; clear hK K
  refine st_y ha10 rfl (y_assign ha10 rfl) ?_
  clear ha10 a10; intro a11 ha11
  refine wpList_nil ?_
  refine hK1 _ _ ?_; clear hK1; try clear K1
  refine wp_seq_k (fun K2 hK2 => ?_)
  refine wp_seq_k (fun K3 hK3 => ?_)
  refine wp_region_lit ?_
  refine st_y ha11 rfl (y_move ha11 rfl) ?_
  clear ha11 a11; intro a12 ha12
  refine st_y ha12 rfl (y_eqlP ha12 rfl rfl Try.underlying33) ?_
  clear ha12 a12; intro a13 ha13
  refine wpList_nil ?_
  refine hK3 _ _ ?_; clear hK3; try clear K3
  refine bool_cases ha13 (t := 13) rfl (fun hb14 ha14 => ?_) (fun hb14 ha14 => ?_)
  · exact absurd hb14 (by simp)
  clear ha13 hb14
  refine wp_cond_false (ha14.ev (x := .tmp 13) rfl) ?_
  refine wp_skip ?_
  refine hK2 _ _ ?_; clear hK2; try clear K2
  refine wp_seq_k (fun K4 hK4 => ?_)
  refine wp_region_lit ?_
  refine st_y ha14 rfl (y_move ha14 rfl) ?_
  clear ha14 a13; intro a15 ha15
  refine st_const ha15 m9 24 rfl rfl Try.underlying23 Try.underlying5 inf5kn rfl rfl rfl rfl rfl ?_
  clear ha15 a15 m9; intro g16 a16 w16 ha16 m16
  have m17 := m16.dat 25 rfl (m16.rd (i := 24) rfl); clear m16
  refine wpList_plain rfl (fun K hK => ?_)
  refine e_call ha16 Try.func17 rfl rfl rfl rfl (add_fr _ _ 0 0 [0] [] [] _ _ _ _ _ _ 1 1 [97] _ _ _ (by decide) (by decide) (by decide) (m17.into [(1, 11), (2, 12), (3, 13), (4, 14), (5, 25)] (by decide) rfl)) ?_
  rintro e w18 ⟨pl18, cl18, pr18, cr18, rfl, hm18⟩
  have mx18 := m17.back hm18 [(11, 1), (12, 2), (13, 3), (14, 4), (25, 5)] (by decide); clear hm18 m17
  have m18 : MemOk _ _ [(11, _), (12, _), (13, _), (14, _), (25, _), (20, _), (24, _)] _ := mx18.only [11, 12, 13, 14, 25, 20, 24]; clear mx18
  refine ⟨_, rfl, fun a19 ha19 => ?_⟩; clear ha16 a16
  refine hK _ _ ?_; clear hK K
  refine wpList_plain rfl (fun K hK => ?_)
  refine e_alloc ha19 m18 26 zc32kn rfl ?_
  clear ha19 a19 m18; intro g20 a21 w21 ha21 m21 hB21 hg21
  clear hB21 hg21
  refine hK _ _ ?_; clear hK K
  refine wpList_plain rfl (fun K hK => ?_)
  refine e_storeW ha21 m21 26 rfl rfl rfl rfl rfl sz32kn ?_
  clear m21; intro w22 m22 hB22
  clear hB22
  refine hK _ _ ?_; clear hK K
  refine wpList_nil ?_
  refine hK4 _ _ ?_; clear hK4; try clear K4
  refine wp_seq_k (fun K5 hK5 => ?_)
  have ha23 : Has 96 [(0, _), (1, _), (2, _)] a21 := ha21.only [0, 1, 2]; clear ha21
  refine wp_region_lit ?_
  refine st_y ha23 rfl (y_move ha23 rfl) ?_
  clear ha23 a21; intro a24 ha24
  refine st_y ha24 rfl (y_build ha24 rfl zc32kn fl32kn rfl (by dsimp only [setL, List.set] <;> rfl)) ?_
  clear ha24 a24; intro a25 ha25
  refine st_y ha25 rfl (y_build ha25 rfl zc32kn fl32kn rfl (by dsimp only [setL, List.set] <;> rfl)) ?_
  clear ha25 a25; intro a26 ha26
  refine wpList_plain rfl (fun K hK => ?_)
  refine e_litR ha26 m22 27 (mm := 4) rfl (.cons rfl rfl (.cons (.v _) (.cons (.v _) (.cons (.v _) (.cons (Rd.nilN _ _ .u8 _) .nil)))) <| .cons rfl rfl (.cons (.v _) (.cons (.v _) (.cons (.v _) (.cons (Rd.nilN _ _ .u8 _) .nil)))) <| .nil) Try.underlying29 inf32kn rfl rfl rfl rfl rfl ?_
  clear ha26 a26 m22; intro g27 a28 w28 ha28 m28 
  refine hK _ _ ?_; clear hK K
  have m29 := m28.freezeR 27 rfl; clear m28
  have m30 := m29.dat 28 rfl (m29.rd (i := 27) rfl); clear m29
  refine wpList_plain rfl (fun K hK => ?_)
  refine e_call ha28 Try.func13 rfl rfl rfl rfl (follow_is _ _ 0 0 [0] [] [((1 : Int), (1 : Int), (1 : Int), [(97 : Int)])] _ _ _ _ _ _ 0 0 [((1 : Int), (2 : Int), (0 : Int), ([] : List Int)), (2, 2, 0, [])] _ _ _ _ (l2 := [((1 : Int), (2 : Int), (0 : Int), ([] : List Int)), (2, 2, 0, [])]) (es' := [((1 : Int), (2 : Int), (0 : Int), ([] : List Int)), (2, 2, 0, [])]) (last := 2) (by decide) (by decide) (by decide) (by unfold EntsOk; decide) (fun _ => ⟨(by decide), (by decide)⟩) (by kernel_rfl) (m30.into [(1, 11), (2, 12), (3, 13), (4, 14), (5, 28)] (by decide) rfl)) ?_
  rintro e w31 ⟨pl31, cl31, pr31, cr31, rfl, hm31⟩
  have mx31 := m30.back hm31 [(11, 1), (12, 2), (13, 3), (14, 4), (28, 5)] (by decide); clear hm31 m30
  have m31 : MemOk _ _ [(11, _), (12, _), (13, _), (14, _), (28, _), (20, _), (24, _), (25, _), (26, _), (27, _)] _ := mx31.only [11, 12, 13, 14, 28, 20, 24, 25, 26, 27]; clear mx31
  refine ⟨_, rfl, fun a32 ha32 => ?_⟩; clear ha28 a28
  refine hK _ _ ?_; clear hK K
  refine st_y ha32 rfl (y_move ha32 rfl) ?_
  clear ha32 a32; intro a33 ha33
  refine st_y ha33 rfl (y_extract ha33 rfl rfl) ?_
  clear ha33 a33; intro a34 ha34
  refine st_y ha34 rfl (y_extract ha34 rfl rfl) ?_
  clear ha34 a34; intro a35 ha35
  refine st_y ha35 rfl (y_extract ha35 rfl rfl) ?_
  clear ha35 a35; intro a36 ha36
  refine st_y ha36 rfl (y_assign ha36 rfl) ?_
  clear ha36 a36; intro a37 ha37
  refine st_y ha37 rfl (y_assign ha37 rfl) ?_
  clear ha37 a37; intro a38 ha38
  refine st_y ha38 rfl (y_assign ha38 rfl) ?_
  clear ha38 a38; intro a39 ha39
  refine wpList_nil ?_
  refine hK5 _ _ ?_; clear hK5; try clear K5
  refine wp_seq_k (fun K6 hK6 => ?_)
  have ha40 : Has 96 [(0, _), (1, _), (2, _), (3, _), (4, _), (5, _)] a39 := ha39.only [0, 1, 2, 3, 4, 5]; clear ha39
  refine wp_region_lit ?_
  refine st_y ha40 rfl (y_move ha40 rfl) ?_
  clear ha40 a39; intro a41 ha41
  have m42 := m31.dat 29 rfl (Rd.l0 none 0 4); clear m31
  refine wpList_plain rfl (fun K hK => ?_)
  refine e_call ha41 Try.func13 rfl rfl rfl rfl (follow_no _ _ 0 0 [0] [] [((1 : Int), (2 : Int), (0 : Int), ([] : List Int)), (2, 2, 0, [])] _ _ _ _ _ _ 2 1 [] _ _ _ _ (by decide) (by decide) (by decide) (.inr (by decide)) (m42.into [(1, 11), (2, 12), (3, 13), (4, 14), (5, 29)] (by decide) rfl)) ?_
  rintro e w43 ⟨rfl, hm43⟩
  have mx43 := m42.back hm43 [(11, 1), (12, 2), (13, 3), (14, 4)] (by decide); clear hm43 m42
  have m43 : MemOk _ _ [(11, _), (12, _), (13, _), (14, _), (20, _), (24, _), (25, _), (26, _), (27, _), (28, _)] _ := mx43.only [11, 12, 13, 14, 20, 24, 25, 26, 27, 28]; clear mx43
  refine ⟨_, rfl, fun a44 ha44 => ?_⟩; clear ha41 a41
  refine hK _ _ ?_; clear hK K
  refine st_y ha44 rfl (y_move ha44 rfl) ?_
  clear ha44 a44; intro a45 ha45
  refine st_y ha45 rfl (y_extract ha45 rfl rfl) ?_
  clear ha45 a45; intro a46 ha46
  refine st_y ha46 rfl (y_extract ha46 rfl rfl) ?_
  clear ha46 a46; intro a47 ha47
  refine st_y ha47 rfl (y_extract ha47 rfl rfl) ?_
  clear ha47 a47; intro a48 ha48
  refine st_y ha48 rfl (y_assign ha48 rfl) ?_
  clear ha48 a48; intro a49 ha49
  refine st_y ha49 rfl (y_assign ha49 rfl) ?_
  clear ha49 a49; intro a50 ha50
  refine st_y ha50 rfl (y_assign ha50 rfl) ?_
  clear ha50 a50; intro a51 ha51
  refine wpList_nil ?_
  refine hK6 _ _ ?_; clear hK6; try clear K6
  refine wp_seq_k (fun K7 hK7 => ?_)
  have ha52 : Has 96 [(0, _), (1, _), (2, _), (3, _), (4, _), (5, _), (8, _)] a51 := ha51.only [0, 1, 2, 3, 4, 5, 8]; clear ha51
  refine wp_region_lit ?_
  refine st_y ha52 rfl (y_fieldAddr ha52 (off := 0) rfl Try.underlying32 rfl (s := 0) (by kernel_rfl) rfl) ?_
  clear ha52 a51; intro a53 ha53
  refine st_y ha53 rfl (y_loadB1 ha53 m43 (i := 26) rfl rfl rfl Try.underlying3 rfl) ?_
  clear ha53 a53; intro a54 ha54
  refine st_y ha54 rfl (y_eql ha54 rfl rfl) ?_
  clear ha54 a54; intro a55 ha55
  refine st_y ha55 rfl (y_move ha55 rfl) ?_
  clear ha55 a55; intro a56 ha56
  refine bool_cases ha56 (t := 36) rfl (fun hb57 ha57 => ?_) (fun hb57 ha57 => ?_)
  rotate_left
  · exact absurd hb57 (by first | decide | simp)
  clear ha56 hb57
  refine st_g ha57 rfl rfl rfl rfl (y_move ha57 rfl) ?_
  clear ha57 a56; intro a58 ha58
  refine st_y ha58 rfl (y_pickT ha58 rfl rfl) ?_
  clear ha58 a58; intro a59 ha59
  refine st_y ha59 rfl (y_move ha59 rfl) ?_
  clear ha59 a59; intro a60 ha60
  refine st_g ha60 rfl rfl rfl rfl (y_move ha60 rfl) ?_
  clear ha60 a60; intro a61 ha61
  refine st_g ha61 rfl rfl rfl rfl (y_len ha61 rfl Try.underlying29) ?_
  clear ha61 a61; intro a62 ha62
  refine st_g ha62 rfl rfl rfl rfl (y_eql ha62 rfl rfl) ?_
  clear ha62 a62; intro a63 ha63
  refine st_y ha63 rfl (y_pickT ha63 rfl rfl) ?_
  clear ha63 a63; intro a64 ha64
  refine st_y ha64 rfl (y_move ha64 rfl) ?_
  clear ha64 a64; intro a65 ha65
  refine bool_cases ha65 (t := 44) rfl (fun hb66 ha66 => ?_) (fun hb66 ha66 => ?_)
  rotate_left
  · exact absurd hb66 (by first | decide | simp)
  clear ha65 hb66
  refine st_g ha66 rfl rfl rfl rfl (y_move ha66 rfl) ?_
  clear ha66 a65; intro a67 ha67
  refine st_g ha67 rfl rfl rfl rfl (y_eql ha67 rfl rfl) ?_
  clear ha67 a67; intro a68 ha68
  refine st_y ha68 rfl (y_pickT ha68 rfl rfl) ?_
  clear ha68 a68; intro a69 ha69
  refine st_y ha69 rfl (y_move ha69 rfl) ?_
  clear ha69 a69; intro a70 ha70
  refine bool_cases ha70 (t := 48) rfl (fun hb71 ha71 => ?_) (fun hb71 ha71 => ?_)
  rotate_left
  · exact absurd hb71 (by first | decide | simp)
  clear ha70 hb71
  refine st_g ha71 rfl rfl rfl rfl (y_move ha71 rfl) ?_
  clear ha71 a70; intro a72 ha72
  refine st_g ha72 rfl rfl rfl rfl (y_not ha72 rfl) ?_
  clear ha72 a72; intro a73 ha73
  refine st_y ha73 rfl (y_pickT ha73 rfl rfl) ?_
  clear ha73 a73; intro a74 ha74
  refine st_y ha74 rfl (y_move ha74 rfl) ?_
  clear ha74 a74; intro a75 ha75
  refine st_g ha75 rfl rfl rfl rfl (y_move ha75 rfl) ?_
  clear ha75 a75; intro a76 ha76
  refine st_g ha76 rfl rfl rfl rfl (y_nilCheck ha76 rfl) ?_
  clear ha76 a76; intro a77 ha77
  refine st_g ha77 rfl rfl rfl rfl (y_fieldAddr ha77 (off := 0) rfl Try.underlying56 rfl (s := 4) (by kernel_rfl) rfl) ?_
  clear ha77 a77; intro a78 ha78
  refine st_ge ha78 rfl rfl rfl rfl (fun K hK => ?_)
  refine e_call ha78 Try.func25 rfl rfl rfl rfl (last_any _ 0 2 _ _ _ _ _ _ (m43.ok 11 _ rfl : Res.ok _ _ _ _ (.box _ _ _)).1 (by decide) (by decide)) ?_
  rintro e w79 ⟨rfl, hb79⟩
  have m80 := m43.later hb79
  clear m43
  clear hb79
  refine ⟨_, rfl, fun a81 ha81 => ?_⟩; clear ha78 a78
  refine hK _ _ ?_; clear hK K
  refine st_g ha81 rfl rfl rfl rfl (y_eql ha81 rfl rfl) ?_
  clear ha81 a81; intro a82 ha82
  refine st_y ha82 rfl (y_pickT ha82 rfl rfl) ?_
  clear ha82 a82; intro a83 ha83
  refine st_y ha83 rfl (y_move ha83 rfl) ?_
  clear ha83 a83; intro a84 ha84
  refine bool_cases ha84 (t := 59) rfl (fun hb85 ha85 => ?_) (fun hb85 ha85 => ?_)
  rotate_left
  · exact absurd hb85 (by first | decide | simp)
  clear ha84 hb85
  refine st_g ha85 rfl rfl rfl rfl (y_move ha85 rfl) ?_
  clear ha85 a84; intro a86 ha86
  refine st_ge ha86 rfl rfl rfl rfl (fun K hK => ?_)
  refine e_call ha86 Try.func26 rfl rfl rfl rfl (term_any _ 0 0 [0] [] [((1 : Int), (2 : Int), (0 : Int), ([] : List Int)), (2, 2, 0, [])] _ _ _ _ _ _ _ _ (m80.ok 11 _ rfl : Res.ok _ _ _ _ (.box _ _ _)).1 ((m80.ok 12 _ rfl : Res.ok _ _ _ _ (.seg _ _ _ _)).1.rd (S' := fun _ => True) (fun _ _ _ => trivial) (fun _ _ => trivial)) (by decide) (by decide)) ?_
  rintro e w87 ⟨rfl, hb87⟩
  have m88 := m80.later hb87
  clear m80
  clear hb87
  refine ⟨_, rfl, fun a89 ha89 => ?_⟩; clear ha86 a86
  refine hK _ _ ?_; clear hK K
  refine st_g ha89 rfl rfl rfl rfl (y_eql ha89 rfl rfl) ?_
  clear ha89 a89; intro a90 ha90
  refine st_y ha90 rfl (y_pickT ha90 rfl rfl) ?_
  clear ha90 a90; intro a91 ha91
  refine st_y ha91 rfl (y_move ha91 rfl) ?_
  clear ha91 a91; intro a92 ha92
  refine bool_cases ha92 (t := 64) rfl (fun hb93 ha93 => ?_) (fun hb93 ha93 => ?_)
  rotate_left
  · exact absurd hb93 (by first | decide | simp)
  clear ha92 hb93
  refine st_g ha93 rfl rfl rfl rfl (y_move ha93 rfl) ?_
  clear ha93 a92; intro a94 ha94
  refine st_ge ha94 rfl rfl rfl rfl (fun K hK => ?_)
  refine e_call ha94 Try.func26 rfl rfl rfl rfl (term_any _ 0 0 [0] [] [((1 : Int), (2 : Int), (0 : Int), ([] : List Int)), (2, 2, 0, [])] _ _ _ _ _ _ _ _ (m88.ok 11 _ rfl : Res.ok _ _ _ _ (.box _ _ _)).1 ((m88.ok 12 _ rfl : Res.ok _ _ _ _ (.seg _ _ _ _)).1.rd (S' := fun _ => True) (fun _ _ _ => trivial) (fun _ _ => trivial)) (by decide) (by decide)) ?_
  rintro e w95 ⟨rfl, hb95⟩
  have m96 := m88.later hb95
  clear m88
  clear hb95
  refine ⟨_, rfl, fun a97 ha97 => ?_⟩; clear ha94 a94
  refine hK _ _ ?_; clear hK K
  refine st_g ha97 rfl rfl rfl rfl (y_eql ha97 rfl rfl) ?_
  clear ha97 a97; intro a98 ha98
  refine st_y ha98 rfl (y_pickT ha98 rfl rfl) ?_
  clear ha98 a98; intro a99 ha99
  refine st_y ha99 rfl (y_move ha99 rfl) ?_
  clear ha99 a99; intro a100 ha100
  refine bool_cases ha100 (t := 69) rfl (fun hb101 ha101 => ?_) (fun hb101 ha101 => ?_)
  rotate_left
  · exact absurd hb101 (by first | decide | simp)
  clear ha100 hb101
  refine st_g ha101 rfl rfl rfl rfl (y_move ha101 rfl) ?_
  clear ha101 a100; intro a102 ha102
  refine st_ge ha102 rfl rfl rfl rfl (fun K hK => ?_)
  refine e_call ha102 Try.func26 rfl rfl rfl rfl (term_any _ 0 0 [0] [] [((1 : Int), (2 : Int), (0 : Int), ([] : List Int)), (2, 2, 0, [])] _ _ _ _ _ _ _ _ (m96.ok 11 _ rfl : Res.ok _ _ _ _ (.box _ _ _)).1 ((m96.ok 12 _ rfl : Res.ok _ _ _ _ (.seg _ _ _ _)).1.rd (S' := fun _ => True) (fun _ _ _ => trivial) (fun _ _ => trivial)) (by decide) (by decide)) ?_
  rintro e w103 ⟨rfl, hb103⟩
  have m104 := m96.later hb103
  clear m96
  clear hb103
  refine ⟨_, rfl, fun a105 ha105 => ?_⟩; clear ha102 a102
  refine hK _ _ ?_; clear hK K
  refine st_g ha105 rfl rfl rfl rfl (y_eql ha105 rfl rfl) ?_
  clear ha105 a105; intro a106 ha106
  refine st_y ha106 rfl (y_pickT ha106 rfl rfl) ?_
  clear ha106 a106; intro a107 ha107
  refine st_y ha107 rfl (y_move ha107 rfl) ?_
  clear ha107 a107; intro a108 ha108
  refine bool_cases ha108 (t := 74) rfl (fun hb109 ha109 => ?_) (fun hb109 ha109 => ?_)
  rotate_left
  · exact absurd hb109 (by first | decide | simp)
  clear ha108 hb109
  refine st_g ha109 rfl rfl rfl rfl (y_move ha109 rfl) ?_
  clear ha109 a108; intro a110 ha110
  refine st_ge ha110 rfl rfl rfl rfl (fun K hK => ?_)
  refine e_call ha110 Try.func30 rfl rfl rfl rfl (from_is _ 0 0 [0] [] [((1 : Int), (2 : Int), (0 : Int), ([] : List Int)), (2, 2, 0, [])] _ _ _ _ _ _ _ 2 9 (m104.ok 11 _ rfl : Res.ok _ _ _ _ (.box _ _ _)).1 ((m104.ok 12 _ rfl : Res.ok _ _ _ _ (.seg _ _ _ _)).1.rd (S' := fun _ => True) (fun _ _ _ => trivial) (fun _ _ => trivial)) (by decide) (by decide) (by unfold EntsOk; decide) (part := [((2 : Int), (2 : Int), (0 : Int), ([] : List Int))]) (by kernel_rfl)) ?_
  rintro e w111 ⟨p111, c111, rfl, hd111, hb111⟩
  have m112 := m104.callF 30 rfl hb111 hd111
  clear m104
  clear hb111 hd111
  refine ⟨_, rfl, fun a113 ha113 => ?_⟩; clear ha110 a110
  refine hK _ _ ?_; clear hK K
  refine st_g ha113 rfl rfl rfl rfl (y_len ha113 rfl Try.underlying29) ?_
  clear ha113 a113; intro a114 ha114
  refine st_g ha114 rfl rfl rfl rfl (y_eql ha114 rfl rfl) ?_
  clear ha114 a114; intro a115 ha115
  refine st_y ha115 rfl (y_pickT ha115 rfl rfl) ?_
  clear ha115 a115; intro a116 ha116
  refine st_y ha116 rfl (y_move ha116 rfl) ?_
  clear ha116 a116; intro a117 ha117
  refine bool_cases ha117 (t := 80) rfl (fun hb118 ha118 => ?_) (fun hb118 ha118 => ?_)
  rotate_left
  · exact absurd hb118 (by first | decide | simp)
  clear ha117 hb118
  refine st_g ha118 rfl rfl rfl rfl (y_move ha118 rfl) ?_
  clear ha118 a117; intro a119 ha119
  refine st_ge ha119 rfl rfl rfl rfl (fun K hK => ?_)
  refine e_call ha119 Try.func29 rfl rfl rfl rfl (conf_is _ 0 0 [0] [] [((1 : Int), (2 : Int), (0 : Int), ([] : List Int)), (2, 2, 0, [])] _ _ _ _ _ _ _ 2 (m112.ok 11 _ rfl : Res.ok _ _ _ _ (.box _ _ _)).1 ((m112.ok 12 _ rfl : Res.ok _ _ _ _ (.seg _ _ _ _)).1.rd (S' := fun _ => True) (fun _ _ _ => trivial) (fun _ _ => trivial)) (by decide) (m112.rd (i := 13) rfl).any (by decide) (by unfold EntsB ByteL; decide) (ms := [0]) (by kernel_rfl)) ?_
  rintro e w120 ⟨p120, c120, rfl, hd120, hb120⟩
  have m121 := m112.callF 31 rfl hb120 hd120
  clear m112
  clear hb120 hd120
  refine ⟨_, rfl, fun a122 ha122 => ?_⟩; clear ha119 a119
  refine hK _ _ ?_; clear hK K
  refine st_g ha122 rfl rfl rfl rfl (y_len ha122 rfl Try.underlying26) ?_
  clear ha122 a122; intro a123 ha123
  refine st_g ha123 rfl rfl rfl rfl (y_eql ha123 rfl rfl) ?_
  clear ha123 a123; intro a124 ha124
  refine st_y ha124 rfl (y_pickT ha124 rfl rfl) ?_
  clear ha124 a124; intro a125 ha125
  refine st_y ha125 rfl (y_move ha125 rfl) ?_
  clear ha125 a125; intro a126 ha126
  refine bool_cases ha126 (t := 86) rfl (fun hb127 ha127 => ?_) (fun hb127 ha127 => ?_)
  rotate_left
  · exact absurd hb127 (by first | decide | simp)
  clear ha126 hb127
  refine st_g ha127 rfl rfl rfl rfl (y_move ha127 rfl) ?_
  clear ha127 a126; intro a128 ha128
  have m129 := m121.dat 32 rfl (Rd.nilN _ _ .u8 none); clear m121
  refine st_ge ha128 rfl rfl rfl rfl (fun K hK => ?_)
  refine e_call ha128 Try.func19 rfl rfl rfl rfl (compact_is _ _ 0 0 [0] [] [((1 : Int), (2 : Int), (0 : Int), ([] : List Int)), (2, 2, 0, [])] _ _ _ _ _ _ 0 1 [] _ _ _ (by decide) (by decide) (by decide) (by decide) (by unfold EntsB ByteL; decide) rfl rfl (ms := [0]) (by kernel_rfl) (m129.into [(1, 11), (2, 12), (3, 13), (4, 14), (5, 32)] (by decide) rfl)) ?_
  rintro e w130 ⟨pc130, cc130, pd130, cd130, pl130, cl130, rfl, hm130⟩
  have mx130 := m129.back hm130 [(11, 1), (12, 2), (13, 3), (14, 4)] (by decide); clear hm130 m129
  have m130 : MemOk _ _ [(11, _), (12, _), (13, _), (14, _), (20, _), (24, _), (25, _), (26, _), (27, _), (28, _), (30, _), (31, _)] _ := mx130.only [11, 12, 13, 14, 20, 24, 25, 26, 27, 28, 30, 31]; clear mx130
  refine ⟨_, rfl, fun a131 ha131 => ?_⟩; clear ha128 a128
  refine hK _ _ ?_; clear hK K
  refine st_y ha131 rfl (y_pickT ha131 rfl rfl) ?_
  clear ha131 a131; intro a132 ha132
  refine st_y ha132 rfl (y_move ha132 rfl) ?_
  clear ha132 a132; intro a133 ha133
  refine st_g ha133 rfl rfl rfl rfl (y_move ha133 rfl) ?_
  clear ha133 a133; intro a134 ha134
  refine st_ge ha134 rfl rfl rfl rfl (fun K hK => ?_)
  refine e_call ha134 Try.func27 rfl rfl rfl rfl (lbase_any _ 1 2 [0] [] [((2 : Int), (2 : Int), (0 : Int), ([] : List Int))] _ _ _ _ _ _ _ (m130.ok 11 _ rfl : Res.ok _ _ _ _ (.box _ _ _)).1 ((m130.ok 12 _ rfl : Res.ok _ _ _ _ (.seg _ _ _ _)).1.rd (S' := fun _ => True) (fun _ _ _ => trivial) (fun _ _ => trivial)) (by decide) (by decide) (m130.rd (i := 13) rfl).any (m130.rd (i := 14) rfl).any (by decide) (by decide)) ?_
  rintro e w135 ⟨p135, c135, q135, b135, rfl, hc135, hd135, hb135⟩
  have m136 := m130.callFF 33 34 rfl rfl hb135 hc135 hd135
  clear m130
  clear hb135 hc135 hd135
  refine ⟨_, rfl, fun a137 ha137 => ?_⟩; clear ha134 a134
  refine hK _ _ ?_; clear hK K
  refine st_g ha137 rfl rfl rfl rfl (y_field1 ha137 rfl Try.underlying28 rfl (td := _) Try.underlying3 rfl rfl) ?_
  clear ha137 a137; intro a138 ha138
  refine st_g ha138 rfl rfl rfl rfl (y_eql ha138 rfl rfl) ?_
  clear ha138 a138; intro a139 ha139
  refine st_y ha139 rfl (y_pickT ha139 rfl rfl) ?_
  clear ha139 a139; intro a140 ha140
  refine st_y ha140 rfl (y_assign ha140 rfl) ?_
  clear ha140 a140; intro a141 ha141
  refine wpList_nil ?_
  refine hK7 _ _ ?_; clear hK7; try clear K7
  refine wp_ret ?_
  try dsimp only [Exit.then, Exit.inBlock]
  refine (ret1 (fn := Try.f7) ha141 rfl rfl ?_)
  exact ⟨by first | rfl | decide, m136.below⟩
end Go.Proofs.Ytmdckdhogbbhlaa.K
