/- General laws of walks. -/
import Derived.Test.YtkehgingagggaaaGreatG19
import Derived.Test.YtkehgingagggaaaGreatG20
import Derived.Test.YtkehgingagggaaaGreatG15
import Derived.Test.YtkehgingagggaaaGreatG13
import Derived.Test.YtkehgingagggaaaGreatG9
import Derived.Test.YtkehgingagggaaaGreatG6
namespace Go.Proofs.YtkehgingagggaaaGreat.K
open Go.ChangeShapes Go.WideShapes Go.ChangeAt Go.RowKit
set_option linter.unusedVariables false
set_option linter.unusedSimpArgs false
section
theorem fl146pnw : flatS Tryz.prog 146 [.slice none 0 0, .int .i64 0] = true := by kernel_rfl
theorem ps148pnw : placesS Tryz.prog 148 = some [(0, 2)] := by kernel_rfl
theorem fl59mri : flatS Tryz.prog 59 [.int .i64 0, .slice none 0 0] = true := by kernel_rfl
theorem numR_own {x : Int} (rest : List Int) {mx : Int} (h0 : 0 ≤ x) (h1 : x ≤ mx) (h2 : mx ≤ 18446744073709551615) : numR (enc x ++ rest) 0 mx = (x, rest, 0) := numR_ok x h0 (by omega) rest mx h1
theorem len_r {a b d : List Int} (h : d = a ++ b) (hd : d.length ≤ 1000000) : b.length ≤ 1000000 := by rw [h, List.length_append] at hd; omega
theorem itD_snoc {l : List (Int × List Int)} {k : Nat} {xb : Int} {xd : List Int} (h : l[k]? = some (xb, xd)) : (l.take (k + 1)).map itD = (l.take k).map itD ++ [[.v (.int .i64 xb), .ns .u8 xd]] := by
 rw [List.take_add_one, h, List.map_append]; rfl
set_option maxRecDepth 100000
set_option maxHeartbeats 4000000
theorem pnew_f (X : Cx) (b : List Int) (p : Option Addr) (c : Nat) (w0 : World) (hb : b.length ≤ 1000000) (m0 : MemOk X w0 [(1, .dat (.slice p b.length c) (.ns .u8 b))] w0) :
   Calls Tryz.prog 59 #[.slice p b.length c] w0 fun e w' => ∃ (B : Nat) (p' : Option Addr) (c' : Nat), e = .returned (.pointer (some ⟨B, 0, none⟩)) ∧ MemOk X w0 [(1, .box B 148 [.slice p' (b).length c', .int .i64 0]), (2, .dat (.slice p' (b).length c') (.ns .u8 (b))), (3, .dat (.slice p b.length c) (.ns .u8 b))] w' := by
 refine ent1 Tryz.func59 rfl Tryz.ntmps59 fun Az Hz => ?_
 refine regS Hz (.assign rfl .nil) fun Az Hz => ?_
 refine zsr fun K0 hK0 => ?_
 refine goCh Hz (.move rfl .nil) fun Az Hz => ?_
 refine plz (e_litR Hz m0 20 (mm := 1) rfl (.cons rfl rfl (.cons (m0.rd (i := 1) rfl) .nil) .nil) U23 fct21 rfl rfl rfl rfl rfl fun g4 Az w5 Hz m5 => ?_)
 have m6 := m5.freezeR 20 rfl
 refine plz (ecn Hz Tryz.func68 rfl m6 21 (pjoin_is (ls := [b]) (S := b) ((m6.rd (i := 20) rfl).any) (by simp) (by simp [sumLen]; omega) (by simp)) fun p7 c7 Az w7 Hz m8 => ?_)
 refine goCh Hz (.build rfl fct22 fl146pnw rfl (by dsimp only [setL, List.set] <;> rfl) <| .buildG rfl fct23 ps148pnw rfl .nil) fun Az Hz => ?_
 refine plz (e_box Hz m8 22 (cs := [_, _]) rfl rfl rfl fun g12 Az w13 Hz m13 _ _ => ?_)
 refine gz hK0 Hz (.assign rfl .nil) fun Az Hz => ?_
 refine rt1 Hz ?_
 have m15 := m13.freezeN 21 rfl
 exact ⟨_, _, _, rfl, m15.ren [(1, 22), (2, 21), (3, 1)] (by decide)⟩
theorem perr_x (X : Cx) (B : Nat) (b : List Int) (er : Int) (p : Option Addr) (c : Nat) (w0 : World) (m0 : MemOk X w0 [(1, .box B 148 [.slice p (b).length c, .int .i64 er]), (2, .dat (.slice p (b).length c) (.ns .u8 (b)))] w0) :
   Calls Tryz.prog 62 #[.pointer (some ⟨B, 0, none⟩)] w0 fun e w' => e = .returned (.int .i64 er) ∧ MemOk X w0 [(1, .box B 148 [.slice p (b).length c, .int .i64 er]), (2, .dat (.slice p (b).length c) (.ns .u8 (b)))] w' := by
 refine ent1 Tryz.func62 rfl Tryz.ntmps62 fun Az Hz => ?_
 refine regS Hz (.assign rfl .nil) fun Az Hz => ?_
 refine regS Hz (.move rfl <| .nilCheck rfl <| .fieldAddr (off := 0) rfl U148 rfl (s := 1) (by kernel_rfl) rfl <| .fa 1 rfl U146 <| .lb m0 1 U42 rfl rfl rfl <| .assign rfl .nil) fun Az Hz => ?_
 refine rt1 Hz ?_
 exact ⟨rfl, m0.only [1, 2]⟩
theorem pnum_ok (X : Cx) (B : Nat) (b : List Int) (mx : Int) (p : Option Addr) (c : Nat) (w0 : World) (x : Int) (rest : List Int) (hb : b.length ≤ 1000000) (hbb : BytesL b) (hbe : b = enc x ++ rest) (hmx : mx ≤ 18446744073709551615) (hx : 0 ≤ x ∧ x ≤ mx) (m0 : MemOk X w0 [(1, .box B 148 [.slice p (b).length c, .int .i64 0]), (2, .dat (.slice p (b).length c) (.ns .u8 (b)))] w0) :
   Calls Tryz.prog 60 #[.pointer (some ⟨B, 0, none⟩), .int .u64 mx] w0 fun e w' => ∃ (p' : Option Addr) (c' : Nat), e = .returned (.int .u64 x) ∧ MemOk X w0 [(1, .box B 148 [.slice p' (rest).length c', .int .i64 0]), (2, .dat (.slice p' (rest).length c') (.ns .u8 (rest)))] w' := by
 have hN : numR b 0 mx = (x, rest, 0) := by rw [hbe]; exact numR_own rest hx.1 hx.2 hmx
 have h := pnum_x X B b 0 mx p c w0 hb hbb m0
 rw [hN] at h
 exact h
theorem rdlump_ok (X : Cx) (B : Nat) (b : List Int) (mx : Int) (p : Option Addr) (c : Nat) (w0 : World) (d rest : List Int) (hb : b.length ≤ 1000000) (hbb : BytesL b) (hbe : b = enc (d.length : Int) ++ (d ++ rest)) (hmx : mx ≤ 1000000) (hx : (d.length : Int) ≤ mx) (m0 : MemOk X w0 [(1, .box B 148 [.slice p (b).length c, .int .i64 0]), (2, .dat (.slice p (b).length c) (.ns .u8 (b)))] w0) :
   Calls Tryz.prog 140 #[.pointer (some ⟨B, 0, none⟩), .int .i64 mx] w0 fun e w' => ∃ (p' : Option Addr) (c' : Nat) (p3 : Option Addr) (c3 : Nat), e = .returned (.slice p3 d.length c3) ∧ MemOk X w0 [(1, .box B 148 [.slice p' (rest).length c', .int .i64 0]), (2, .dat (.slice p' (rest).length c') (.ns .u8 (rest))), (3, .dat (.slice p3 d.length c3) (.ns .u8 d))] w' := by
 refine ent2 Tryz.func140 rfl Tryz.ntmps140 fun Az Hz => ?_
 have hun : d.length ≤ (d ++ rest).length := by rw [List.length_append]; omega
 have hdl : (d ++ rest).length ≤ 1000000 := by rw [hbe, List.length_append] at hb; omega
 refine regS Hz (.assign rfl .nil) fun Az Hz => ?_
 refine zsr fun K0 hK0 => ?_
 refine goCh Hz (.move rfl <| .move rfl <| .c rfl (fun _ h_ => y_max h_ rfl rfl (r := mx) (by omega)) <| .conv rfl U3 U108 (r := mx) (IntWalk.u64_in _ (by omega)) .nil) fun Az Hz => ?_
 refine plz (ecl Hz Tryz.func60 rfl (pnum_ok _ _ _ mx _ _ _ (d.length : Int) (d ++ rest) hb hbb hbe (by omega) (by omega) (m0.into [(1, 1), (2, 2)] (by decide) rfl)) ?_)
 rintro e w10 ⟨p10, c10, rfl, hm10⟩
 have mx10 := m0.back hm10 [(1, 1), (2, 2)] (by decide); clear hm10 m0
 have m10 := mx10.oz [1, 2]
 refine ⟨_, rfl, ?_⟩; intro Az Hz
 refine gz hK0 Hz (.assign rfl .nil) fun Az Hz => ?_
 refine wsk fun K1 hK1 => ?_
 replace Hz := Hz.oz [0, 4, 5]
 refine regS Hz (.move rfl <| .nilCheck rfl <| .fieldAddr (off := 0) rfl U148 rfl (s := 1) (by kernel_rfl) rfl <| .fa 1 rfl U146 <| .lb m10 1 U42 rfl rfl rfl <| .neq rfl rfl .nil) fun Az Hz => ?_
 refine bc Hz 17 ?_ ?_
 · intro hb _; exact absurd hb (by simp)
 clear Hz; intro _ Hz
 refine wcf Hz ?_
 refine zss (hK1 _ _ ?_)
 refine wsk fun K2 hK2 => ?_
 replace Hz := Hz.oz [0, 4, 5]
 refine regS Hz (.move rfl <| .move rfl <| .nilCheck rfl <| .fieldAddr (off := 0) rfl U148 rfl (s := 1) (by kernel_rfl) rfl <| .fa 0 rfl U146 <| .lb m10 1 U22 rfl rfl rfl <| .len rfl U22 <| .conv rfl U3 U108 (r := ((d ++ rest).length : Int)) (IntWalk.u64_in _ (by omega)) <| .gtr rfl rfl .nil) fun Az Hz => ?_
 refine bc Hz 26 ?_ ?_
 · intro hb _; exact absurd hb (by rw [decide_eq_true_eq, List.length_append]; omega)
 clear Hz; intro _ Hz
 refine wcf Hz ?_
 refine zss (hK2 _ _ ?_)
 replace Hz := Hz.oz [0, 4, 5]
 refine zsr fun K3 hK3 => ?_
 refine goCh Hz (.move rfl <| .nilCheck rfl <| .fieldAddr (off := 0) rfl U148 rfl (s := 1) (by kernel_rfl) rfl <| .fa 0 rfl U146 <| .lb m10 1 U22 rfl rfl rfl <| .move rfl .nil) fun Az Hz => ?_
 have hcap46 := (m10.rd (i := 2) rfl).ns_out.cap
 have m46 := m10.takeN (i := 2) rfl d.length hun 20 rfl
 refine goCh Hz (.c rfl (fun _ h_ => y_sliceHn h_ d.length rfl rfl U22 fct18 rfl (Nat.le_trans hun hcap46.1)) .nil) fun Az Hz => ?_
 refine plz (e_litR Hz m46 21 (mm := 1) rfl (.cons rfl rfl (.cons (m46.rd (i := 20) rfl) .nil) .nil) U23 fct21 rfl rfl rfl rfl rfl fun g48 Az w49 Hz m49 => ?_)
 have m50 := m49.freezeR 21 rfl
 refine plz (ecn Hz Tryz.func68 rfl m50 22 (pjoin_is (ls := [(d ++ rest).take d.length]) (S := d) ((m50.rd (i := 21) rfl).any) (by simp) (by simp [sumLen]; omega) (by simp)) fun p51 c51 Az w51 Hz m52 => ?_)
 refine gz hK3 Hz (.assign rfl .nil) fun Az Hz => ?_
 replace Hz := Hz.oz [0, 4, 5, 6]
 refine zsr fun K4 hK4 => ?_
 refine goCh Hz (.move rfl <| .move rfl <| .nilCheck rfl <| .fieldAddr (off := 0) rfl U148 rfl (s := 1) (by kernel_rfl) rfl <| .fa 0 rfl U146 <| .lb m52 1 U22 rfl rfl rfl <| .move rfl .nil) fun Az Hz => ?_
 have m71 := m52.dropN (i := 2) rfl d.length hun 23 rfl
 refine goCh Hz (.c rfl (fun _ h_ => y_sliceLn h_ d.length rfl rfl U22 fct18 rfl hun) <| .nilCheck rfl <| .fieldAddr (off := 0) rfl U148 rfl (s := 1) (by kernel_rfl) rfl <| .fa 0 rfl U146 .nil) fun Az Hz => ?_
 refine plz (st1 Hz m71 1 fct2 fun w76 m76 _ => ?_)
 refine znl (hK4 _ _ ?_)
 replace Hz := Hz.oz [4, 6]
 refine regS Hz (.move rfl <| .assign rfl .nil) fun Az Hz => ?_
 refine rt1 Hz ?_
 have e2 : (d ++ rest).drop d.length = rest := List.drop_left
 have e3 : (d ++ rest).length - d.length = rest.length := by rw [List.length_append]; omega
 rw [e2, e3] at m76
 have m80 := m76.freezeN 22 rfl
 exact ⟨_, _, _, _, rfl, m80.ren [(1, 1), (2, 23), (3, 22)] (by decide)⟩
theorem num_o (X : Cx) (B : Nat) (b : List Int) (p : Option Addr) (c : Nat) (w0 : World) (x : Int) (rest : List Int) (hb : b.length ≤ 1000000) (hbb : BytesL b) (hbe : b = enc x ++ rest) (hx : 0 ≤ x ∧ x ≤ 1099511627776) (m0 : MemOk X w0 [(1, .box B 148 [.slice p (b).length c, .int .i64 0]), (2, .dat (.slice p (b).length c) (.ns .u8 (b)))] w0) :
   Calls Tryz.prog 73 #[.pointer (some ⟨B, 0, none⟩)] w0 fun e w' => ∃ (p' : Option Addr) (c' : Nat), e = .returned (.int .i64 x) ∧ MemOk X w0 [(1, .box B 148 [.slice p' (rest).length c', .int .i64 0]), (2, .dat (.slice p' (rest).length c') (.ns .u8 (rest)))] w' := by
 refine ent1 Tryz.func73 rfl Tryz.ntmps73 fun Az Hz => ?_
 refine regS Hz (.assign rfl .nil) fun Az Hz => ?_
 refine zsr fun K0 hK0 => ?_
 refine goCh Hz (.move rfl .nil) fun Az Hz => ?_
 refine plz (ecl Hz Tryz.func60 rfl (pnum_ok _ _ _ 1099511627776 _ _ _ x rest hb hbb hbe (by omega) hx (m0.into [(1, 1), (2, 2)] (by decide) rfl)) ?_)
 rintro e w4 ⟨p4, c4, rfl, hm4⟩
 have mx4 := m0.back hm4 [(1, 1), (2, 2)] (by decide); clear hm4 m0
 have m4 := mx4.oz [1, 2]
 refine ⟨_, rfl, ?_⟩; intro Az Hz
 refine gz hK0 Hz (.conv rfl U108 U3 (r := x) (IntWalk.i64_in _ (by omega)) <| .assign rfl <| .nil) fun Az Hz => ?_
 refine rt1 Hz ?_
 exact ⟨_, _, rfl, m4.only [1, 2]⟩
theorem time_o (X : Cx) (B : Nat) (b : List Int) (p : Option Addr) (c : Nat) (w0 : World) (x : Int) (rest : List Int) (hb : b.length ≤ 1000000) (hbb : BytesL b) (hbe : b = enc x ++ rest) (hx : 0 ≤ x ∧ x ≤ 1099511627776) (m0 : MemOk X w0 [(1, .box B 148 [.slice p (b).length c, .int .i64 0]), (2, .dat (.slice p (b).length c) (.ns .u8 (b)))] w0) :
   Calls Tryz.prog 74 #[.pointer (some ⟨B, 0, none⟩)] w0 fun e w' => ∃ (p' : Option Addr) (c' : Nat), e = .returned (.int .i64 x) ∧ MemOk X w0 [(1, .box B 148 [.slice p' (rest).length c', .int .i64 0]), (2, .dat (.slice p' (rest).length c') (.ns .u8 (rest)))] w' := by
 refine ent1 Tryz.func74 rfl Tryz.ntmps74 fun Az Hz => ?_
 refine regS Hz (.assign rfl .nil) fun Az Hz => ?_
 refine zsr fun K0 hK0 => ?_
 refine goCh Hz (.move rfl .nil) fun Az Hz => ?_
 refine plz (ecl Hz Tryz.func73 rfl (num_o _ _ _ _ _ _ x rest hb hbb hbe hx (m0.into [(1, 1), (2, 2)] (by decide) rfl)) ?_)
 rintro e w4 ⟨p4, c4, rfl, hm4⟩
 have mx4 := m0.back hm4 [(1, 1), (2, 2)] (by decide); clear hm4 m0
 have m4 := mx4.oz [1, 2]
 refine ⟨_, rfl, ?_⟩; intro Az Hz
 refine gz hK0 Hz (.assign rfl .nil) fun Az Hz => ?_
 refine rt1 Hz ?_
 exact ⟨_, _, rfl, m4.only [1, 2]⟩
theorem listI_o (X : Cx) (B : Nat) (b : List Int) (p : Option Addr) (c : Nat) (w0 : World) (l T : List Int) (hb : b.length ≤ 1000000) (hbb : BytesL b) (hbe : b = enc (l.length : Int) ++ (encs l ++ T)) (hl : l.length ≤ 1000) (hlb : ∀ k, k < l.length → 0 ≤ l.getD k 0 ∧ l.getD k 0 ≤ 1099511627776) (m0 : MemOk X w0 [(1, .box B 148 [.slice p (b).length c, .int .i64 0]), (2, .dat (.slice p (b).length c) (.ns .u8 (b)))] w0) :
   Calls Tryz.prog 75 #[.pointer (some ⟨B, 0, none⟩), .func (.func 73) #[] #[]] w0 fun e w' => ∃ (p' : Option Addr) (c' : Nat) (p3 : Option Addr) (c3 : Nat), e = .returned (.slice p3 l.length c3) ∧ MemOk X w0 [(1, .box B 148 [.slice p' (T).length c', .int .i64 0]), (2, .dat (.slice p' (T).length c') (.ns .u8 (T))), (3, .dat (.slice p3 l.length c3) (.ns .i64 l))] w' := by
 refine ent2 Tryz.func75 rfl Tryz.ntmps75 fun Az Hz => ?_
 have hlT := bytes_r (hbe ▸ hbb)
 have hlL := len_r hbe hb
 refine regS Hz (.assign rfl .nil) fun Az Hz => ?_
 refine regS Hz (.assign rfl .nil) fun Az Hz => ?_
 refine wsk fun K0 hK0 => ?_
 refine zsr fun K1 hK1 => ?_
 refine goCh Hz (.move rfl .nil) fun Az Hz => ?_
 refine plz (ecl Hz Tryz.func60 rfl (pnum_ok _ _ _ 1099511627776 _ _ _ (l.length : Int) (encs (l) ++ T) hb hbb hbe (by omega) (by omega) (m0.into [(1, 1), (2, 2)] (by decide) rfl)) ?_)
 rintro e w5 ⟨p5, c5, rfl, hm5⟩
 have mx5 := m0.back hm5 [(1, 1), (2, 2)] (by decide); clear hm5 m0
 have m5 := mx5.oz [1, 2]
 refine ⟨_, rfl, ?_⟩; intro Az Hz
 refine gz hK1 Hz (.move rfl .nil) fun Az Hz => ?_
 refine wp_block ?_
 refine wp_loop_ghost (fun g a w => ∃ (k : Nat) (p1 : Option Addr) (c1 : Nat) (p3 : Option Addr) (c3 : Nat), k ≤ l.length ∧ g = l.length - k ∧ (encs (l.drop k) ++ T).length ≤ 1000000 ∧ BytesL (encs (l.drop k) ++ T) ∧ Has 23 [(0, .pointer (some ⟨B, 0, none⟩)), (1, .func (.func 73) #[] #[]), (5, .slice p3 (l.take k).length c3), (8, .int .u64 (l.length : Nat)), (9, .int .u64 (k : Int))] a ∧ MemOk X w0 [(1, .box B 148 [.slice p1 (encs (l.drop k) ++ T).length c1, .int .i64 0]), (2, .dat (.slice p1 (encs (l.drop k) ++ T).length c1) (.ns .u8 (encs (l.drop k) ++ T))), (7, .num (.slice p3 (l.take k).length c3) 3 .i64 (l.take k))] w) (l.length) ?_ ?_
 · have mz := m5.nilN 7 3 .i64
   exact ⟨0, _, _, _, _, Nat.zero_le _, rfl, by rw [List.drop_zero]; exact hlL, by rw [List.drop_zero]; exact hlT, Hz.only [0, 1, 5, 8, 9], mz.ren [(1, 1), (2, 2), (7, 7)] (by decide)⟩
 clear Hz m5
 rintro g Az w8 ⟨k, p1, c1, p3, c3, hkl, hg, hb1, hbb1, Hz, m8⟩
 refine regS Hz (.lss rfl rfl .nil) fun Az Hz => ?_
 refine wsk fun K2 hK2 => ?_
 refine bc Hz 10 ?_ ?_
 ·
  intro hb10 Hz; try simp only [QQ, Qax] at hb10
  have hk : k < l.length := by omega
  have hb2 : (encs (l.drop (k + 1)) ++ T).length ≤ 1000000 := by have h9 := hb1; rw [encs_drop hk, List.append_assoc, List.length_append] at h9; omega
  have hbb2 : BytesL (encs (l.drop (k + 1)) ++ T) := bytes_r (by have h9 := hbb1; rw [encs_drop hk, List.append_assoc] at h9; exact h9)
  refine wct Hz ?_
  refine zss (hK2 _ _ ?_)
  refine wsk fun K3 hK3 => ?_
  refine wp_block ?_
  refine zsr fun K4 hK4 => ?_
  refine goCh Hz (.move rfl <| .move rfl .nil) fun Az Hz => ?_
  refine plz (e_callV Hz rfl Tryz.func73 rfl rfl rfl rfl (num_o _ _ _ _ _ _ (l.getD k 0) (encs (l.drop (k + 1)) ++ T) hb1 hbb1 (by rw [encs_drop hk, List.append_assoc]) (hlb k hk) (m8.into [(1, 1), (2, 2)] (by decide) rfl)) ?_)
  rintro e w15 ⟨p15, c15, rfl, hm15⟩
  have mx15 := m8.back hm15 [(1, 1), (2, 2)] (by decide); clear hm15 m8
  have m15 := mx15.oz [1, 2, 7]
  refine ⟨_, rfl, ?_⟩; intro Az Hz
  refine gz hK4 Hz (.assign rfl .nil) fun Az Hz => ?_
  refine wsk fun K5 hK5 => ?_
  refine zsr fun K6 hK6 => ?_
  refine goCh Hz (.move rfl .nil) fun Az Hz => ?_
  refine plz (ecl Hz Tryz.func62 rfl (perr_x _ _ _ _ _ _ _ (m15.into [(1, 1), (2, 2)] (by decide) rfl)) ?_)
  rintro e w20 ⟨rfl, hm20⟩
  have mx20 := m15.back hm20 [(1, 1), (2, 2)] (by decide); clear hm20 m15
  have m20 := mx20.oz [1, 2, 7]
  refine ⟨_, rfl, ?_⟩; intro Az Hz
  refine gz hK6 Hz (.neq rfl rfl .nil) fun Az Hz => ?_
  refine bc Hz 16 ?_ ?_
  · intro hb _; exact absurd hb (by simp)
  clear Hz; intro _ Hz
  refine wcf Hz ?_
  refine zss (hK5 _ _ ?_)
  replace Hz := Hz.oz [0, 1, 5, 8, 9, 6]
  refine wp_region_lit ?_
  refine goCh Hz (.move rfl <| .move rfl .nil) fun Az Hz => ?_
  refine plz (e_litN Hz m20 100 (k := .i64) rfl rfl U35 fct17 rfl rfl rfl rfl fun g27 Az w28 Hz m28 => ?_)
  refine plz (e_appN Hz m28 7 rfl rfl rfl (m28.numsO (i := 100) rfl) U35 fct17 (by decide) (by simp; omega) rfl fun p29 c29 Az w30 Hz m30 => ?_)
  refine gz hK3 Hz (.assign rfl .nil) fun Az Hz => ?_
  refine wp_region_lit ?_
  refine goCh Hz (.add rfl rfl (r := ((k + 1 : Nat) : Int)) (by rw [IntWalk.u64_in _ (by omega)]; omega) <| .move rfl .nil) fun Az Hz => ?_
  refine wpList_nil ?_
  show ∃ n', n' < _ ∧ _
  have hE : l.take k ++ [l.getD k 0] = l.take (k + 1) := (take_getD hk).symm
  rw [hE] at m30 Hz
  exact ⟨l.length - (k + 1), by omega, k + 1, _, _, _, _, by omega, rfl, hb2, hbb2, Hz.only [0, 1, 5, 8, 9], m30.ren [(1, 1), (2, 2), (7, 7)] (by decide)⟩
 intro hb10 Hz; try simp only [QQ, Qax] at hb10
 revert Hz
 obtain rfl : k = l.length := by omega
 intro Hz
 rw [List.drop_length, show encs [] ++ T = T from rfl, List.take_length] at m8
 rw [List.take_length] at Hz
 refine wcf Hz ?_
 refine wp_exit ?_
 refine hK0 _ _ ?_
 refine regS Hz (.move rfl <| .assign rfl .nil) fun Az Hz => ?_
 refine rt1 Hz ?_
 have m36 := m8.freezeN 7 rfl
 exact ⟨_, _, _, _, rfl, m36.ren [(1, 1), (2, 2), (3, 7)] (by decide)⟩
theorem readItem_o (X : Cx) (B : Nat) (b : List Int) (p : Option Addr) (c : Nat) (w0 : World) (xb : Int) (xd T : List Int) (hb : b.length ≤ 1000000) (hbb : BytesL b) (hbe : b = enc xb ++ (enc (xd.length : Int) ++ (xd ++ T))) (hx1 : 0 ≤ xb ∧ xb ≤ 255) (hx2 : xd.length ≤ 32) (m0 : MemOk X w0 [(1, .box B 148 [.slice p (b).length c, .int .i64 0]), (2, .dat (.slice p (b).length c) (.ns .u8 (b)))] w0) :
   Calls Tryz.prog 119 #[.pointer (some ⟨B, 0, none⟩)] w0 fun e w' => ∃ (p' : Option Addr) (c' : Nat) (p3 : Option Addr) (c3 : Nat), e = .returned (.agg #[.int .i64 xb, .slice p3 xd.length c3]) ∧ MemOk X w0 [(1, .box B 148 [.slice p' (T).length c', .int .i64 0]), (2, .dat (.slice p' (T).length c') (.ns .u8 (T))), (3, .dat (.slice p3 xd.length c3) (.ns .u8 xd))] w' := by
 refine ent1 Tryz.func119 rfl Tryz.ntmps119 fun Az Hz => ?_
 have hbb2 := bytes_r (hbe ▸ hbb)
 have hb2 := len_r hbe hb
 refine zsr fun K0 hK0 => ?_
 refine plz (e_alloc Hz m0 20 fct4 rfl fun g1 Az w2 Hz m2 _ _ => ?_)
 refine znl (hK0 _ _ ?_)
 refine zsr fun K1 hK1 => ?_
 refine goCh Hz (.move rfl .nil) fun Az Hz => ?_
 refine plz (ecl Hz Tryz.func73 rfl (num_o _ _ _ _ _ _ xb (enc (xd.length : Int) ++ (xd ++ T)) hb hbb hbe (by omega) (m2.into [(1, 1), (2, 2)] (by decide) rfl)) ?_)
 rintro e w5 ⟨p5, c5, rfl, hm5⟩
 have mx5 := m2.back hm5 [(1, 1), (2, 2)] (by decide); clear hm5 m2
 have m5 := mx5.oz [1, 2, 20]
 refine ⟨_, rfl, ?_⟩; intro Az Hz
 refine goCh Hz (.move rfl .nil) fun Az Hz => ?_
 refine plz (ecl Hz Tryz.func140 rfl (rdlump_ok _ _ _ 32 _ _ _ xd T hb2 hbb2 rfl (by omega) (by omega) (m5.into [(1, 1), (2, 2)] (by decide) rfl)) ?_)
 rintro e w8 ⟨p8, c8, p38, c38, rfl, hm8⟩
 have mx8 := m5.back hm8 [(1, 1), (2, 2), (21, 3)] (by decide); clear hm8 m5
 have m8 := mx8.oz [1, 2, 21, 20]
 refine ⟨_, rfl, ?_⟩; intro Az Hz
 refine goCh Hz (.build rfl fct4 fl59mri rfl (by dsimp only [setL, List.set] <;> rfl) .nil) fun Az Hz => ?_
 refine plz (stw Hz m8 20 fct3 fun w11 m11 _ => ?_)
 refine znl (hK1 _ _ ?_)
 refine rtd (retC (fn := Tryz.f119) Hz m11 (i := 20) rfl rfl rfl U59 rfl fct3 ?_)
 exact ⟨_, _, _, _, rfl, m11.ren [(1, 1), (2, 2), (3, 21)] (by decide)⟩
theorem listT_o (X : Cx) (B : Nat) (b : List Int) (p : Option Addr) (c : Nat) (w0 : World) (l : List (Int × List Int)) (T : List Int) (hb : b.length ≤ 1000000) (hbb : BytesL b) (hbe : b = enc (l.length : Int) ++ (itemsE l ++ T)) (hl : l.length ≤ 1000) (hlb : ∀ e ∈ l, (0 ≤ e.1 ∧ e.1 ≤ 255) ∧ e.2.length ≤ 32) (m0 : MemOk X w0 [(1, .box B 148 [.slice p (b).length c, .int .i64 0]), (2, .dat (.slice p (b).length c) (.ns .u8 (b)))] w0) :
   Calls Tryz.prog 118 #[.pointer (some ⟨B, 0, none⟩), .func (.func 119) #[] #[]] w0 fun e w' => ∃ (p' : Option Addr) (c' : Nat) (p3 : Option Addr) (c3 : Nat), e = .returned (.slice p3 (l.map itD).length c3) ∧ MemOk X w0 [(1, .box B 148 [.slice p' (T).length c', .int .i64 0]), (2, .dat (.slice p' (T).length c') (.ns .u8 (T))), (3, .dat (.slice p3 (l.map itD).length c3) (.l 2 (l.map itD)))] w' := by
 refine ent2 Tryz.func118 rfl Tryz.ntmps118 fun Az Hz => ?_
 have hlT := bytes_r (hbe ▸ hbb)
 have hlL := len_r hbe hb
 refine regS Hz (.assign rfl .nil) fun Az Hz => ?_
 refine regS Hz (.assign rfl .nil) fun Az Hz => ?_
 refine wsk fun K0 hK0 => ?_
 refine zsr fun K1 hK1 => ?_
 refine goCh Hz (.move rfl .nil) fun Az Hz => ?_
 refine plz (ecl Hz Tryz.func60 rfl (pnum_ok _ _ _ 1099511627776 _ _ _ (l.length : Int) (itemsE (l) ++ T) hb hbb hbe (by omega) (by omega) (m0.into [(1, 1), (2, 2)] (by decide) rfl)) ?_)
 rintro e w5 ⟨p5, c5, rfl, hm5⟩
 have mx5 := m0.back hm5 [(1, 1), (2, 2)] (by decide); clear hm5 m0
 have m5 := mx5.oz [1, 2]
 refine ⟨_, rfl, ?_⟩; intro Az Hz
 refine gz hK1 Hz (.move rfl .nil) fun Az Hz => ?_
 refine wp_block ?_
 refine wp_loop_ghost (fun g a w => ∃ (k : Nat) (p1 : Option Addr) (c1 : Nat) (p3 : Option Addr) (c3 : Nat), k ≤ l.length ∧ g = l.length - k ∧ (itemsE (l.drop k) ++ T).length ≤ 1000000 ∧ BytesL (itemsE (l.drop k) ++ T) ∧ Has 23 [(0, .pointer (some ⟨B, 0, none⟩)), (1, .func (.func 119) #[] #[]), (5, .slice p3 ((l.take k).map itD).length c3), (8, .int .u64 (l.length : Nat)), (9, .int .u64 (k : Int))] a ∧ MemOk X w0 [(1, .box B 148 [.slice p1 (itemsE (l.drop k) ++ T).length c1, .int .i64 0]), (2, .dat (.slice p1 (itemsE (l.drop k) ++ T).length c1) (.ns .u8 (itemsE (l.drop k) ++ T))), (7, .row (.slice p3 ((l.take k).map itD).length c3) 59 2 ((l.take k).map itD))] w) (l.length) ?_ ?_
 · have mz := m5.nilR 7 59 2
   exact ⟨0, _, _, _, _, Nat.zero_le _, rfl, by rw [List.drop_zero]; exact hlL, by rw [List.drop_zero]; exact hlT, Hz.only [0, 1, 5, 8, 9], mz.ren [(1, 1), (2, 2), (7, 7)] (by decide)⟩
 clear Hz m5
 rintro g Az w8 ⟨k, p1, c1, p3, c3, hkl, hg, hb1, hbb1, Hz, m8⟩
 refine regS Hz (.lss rfl rfl .nil) fun Az Hz => ?_
 refine wsk fun K2 hK2 => ?_
 refine bc Hz 10 ?_ ?_
 ·
  intro hb10 Hz; try simp only [QQ, Qax] at hb10
  have hk : k < l.length := by omega
  obtain ⟨⟨xb, xd⟩, hes⟩ : ∃ e, l[k]? = some e := ⟨_, List.getElem?_eq_getElem hk⟩
  have hx := hlb _ (List.mem_of_getElem? hes)
  have hb2 : (itemsE (l.drop (k + 1)) ++ T).length ≤ 1000000 := by have h9 := hb1; rw [itemsE_drop hes, List.append_assoc, List.length_append] at h9; omega
  have hbb2 : BytesL (itemsE (l.drop (k + 1)) ++ T) := bytes_r (by have h9 := hbb1; rw [itemsE_drop hes, List.append_assoc] at h9; exact h9)
  refine wct Hz ?_
  refine zss (hK2 _ _ ?_)
  refine wsk fun K3 hK3 => ?_
  refine wp_block ?_
  refine zsr fun K4 hK4 => ?_
  refine goCh Hz (.move rfl <| .move rfl .nil) fun Az Hz => ?_
  refine plz (e_callV Hz rfl Tryz.func119 rfl rfl rfl rfl (readItem_o _ _ _ _ _ _ xb xd (itemsE (l.drop (k + 1)) ++ T) hb1 hbb1 (by rw [itemsE_drop hes]; simp only [itemE, List.append_assoc]) hx.1 hx.2 (m8.into [(1, 1), (2, 2)] (by decide) rfl)) ?_)
  rintro e w15 ⟨p15, c15, p315, c315, rfl, hm15⟩
  have mx15 := m8.back hm15 [(1, 1), (2, 2), (100, 3)] (by decide); clear hm15 m8
  have m15 := mx15.oz [1, 2, 100, 7]
  refine ⟨_, rfl, ?_⟩; intro Az Hz
  refine plz (e_alloc Hz m15 101 fct4 rfl fun g17 Az w18 Hz m18 _ _ => ?_)
  refine plz (stw Hz m18 101 fct3 fun w19 m19 _ => ?_)
  refine znl (hK4 _ _ ?_)
  refine wsk fun K5 hK5 => ?_
  refine zsr fun K6 hK6 => ?_
  refine goCh Hz (.move rfl .nil) fun Az Hz => ?_
  refine plz (ecl Hz Tryz.func62 rfl (perr_x _ _ _ _ _ _ _ (m19.into [(1, 1), (2, 2)] (by decide) rfl)) ?_)
  rintro e w22 ⟨rfl, hm22⟩
  have mx22 := m19.back hm22 [(1, 1), (2, 2)] (by decide); clear hm22 m19
  have m22 := mx22.oz [1, 2, 7, 100, 101]
  refine ⟨_, rfl, ?_⟩; intro Az Hz
  refine gz hK6 Hz (.neq rfl rfl .nil) fun Az Hz => ?_
  refine bc Hz 16 ?_ ?_
  · intro hb _; exact absurd hb (by simp)
  clear Hz; intro _ Hz
  refine wcf Hz ?_
  refine zss (hK5 _ _ ?_)
  replace Hz := Hz.oz [0, 1, 5, 8, 9, 6]
  refine wp_region_lit ?_
  refine goCh Hz (.move rfl <| .loadBR m22 (i := 101) rfl rfl U59 rfl fct3 (by simp) (by dsimp only [List.drop, List.take] <;> rfl) .nil) fun Az Hz => ?_
  refine plz (e_litR Hz m22 102 (mm := 2) rfl (.cons rfl rfl (.cons (.v _) (.cons (m22.rd (i := 100) rfl) .nil)) .nil) U36 fct5 rfl rfl rfl rfl rfl fun g29 Az w30 Hz m30 => ?_)
  have m32 := m30.freezeR 102 rfl
  refine plz (e_appR Hz m32 7 rfl rfl rfl (m32.rd (i := 102) rfl) U36 fct5 rfl rfl (by decide) (by simp; omega) rfl fun p31 c31 Az w33 Hz m33 => ?_)
  refine gz hK3 Hz (.assign rfl .nil) fun Az Hz => ?_
  refine wp_region_lit ?_
  refine goCh Hz (.add rfl rfl (r := ((k + 1 : Nat) : Int)) (by rw [IntWalk.u64_in _ (by omega)]; omega) <| .move rfl .nil) fun Az Hz => ?_
  refine wpList_nil ?_
  show ∃ n', n' < _ ∧ _
  have hE : (l.take k).map itD ++ [[.v (.int .i64 xb), .ns .u8 xd]] = (l.take (k + 1)).map itD := (itD_snoc hes).symm
  rw [hE] at m33 Hz
  exact ⟨l.length - (k + 1), by omega, k + 1, _, _, _, _, by omega, rfl, hb2, hbb2, Hz.only [0, 1, 5, 8, 9], m33.ren [(1, 1), (2, 2), (7, 7)] (by decide)⟩
 intro hb10 Hz; try simp only [QQ, Qax] at hb10
 revert Hz
 obtain rfl : k = l.length := by omega
 intro Hz
 rw [List.drop_length, show itemsE [] ++ T = T from rfl, List.take_length] at m8
 rw [List.take_length] at Hz
 refine wcf Hz ?_
 refine wp_exit ?_
 refine hK0 _ _ ?_
 refine regS Hz (.move rfl <| .assign rfl .nil) fun Az Hz => ?_
 refine rt1 Hz ?_
 have m39 := m8.freezeR 7 rfl
 exact ⟨_, _, _, _, rfl, m39.ren [(1, 1), (2, 2), (3, 7)] (by decide)⟩
theorem readItems_o (X : Cx) (B : Nat) (b : List Int) (p : Option Addr) (c : Nat) (w0 : World) (l : List (Int × List Int)) (T : List Int) (hb : b.length ≤ 1000000) (hbb : BytesL b) (hbe : b = enc (l.length : Int) ++ (itemsE l ++ T)) (hl : l.length ≤ 1000) (hlb : ∀ e ∈ l, (0 ≤ e.1 ∧ e.1 ≤ 255) ∧ e.2.length ≤ 32) (m0 : MemOk X w0 [(1, .box B 148 [.slice p (b).length c, .int .i64 0]), (2, .dat (.slice p (b).length c) (.ns .u8 (b)))] w0) :
   Calls Tryz.prog 76 #[.pointer (some ⟨B, 0, none⟩)] w0 fun e w' => ∃ (p' : Option Addr) (c' : Nat) (p3 : Option Addr) (c3 : Nat), e = .returned (.slice p3 (l.map itD).length c3) ∧ MemOk X w0 [(1, .box B 148 [.slice p' (T).length c', .int .i64 0]), (2, .dat (.slice p' (T).length c') (.ns .u8 (T))), (3, .dat (.slice p3 (l.map itD).length c3) (.l 2 (l.map itD)))] w' := by
 refine ent1 Tryz.func76 rfl Tryz.ntmps76 fun Az Hz => ?_
 refine regS Hz (.assign rfl .nil) fun Az Hz => ?_
 refine zsr fun K0 hK0 => ?_
 refine goCh Hz (.move rfl .nil) fun Az Hz => ?_
 refine plz (ecl Hz Tryz.func118 rfl (listT_o _ _ _ _ _ _ l T hb hbb hbe hl hlb (m0.into [(1, 1), (2, 2)] (by decide) rfl)) ?_)
 rintro e w4 ⟨p4, c4, p34, c34, rfl, hm4⟩
 have mx4 := m0.back hm4 [(1, 1), (2, 2), (20, 3)] (by decide); clear hm4 m0
 have m4 := mx4.oz [1, 2, 20]
 refine ⟨_, rfl, ?_⟩; intro Az Hz
 refine gz hK0 Hz (.assign rfl .nil) fun Az Hz => ?_
 refine rt1 Hz ?_
 exact ⟨_, _, _, _, rfl, m4.ren [(1, 1), (2, 2), (3, 20)] (by decide)⟩
end
section
theorem fl32sV : flatS Tryz.prog 32 [.slice none 0 0] = true := by kernel_rfl
set_option maxRecDepth 100000
set_option maxHeartbeats 4000000
theorem scmd_no (vo bl sz pe to ne fl : Int) (hi : Bool) (pp pn pw : Option Addr) (np cp nn9 cn9 nw cw : Nat) (wh xa xb xc : Int) (w0 : World) (hvo : 0 ≤ vo ∧ vo ≤ 255) (hw9 : 0 ≤ wh ∧ wh ≤ 255) (ha9 : 0 ≤ xa ∧ xa ≤ 255) (hb9 : 0 ≤ xb ∧ xb ≤ 255) (hc9 : 0 ≤ xc ∧ xc ≤ 255) :
   Calls Tryz.prog 41 #[.agg #[.int .i64 vo, .int .i64 bl, .int .i64 sz, .int .i64 pe, .slice pp np cp, .int .i64 to, .int .i64 ne, .bool hi, .int .i64 fl, .slice pn nn9 cn9, .slice pw nw cw], .bool false, .int .u8 wh, .int .u8 xa, .int .u8 xb, .int .u8 xc] w0 fun e w' => ∃ (vo2 bl2 sz2 pe2 to2 : Int) (place : List Int) (pp : Option Addr) (cp : Nat), e = .returned (.agg #[.int .i64 1, .int .i64 vo2, .int .i64 bl2, .int .i64 sz2, .int .i64 pe2, .slice pp place.length cp, .int .i64 to2, .int .i64 0, .int .i64 0, .slice none 0 0]) ∧ place.length ≤ 9 ∧ Rd (New w0) w' (.slice pp place.length cp) (.ns .i64 place) ∧ Below w0.heap.size w0 w' := by
 refine ent6 Tryz.func41 rfl Tryz.ntmps41 fun Az Hz => ?_
 have m0 := MemOk.start (fun _ => False) w0
 obtain ⟨tq, htq, htq0, htq3⟩ : ∃ x : Int, (xc / 4).tmod 3 = x ∧ 0 ≤ x ∧ x ≤ 2 := ⟨_, rfl, by rw [Int.tmod_eq_emod_of_nonneg (by omega)]; omega, by rw [Int.tmod_eq_emod_of_nonneg (by omega)]; omega⟩
 refine zsr fun K0 hK0 => ?_
 refine plz (e_box Hz m0 20 (cs := [_, _, _, _, _, _, _, _, _, _, _]) rfl rfl rfl fun g1 Az w2 Hz m2 _ _ => ?_)
 refine plz (e_alloc Hz m2 21 fct24 rfl fun g3 Az w4 Hz m4 _ _ => ?_)
 refine znl (hK0 _ _ ?_)
 refine wsk fun K1 hK1 => ?_
 refine regS Hz (.move rfl <| .not rfl .nil) fun Az Hz => ?_
 refine wct Hz ?_
 refine regS Hz (.assign rfl .nil) fun Az Hz => ?_
 refine wsk fun K2 hK2 => ?_
 refine regS Hz (.move rfl <| .rem rfl rfl (by decide) rfl <| .eql rfl rfl .nil) fun Az Hz => ?_
 refine bc Hz 19 ?_ ?_
 ·
  intro hb11 Hz; try simp only [QQ, Qax] at hb11
  refine wct Hz ?_
  replace Hz := Hz.oz [2, 3, 4, 5, 6, 12, 13]
  refine wp_region_lit ?_
  refine gz hK2 Hz (.move rfl <| .quo rfl rfl (by decide) (r := xc / 4) (by rw [Int.tdiv_eq_ediv_of_nonneg (by omega)]; exact IntWalk.u8_in _ (by omega)) <| .rem rfl rfl (by decide) (r := tq) htq <| .conv rfl U5 U3 (r := tq) (IntWalk.i64_in _ (by omega)) <| .add rfl rfl (IntWalk.i64_in _ (by omega)) <| .assign rfl <| .nil) fun Az Hz => ?_
  refine zsr fun K3 hK3 => ?_
  refine goCh Hz (.fa 0 rfl U51 <| .lb m4 20 U3 rfl rfl rfl <| .conv rfl U3 U5 (r := vo) (IntWalk.u8_in _ (by omega)) <| .move rfl <| .move rfl <| .move rfl <| .move rfl .nil) fun Az Hz => ?_
  refine plz (ecl Hz Tryz.func42 rfl (create_any vo xa xb xc _ _ hvo ha9 hb9 hc9) ?_)
  rintro e w33 ⟨bl2, sz2, pe2, place, p33, c33, rfl, -, -, -, -, -, -, -, hpl9, hd33, hb33⟩
  have m34 := m4.callF 22 rfl hb33 hd33
  refine ⟨_, rfl, ?_⟩; intro Az Hz
  refine plz (stw Hz m34 21 fct20 fun w36 m36 _ => ?_)
  refine znl (hK3 _ _ ?_)
  refine rtd (retC (fn := Tryz.f41) Hz m36 (i := 21) rfl rfl rfl U38 rfl fct20 ?_)
  exact ⟨_, _, _, _, _, place, _, _, rfl, hpl9, m36.outF (i := 22) rfl, m36.below⟩
 intro hb11 Hz; try simp only [QQ, Qax] at hb11
 refine wcf Hz ?_
 refine zss (hK2 _ _ ?_)
 replace Hz := Hz.oz [2, 3, 4, 5, 6, 12, 13]
 refine zsr fun K4 hK4 => ?_
 refine goCh Hz (.fa 0 rfl U51 <| .lb m4 20 U3 rfl rfl rfl <| .conv rfl U3 U5 (r := vo) (IntWalk.u8_in _ (by omega)) <| .move rfl <| .move rfl <| .move rfl <| .move rfl .nil) fun Az Hz => ?_
 refine plz (ecl Hz Tryz.func42 rfl (create_any vo xa xb xc _ _ hvo ha9 hb9 hc9) ?_)
 rintro e w52 ⟨bl2, sz2, pe2, place, p52, c52, rfl, -, -, -, -, -, -, -, hpl9, hd52, hb52⟩
 have m53 := m4.callF 22 rfl hb52 hd52
 refine ⟨_, rfl, ?_⟩; intro Az Hz
 refine plz (stw Hz m53 21 fct20 fun w55 m55 _ => ?_)
 refine znl (hK4 _ _ ?_)
 refine rtd (retC (fn := Tryz.f41) Hz m55 (i := 21) rfl rfl rfl U38 rfl fct20 ?_)
 exact ⟨_, _, _, _, _, place, _, _, rfl, hpl9, m55.outF (i := 22) rfl, m55.below⟩
theorem scmd_q (n : Nat) (x : VolV) (there : Bool) (p1 p2 p3 : Option Addr) (d1 d2 d3 : Nat) (wh xa xb xc : Int) (w0 : World) (hx : there = true → VolS n x) (hx0 : there = false → x = volZ) (hn : n ≤ 800000) (hw9 : 0 ≤ wh ∧ wh ≤ 255) (ha9 : 0 ≤ xa ∧ xa ≤ 255) (hb9 : 0 ≤ xb ∧ xb ≤ 255) (hc9 : 0 ≤ xc ∧ xc ≤ 255) :
   Calls Tryz.prog 41 #[.agg #[.int .i64 x.vo, .int .i64 x.bl, .int .i64 x.sz, .int .i64 x.pe, .slice p1 x.place.length d1, .int .i64 x.to, .int .i64 x.ne, .bool x.hi, .int .i64 x.fl, .slice p2 x.pins.length d2, .slice p3 (x.ws.map wrD).length d3], .bool there, .int .u8 wh, .int .u8 xa, .int .u8 xb, .int .u8 xc] w0 fun e w' => ∃ (kd vo2 bl2 sz2 pe2 to2 at0 ix : Int) (place : List Int) (it : List (Int × List Int)) (pp : Option Addr) (cp : Nat) (pi : Option Addr) (ci : Nat), e = .returned (.agg #[.int .i64 kd, .int .i64 vo2, .int .i64 bl2, .int .i64 sz2, .int .i64 pe2, .slice pp place.length cp, .int .i64 to2, .int .i64 at0, .int .i64 ix, .slice pi it.length ci]) ∧ place.length ≤ 9 ∧ it.length ≤ 8 ∧ ItsB it ∧ Rd (New w0) w' (.slice pp place.length cp) (.ns .i64 place) ∧ Rd (New w0) w' (.slice pi it.length ci) (.l 2 (it.map itD)) ∧ Below w0.heap.size w0 w' := by
 cases there
 · obtain rfl := hx0 rfl
   refine (scmd_no 0 0 0 0 0 0 0 false p1 p2 p3 0 d1 0 d2 0 d3 wh xa xb xc w0 (by omega) hw9 ha9 hb9 hc9).mono ?_
   rintro e w' ⟨vo2, bl2, sz2, pe2, to2, place, pp, cp, rfl, hp, hd, hb⟩
   exact ⟨1, vo2, bl2, sz2, pe2, to2, 0, 0, place, [], pp, cp, none, 0, rfl, hp, by simp, (fun e h => by cases h), hd, Rd.l0 none 0 2, hb⟩
 obtain ⟨h1, h2, h3, h4, -⟩ := hx rfl
 obtain ⟨vo, bl, sz, pe, place0, to, ne, hi, fl, pins, ws⟩ := x
 simp only at *
 obtain ⟨⟨a1, a2, a3, a4, a5, a6, a7, a8, a9, a10, a11⟩, b1, b2, b3⟩ := h1
 obtain ⟨z, rfl⟩ : ∃ z : Nat, sz = (z : Int) := ⟨sz.toNat, by omega⟩
 refine (scmd_any vo bl z pe to ne fl hi p1 p2 p3 place0.length d1 pins.length d2 (ws.map wrD).length d3 wh xa xb xc w0 (by omega) (by rw [List.length_map]; omega) (by omega) hw9 ha9 hb9 hc9).mono ?_
 rintro e w' ⟨kd, bl2, sz2, pe2, to2, at0, ix, vo2, it, pi, ci, dd, rfl, hkd, hit, hib, hd, hb⟩
 exact ⟨kd, vo2, bl2, sz2, pe2, to2, at0, ix, [], it, none, 0, pi, ci, rfl, by simp, hit, hib, Rd.nilN _ _ .i64 none, hd, hb⟩
theorem svol_any (l : List Int) (pl : Option Addr) (cl : Nat) (w0 : World) (h0 : Rd (fun _ => True) w0 (.slice pl l.length cl) (.ns .u8 l)) (hl : l.length ≤ 100000) (hlb : ∀ j, j < l.length → 0 ≤ l.getD j 0 ∧ l.getD j 0 ≤ 255) :
   Calls Tryz.prog 34 #[.slice pl l.length cl] w0 fun e w' => ∃ (x : VolV) (p1 p2 p3 : Option Addr) (d1 d2 d3 : Nat), e = .returned (.agg #[.int .i64 x.vo, .int .i64 x.bl, .int .i64 x.sz, .int .i64 x.pe, .slice p1 x.place.length d1, .int .i64 x.to, .int .i64 x.ne, .bool x.hi, .int .i64 x.fl, .slice p2 x.pins.length d2, .slice p3 (x.ws.map wrD).length d3]) ∧ VolS l.length x ∧ Rd (New w0) w' (.slice p1 x.place.length d1) (.ns .i64 x.place) ∧ Rd (New w0) w' (.slice p2 x.pins.length d2) (.ns .i64 x.pins) ∧ Rd (New w0) w' (.slice p3 (x.ws.map wrD).length d3) (.l 2 (x.ws.map wrD)) ∧ Below w0.heap.size w0 w' := by
 refine ent1 Tryz.func34 rfl Tryz.ntmps34 fun Az Hz => ?_
 have m0 := MemOk.start (fun _ => False) w0
 refine zsr fun K0 hK0 => ?_
 refine plz (e_alloc Hz m0 20 fct14 rfl fun g1 Az w2 Hz m2 _ _ => ?_)
 refine znl (hK0 _ _ ?_)
 refine zsr fun K1 hK1 => ?_
 refine goCh Hz (.build rfl fct25 fl32sV rfl (by dsimp only [setL, List.set] <;> rfl) .nil) fun Az Hz => ?_
 refine plz (e_box Hz m2 21 (cs := [_]) rfl rfl rfl fun g5 Az w6 Hz m6 _ _ => ?_)
 refine gz hK1 Hz (.assign rfl .nil) fun Az Hz => ?_
 refine wsk fun K2 hK2 => ?_
 refine regS Hz (.assign rfl .nil) fun Az Hz => ?_
 refine wp_block ?_
 refine wp_loop_ghost (fun g a w => ∃ (i k B2 B c : Nat) (L : List VolV) (p : Option Addr), i ≤ l.length ∧ k ≤ i ∧ g = l.length - i ∧ MacS k L ∧ Has 72 [(0, .slice pl l.length cl), (2, .pointer (some ⟨B2, 0, none⟩)), (3, .pointer (some ⟨B, 0, none⟩)), (4, .int .i64 i)] a ∧ MemOk (cn w0) w0 [(1, .box B 32 [.slice p (L.map volD).length c]), (2, .dat (.slice p (L.map volD).length c) (.l 11 (L.map volD))), (3, .box B2 51 [.int .i64 0, .int .i64 0, .int .i64 0, .int .i64 0, .slice none 0 0, .int .i64 0, .int .i64 0, .bool false, .int .i64 0, .slice none 0 0, .slice none 0 0])] w) (l.length) ?_ ?_
 · have mz := m6.dat 2 rfl (Rd.l0 none 0 11)
   exact ⟨0, 0, _, _, _, [], _, Nat.zero_le _, Nat.zero_le _, rfl, ⟨Nat.zero_le _, fun x h => by cases h⟩, Hz.only [0, 2, 3, 4], mz.ren [(1, 21), (2, 2), (3, 20)] (by decide)⟩
 clear Hz m6
 rintro g Az w9 ⟨i, k, B2, B, c, L, p, hil, hki, hg, hM, Hz, m9⟩
 refine wsk fun K3 hK3 => ?_
 refine regS Hz (.move rfl <| .inc (i + 3) <| .move rfl <| .len rfl U22 <| .lss rfl rfl .nil) fun Az Hz => ?_
 refine bc Hz 17 ?_ ?_
 ·
  intro hb15 Hz; try simp only [QQ, Qax] at hb15
  have hi9 : i + 3 < l.length := by omega
  refine wct Hz ?_
  refine zss (hK3 _ _ ?_)
  refine wsk fun K4 hK4 => ?_
  refine wp_block ?_
  refine zsr fun K5 hK5 => ?_
  refine goCh Hz (.move rfl .nil) fun Az Hz => ?_
  refine plz (ecl Hz Tryz.func19 rfl (rmVol _ _ L _ _ _ _ (by have := hM.1; omega) (m9.into [(1, 1), (2, 2)] (by decide) rfl)) ?_)
  rintro e w18 ⟨x, th, p118, p218, p318, d118, d218, d318, rfl, hx1, hx0, hm18⟩
  have mx18 := m9.back hm18 [(1, 1), (2, 2), (100, 3), (101, 4), (102, 5)] (by decide); clear hm18 m9
  have m18 := mx18.oz [1, 2, 100, 101, 102, 3]
  refine ⟨_, rfl, ?_⟩; intro Az Hz
  refine goCh Hz (.move rfl <| .extract rfl rfl <| .extract rfl rfl .nil) fun Az Hz => ?_
  refine plz (e_alloc Hz m18 103 fct14 rfl fun g23 Az w24 Hz m24 _ _ => ?_)
  refine plz (stw Hz m24 103 fct13 fun w25 m25 _ => ?_)
  refine gz hK5 Hz (.assign rfl .nil) fun Az Hz => ?_
  refine wsk fun K6 hK6 => ?_
  replace Hz := Hz.oz [0, 2, 3, 4, 5, 6]
  obtain ⟨gx29, ox29, hp29, hl29, hrg29⟩ := h0.extN (i) (by omega)
  revert Hz
  cases hp29
  intro Hz
  obtain ⟨gx31, ox31, hp31, hl31, hrg31⟩ := h0.extN (i + 1) (by omega)
  revert Hz
  cases hp31
  intro Hz
  obtain ⟨gx33, ox33, hp33, hl33, hrg33⟩ := h0.extN (i + 2) (by omega)
  revert Hz
  cases hp33
  intro Hz
  obtain ⟨gx35, ox35, hp35, hl35, hrg35⟩ := h0.extN (i + 3) (by omega)
  revert Hz
  cases hp35
  intro Hz
  have m36 := m25.oz [1, 2, 3, 100, 101, 102, 103]
  refine region_p 21 (B := [(1, _), (2, _), (3, _), (100, _), (101, _), (102, _), (103, _)]) (m36.to ⟨il, il, il, il, il, il, il, trivial⟩) m36 (by kernel_rfl) (fun w37 hP37 m37 => ?_); clear m36
  refine goR hP37 [0, 1, 2, 3, 4, 5, 6, 7, 8, 9, 10, 11, 12, 13, 14, 15, 16, 17, 18, 19, 20] [0, 5, 10, 15, 20] 21 0 2097151 Hz (m37.to ⟨il, il, il, il, il, il, il, trivial⟩) (.loadBR hh (i := 103) rfl rfl U51 rfl fct13 (by simp) (by dsimp only [List.drop, List.take] <;> rfl) <| .move rfl <| .move rfl <| .move rfl <| .p (fun _ _ h_ => y_idx h_ rfl rfl U22 fct18 (i) rfl (by omega)) <| .loadAt1 (fun _ h_ => (hrg29 h_ rfl)) (q := 0) rfl rfl rfl U5 rfl <| .move rfl <| .move rfl <| .add rfl rfl (r := ((i + 1 : Nat) : Int)) (by rw [IntWalk.i64_in _ (by omega)]; omega) <| .p (fun _ _ h_ => y_idx h_ rfl rfl U22 fct18 (i + 1) rfl (by omega)) <| .loadAt1 (fun _ h_ => (hrg31 h_ rfl)) (q := 0) rfl rfl rfl U5 rfl <| .move rfl <| .move rfl <| .add rfl rfl (r := ((i + 2 : Nat) : Int)) (by rw [IntWalk.i64_in _ (by omega)]; omega) <| .p (fun _ _ h_ => y_idx h_ rfl rfl U22 fct18 (i + 2) rfl (by omega)) <| .loadAt1 (fun _ h_ => (hrg33 h_ rfl)) (q := 0) rfl rfl rfl U5 rfl <| .move rfl <| .move rfl <| .add rfl rfl (r := ((i + 3 : Nat) : Int)) (by rw [IntWalk.i64_in _ (by omega)]; omega) <| .p (fun _ _ h_ => y_idx h_ rfl rfl U22 fct18 (i + 3) rfl (by omega)) <| .loadAt1 (fun _ h_ => (hrg35 h_ rfl)) (q := 0) rfl rfl rfl U5 rfl .nil) fun Az Hz => ?_
  refine se 21 ?_
  refine ecl Hz Tryz.func41 rfl (scmd_q k x th _ _ _ _ _ _ _ _ _ _ _ (fun h => hM.2 _ (hx1 h)) hx0 (by omega) (hlb _ (by omega)) (hlb _ (by omega)) (hlb _ (by omega)) (hlb _ (by omega))) ?_
  rintro e w59 ⟨kd, vo2, bl2, sz2, pe2, to2, at0, ix, place, it, pp59, cp59, pi59, ci59, rfl, hpl9, hit8, hitb, hd59, he59, hb59⟩
  have m60 := m37.callF2 104 105 rfl rfl hb59 hd59 he59
  refine ⟨_, rfl, ?_⟩; intro Az Hz
  refine se 22 ?_
  refine ecl Hz Tryz.func12 rfl (rputCmd _ _ _ _ _ _ _ _ place it _ _ _ _ _ _ ((m60.rd (i := 104) rfl).any) ((m60.rd (i := 105) rfl).any) (by omega) (by omega) (fun e he => (hitb e he).2)) ?_
  rintro e w62 ⟨bs, p62, c62, e9, rfl, hbs, hbb, hd62, hb62⟩
  have m63 := m60.callF 106 rfl hb62 hd62
  refine ⟨_, rfl, ?_⟩; intro Az Hz
  refine goB hP37 [23, 24, 25, 26, 27] 5 8388607 268435455 Hz (.move rfl <| .extract rfl rfl <| .extract rfl rfl <| .assign rfl <| .assign rfl .nil) fun Az Hz => ?_
  refine wpAnyE_done (by kernel_rfl) ?_ _
  refine hK6 _ _ ?_
  replace Hz := Hz.oz [0, 2, 3, 4, 7]
  refine wp_region_lit ?_
  refine goCh Hz (.move rfl <| .move rfl .nil) fun Az Hz => ?_
  refine plz (ecl Hz Tryz.func15 rfl (rmApply _ _ k L _ _ bs _ _ _ hM (by omega) (by omega) hbb (m63.into [(1, 1), (2, 2), (3, 106)] (by decide) rfl)) ?_)
  rintro e w73 ⟨e1, rl1, rf1, rn1, L2, p73, c73, rfl, hM2, hm73⟩
  have mx73 := m63.back hm73 [(1, 1), (2, 2)] (by decide); clear hm73 m63
  have m73 := mx73.oz [1, 2, 3, 100, 101, 102, 103, 104, 105]
  refine ⟨_, rfl, ?_⟩; intro Az Hz
  refine znl (hK4 _ _ ?_)
  refine wp_region_lit ?_
  refine goCh Hz (.move rfl <| .inc (i + 4) <| .assign rfl .nil) fun Az Hz => ?_
  refine wpList_nil ?_
  show ∃ n', n' < _ ∧ _
  exact ⟨l.length - (i + 4), by omega, i + 4, k + 1, _, _, _, L2, _, by omega, by omega, rfl, hM2, Hz.only [0, 2, 3, 4], m73.ren [(1, 1), (2, 2), (3, 3)] (by decide)⟩
 intro hb15 Hz; try simp only [QQ, Qax] at hb15
 refine wcf Hz ?_
 refine wp_exit ?_
 refine hK2 _ _ ?_
 refine wsk fun K7 hK7 => ?_
 refine regS Hz (.move rfl <| .nilCheck rfl <| .fa 0 rfl U32 <| .lb m9 1 U30 rfl rfl rfl <| .len rfl U30 <| .eql rfl rfl .nil) fun Az Hz => ?_
 refine bc Hz 59 ?_ ?_
 ·
  intro hb84 Hz; try simp only [QQ, Qax] at hb84
  refine wct Hz ?_
  replace Hz := Hz.oz [0, 2, 3, 4]
  refine zsr fun K8 hK8 => ?_
  refine plz (ecl Hz Tryz.func42 rfl (create_any 0 3 1 1 0 _ (by omega) (by omega) (by omega) (by omega)) ?_)
  rintro e w86 ⟨bl2, sz2, pe2, place, p86, c86, rfl, hbl1, hbl9, hsz1, hsz3, hpe1, hpeb, hplc, hpl9, hd86, hb86⟩
  have m87 := m9.callF 100 rfl hb86 hd86
  refine ⟨_, rfl, ?_⟩; intro Az Hz
  have hN : NewOk (Int.tmod 0 3) bl2 sz2 pe2 0 place := ⟨by decide, by decide, by omega, by omega, by omega, by omega, by omega, by omega, hplc, by omega, by omega⟩
  refine plz (ecl Hz Tryz.func50 rfl (rnew_yes _ _ bl2 sz2 pe2 0 _ _ place _ _ _ _ _ _ ((m87.rd (i := 100) rfl).any) (by omega) hN) ?_)
  rintro e w89 ⟨p89, c89, rfl, hd89, hb89⟩
  have m90 := m87.callF 101 rfl hb89 hd89
  refine ⟨_, rfl, ?_⟩; intro Az Hz
  refine goCh Hz (.move rfl <| .extract rfl rfl <| .extract rfl rfl .nil) fun Az Hz => ?_
  refine plz (e_alloc Hz m90 102 fct14 rfl fun g95 Az w96 Hz m96 _ _ => ?_)
  refine plz (stw Hz m96 102 fct13 fun w97 m97 _ => ?_)
  refine gz hK8 Hz (.assign rfl .nil) fun Az Hz => ?_
  replace Hz := Hz.oz [0, 2, 3, 4, 9]
  refine zsr fun K9 hK9 => ?_
  refine goCh Hz (.loadBR m97 (i := 102) rfl rfl U51 rfl fct13 (by simp) (by dsimp only [List.drop, List.take] <;> rfl) .nil) fun Az Hz => ?_
  refine plz (stw Hz m97 3 fct13 fun w102 m102 _ => ?_)
  refine znl (hK9 _ _ ?_)
  refine rtd (retC (fn := Tryz.f34) Hz m102 (i := 3) rfl rfl rfl U51 rfl fct13 ?_)
  exact ⟨newV (Int.tmod 0 3) bl2 sz2 pe2 0 place, _, _, _, _, _, _, rfl, newV_s hN, m102.outF (i := 101) rfl, Rd.nilN _ _ .i64 none, Rd.l0 none 0 2, m102.below⟩
 intro hb84 Hz; try simp only [QQ, Qax] at hb84
 have hL0 : 0 < L.length := by simp at hb84; exact List.length_pos_iff.2 hb84
 obtain ⟨x, hes⟩ : ∃ x, L[0]? = some x := ⟨_, List.getElem?_eq_getElem hL0⟩
 refine wcf Hz ?_
 refine zss (hK7 _ _ ?_)
 replace Hz := Hz.oz [0, 2, 3, 4]
 refine zsr fun K10 hK10 => ?_
 refine goCh Hz (.move rfl <| .nilCheck rfl <| .fa 0 rfl U32 <| .lb m9 1 U30 rfl rfl rfl .nil) fun Az Hz => ?_
 obtain ⟨b113, o113, vs113, hp113, hR113, ho113, m113⟩ := m9.openR (i := 2) rfl (0) (r := [.v (.int .i64 x.vo), .v (.int .i64 x.bl), .v (.int .i64 x.sz), .v (.int .i64 x.pe), .ns .i64 x.place, .v (.int .i64 x.to), .v (.int .i64 x.ne), .v (.bool x.hi), .v (.int .i64 x.fl), .ns .i64 x.pins, .l 2 (x.ws.map wrD)]) (volD_get hes) 100 rfl
 revert Hz
 cases hp113; clear m9 ho113
 rcases hR113 with _ | ⟨hd113_0, _ | ⟨hd113_1, _ | ⟨hd113_2, _ | ⟨hd113_3, _ | ⟨hd113_4, _ | ⟨hd113_5, _ | ⟨hd113_6, _ | ⟨hd113_7, _ | ⟨hd113_8, _ | ⟨hd113_9, _ | ⟨hd113_10, _ | _⟩⟩⟩⟩⟩⟩⟩⟩⟩⟩⟩
 obtain rfl := hd113_0.v_out
 clear hd113_0
 obtain rfl := hd113_1.v_out
 clear hd113_1
 obtain rfl := hd113_2.v_out
 clear hd113_2
 obtain rfl := hd113_3.v_out
 clear hd113_3
 obtain ⟨p114, c114, hv114, hc114⟩ := hd113_4.ns_shape; subst hv114
 intro Hz
 have m114 := m113.dat 101 rfl (hd113_4.cast (fun _ h => (free_add rfl h))); clear m113 hd113_4
 revert Hz
 obtain rfl := hd113_5.v_out
 clear hd113_5
 obtain rfl := hd113_6.v_out
 clear hd113_6
 obtain rfl := hd113_7.v_out
 clear hd113_7
 obtain rfl := hd113_8.v_out
 clear hd113_8
 obtain ⟨p115, c115, hv115, hc115⟩ := hd113_9.ns_shape; subst hv115
 intro Hz
 have m115 := m114.dat 102 rfl (hd113_9.cast (fun _ h => (free_add rfl (free_add rfl h)))); clear m114 hd113_9
 revert Hz
 obtain ⟨p116, c116, hv116, hc116⟩ := hd113_10.l_shape; subst hv116
 intro Hz
 have m116 := m115.dat 103 rfl (hd113_10.cast (fun _ h => (free_add rfl (free_add rfl (free_add rfl h))))); clear m115 hd113_10
 refine goCh Hz (.c rfl (fun _ h_ => y_idx h_ rfl rfl U30 fct13 (0) rfl (by simpa using hL0)) <| .loadCR m116 (i := 100) rfl rfl U51 rfl fct13 .nil) fun Az Hz => ?_
 refine plz (stw Hz m116 3 fct13 fun w119 m119 _ => ?_)
 refine znl (hK10 _ _ ?_)
 refine rtd (retC (fn := Tryz.f34) Hz m119 (i := 3) rfl rfl rfl U51 rfl fct13 ?_)
 exact ⟨x, _, _, _, _, _, _, rfl, (hM.2 _ (List.mem_of_getElem? hes)).up (by omega), m119.outF (i := 101) rfl, m119.outF (i := 102) rfl, m119.outF (i := 103) rfl, m119.below⟩
end
section
def WrsB (ws : List (Int × List (Int × List Int))) : Prop := ∀ e ∈ ws, e.2.length ≤ 8 ∧ ItsB e.2
theorem WrsB.ok {ws : List (Int × List (Int × List Int))} (h : WrsB ws) : WrsOk ws := fun e he => ⟨Nat.le_trans (h e he).1 (by decide), (h e he).2.ok⟩
set_option maxRecDepth 100000
set_option maxHeartbeats 4000000
end
section
set_option maxRecDepth 100000
set_option maxHeartbeats 4000000
end
section
theorem VolS.sm {n : Nat} {x : VolV} (h : VolS n x) : x.place.length ≤ 256 ∧ x.pins.length ≤ n ∧ x.ws.length ≤ n ∧ ∀ e ∈ x.ws, e.2.length ≤ 8 := by
 obtain ⟨h1, h2, h3, h4, -⟩ := h
 refine ⟨?_, h3, h4, h1.its.2⟩
 obtain ⟨⟨a1, a2, a3, a4, a5, a6, a7, a8, a9, a10, a11⟩, b1, b2, b3⟩ := h1
 have h9 := a9.2
 have : (x.bl + x.pe - 1) / x.pe ≤ x.bl + x.pe - 1 := Int.ediv_le_self _ (by omega)
 have h8 : (x.bl + x.pe - 1) / x.pe ≤ x.bl := by
   have := Int.ediv_lt_of_lt_mul (a := x.bl + x.pe - 1) (b := x.bl + 1) (c := x.pe) (by omega) (by
     have : x.bl * 1 ≤ x.bl * x.pe := Int.mul_le_mul_of_nonneg_left (by omega) (by omega)
     rw [Int.add_mul]; omega)
   omega
 omega
theorem pins_eq {P L : List Int} (h : P.Perm L) (h1 : P.Pairwise (· ≤ ·)) (h2 : L.Pairwise (· ≤ ·)) : P = L := h.eq_of_pairwise (le := (· ≤ ·)) (fun a b _ _ h1 h2 => by omega) h1 h2
def pinT (fl n : Int) (z : Int) : Int := fl + z % (n - fl + 1)
abbrev stZ (bl sz : Int) : List (List Int) := List.replicate bl.toNat (List.replicate sz.toNat 0)
abbrev stL (bl sz : Int) (ws : List PWr) (t : Nat) : List (List Int) := (ws.take t).foldl stW (stZ bl sz)
def wantF (i : Nat) (d : List Int) (x : PI) : List Int := if x.1 = (i : Int) then x.2 else d
theorem doR_put_yes {bl sz to ne fl at0 ix : Int} {hi : Bool} {pins : List Int} {ws : List PWr} {it : List PI} (h : hi = false) (hI : ItemsR bl sz it) : doR bl sz to ne fl hi pins ws 2 at0 ix it = (ne, hi, fl, ws ++ [((ws.length : Int) + 1, it)], 0) := by
 subst h; simp [doR, putR, wrR, hI]
set_option maxRecDepth 100000
set_option maxHeartbeats 4000000
end
section
noncomputable def doV (x : VolV) (c : Cm) : VolV × Int :=
 if c.kd = 4 then ({ x with pins := (pinR x.hi x.fl c.at0 x.ws.length x.pins).1 }, (pinR x.hi x.fl c.at0 x.ws.length x.pins).2)
 else if c.kd = 5 then ({ x with pins := (unpinR x.hi c.at0 x.pins).1 }, (unpinR x.hi c.at0 x.pins).2)
 else ({ x with ne := (doR x.bl x.sz x.to x.ne x.fl x.hi x.pins x.ws c.kd c.at0 c.ix c.its).1, hi := (doR x.bl x.sz x.to x.ne x.fl x.hi x.pins x.ws c.kd c.at0 c.ix c.its).2.1, fl := (doR x.bl x.sz x.to x.ne x.fl x.hi x.pins x.ws c.kd c.at0 c.ix c.its).2.2.1, ws := (doR x.bl x.sz x.to x.ne x.fl x.hi x.pins x.ws c.kd c.at0 c.ix c.its).2.2.2.1 }, (doR x.bl x.sz x.to x.ne x.fl x.hi x.pins x.ws c.kd c.at0 c.ix c.its).2.2.2.2)
def repV (y : VolV) (e : Int) : Int × Int × Int := if e = 0 then ((y.ws.length : Int), y.fl, y.ne) else (0, 0, 0)
theorem repV_of {y : VolV} {e rl rf rn : Int} (h : (e ≠ 0 ∧ rl = 0 ∧ rf = 0 ∧ rn = 0) ∨ (e = 0 ∧ rl = y.ws.length ∧ rf = y.fl ∧ rn = y.ne)) : repV y e = (rl, rf, rn) := by
 rcases h with ⟨h1, rfl, rfl, rfl⟩ | ⟨rfl, rfl, rfl, rfl⟩
 · rw [repV, if_neg h1]
 rw [repV, if_pos rfl]
theorem doV_s {n : Nat} {x : VolV} {c : Cm} (hx : VolS n x) (hb : ∀ e ∈ c.its, BytesL e.2) : VolS (n + 1) (doV x c).1 ∧ (doV x c).1.vo = x.vo := by
 obtain ⟨h1, h2, h3, h4, h5⟩ := hx
 unfold doV
 by_cases k4 : c.kd = 4
 · rw [if_pos k4]
   cases hd : pinR x.hi x.fl c.at0 x.ws.length x.pins with
   | mk pins' e9 =>
     obtain ⟨g1, g2, g3⟩ := h1.pin h2 hd
     exact ⟨⟨g1, g2, by simp only; omega, by simp only; omega, h5⟩, rfl⟩
 rw [if_neg k4]
 by_cases k5 : c.kd = 5
 · rw [if_pos k5]
   cases hd : unpinR x.hi c.at0 x.pins with
   | mk pins' e9 =>
     obtain ⟨g1, g2, g3⟩ := h1.unpin h2 hd
     exact ⟨⟨g1, g2, by simp only; omega, by simp only; omega, h5⟩, rfl⟩
 rw [if_neg k5]
 obtain ⟨ne', hi', fl', ws', e9, hd⟩ : ∃ a b d e f, doR x.bl x.sz x.to x.ne x.fl x.hi x.pins x.ws c.kd c.at0 c.ix c.its = (a, b, d, e, f) := ⟨_, _, _, _, _, rfl⟩
 obtain ⟨g1, g2, g3⟩ := h1.do h2 hd
 rw [hd]
 exact ⟨⟨g1, g2, by simp only; omega, by simp only; omega, doR_by hd h5 hb⟩, rfl⟩
set_option maxHeartbeats 4000000
theorem pDo_v (S : Nat → Prop) (x : VolV) (c : Cm) (n : Nat) (hx : VolS n x) (hn : n ≤ 800000) (hil : c.its.length ≤ 1000000) (hio : ItsOk c.its) (p1 p2 p3 q1 pi : Option Addr) (c1 c2 c3 nx n1 d1 ni ci : Nat) (v1 v2 v3 v4 v5 : Int) (w0 : World) (h1 : Rd S w0 (.slice p1 x.place.length c1) (.ns .i64 x.place)) (h2 : Rd S w0 (.slice p2 x.pins.length c2) (.ns .i64 x.pins)) (h3 : Rd S w0 (.slice p3 nx c3) (.l 2 (x.ws.map wrD))) (h4 : Rd S w0 (.slice pi ni ci) (.l 2 (c.its.map itD))) :
   Calls Tryz.prog 96 #[.agg #[.int .i64 x.vo, .int .i64 x.bl, .int .i64 x.sz, .int .i64 x.pe, .slice p1 x.place.length c1, .int .i64 x.to, .int .i64 x.ne, .bool x.hi, .int .i64 x.fl, .slice p2 x.pins.length c2, .slice p3 nx c3], .agg #[.int .i64 c.kd, .int .i64 v1, .int .i64 v2, .int .i64 v3, .int .i64 v4, .slice q1 n1 d1, .int .i64 v5, .int .i64 c.at0, .int .i64 c.ix, .slice pi ni ci]] w0 fun e w' => ∃ (y : VolV) (e9 rl rf rn : Int) (p1 p2 p3 : Option Addr) (d1 d2 d3 : Nat), e = .returned (.tuple #[.agg #[.int .i64 y.vo, .int .i64 y.bl, .int .i64 y.sz, .int .i64 y.pe, .slice p1 y.place.length d1, .int .i64 y.to, .int .i64 y.ne, .bool y.hi, .int .i64 y.fl, .slice p2 y.pins.length d2, .slice p3 (y.ws.map wrD).length d3], .agg #[.int .i64 e9, .int .i64 rl, .int .i64 rf, .int .i64 rn, .slice none 0 0]]) ∧ doV x c = (y, e9) ∧ repV y e9 = (rl, rf, rn) ∧ Rd (Out S w0) w' (.slice p1 y.place.length d1) (.ns .i64 y.place) ∧ Rd (Out S w0) w' (.slice p2 y.pins.length d2) (.ns .i64 y.pins) ∧ Rd (Out S w0) w' (.slice p3 (y.ws.map wrD).length d3) (.l 2 (y.ws.map wrD)) ∧ Below w0.heap.size w0 w' := by
 obtain rfl : nx = (x.ws.map wrD).length := by obtain ⟨pq, cq, hv, _⟩ := h3.l_shape; injection hv with _ e2 _
 obtain rfl : ni = c.its.length := by obtain ⟨pq, cq, hv, _⟩ := h4.l_shape; injection hv with _ e2 _; rw [List.length_map] at e2; exact e2
 have hF : ∀ (M : Mm), (∀ b, ¬ Own M b) → ∀ b, S b → Free (cx S w0) M b := fun M hM b hb => ⟨fun _ => hb, hM b⟩
 have m1 := (MemOk.start S w0).dat 1 rfl (h1.cast (fun b hb => hF _ (by rintro b ⟨j, s, hj, _⟩; cases hj) b hb))
 have m2 := m1.dat 2 rfl (h2.cast (fun b hb => hF _ (by rintro b ⟨j, s, hj, hs⟩; rw [lk_cons] at hj; split at hj; (· cases hj; cases hs); cases hj) b hb))
 have m3 := m2.dat 3 rfl (h3.cast (fun b hb => hF _ (by rintro b ⟨j, s, hj, hs⟩; rw [lk_cons] at hj; split at hj; (· cases hj; cases hs); rw [lk_cons] at hj; split at hj; (· cases hj; cases hs); cases hj) b hb))
 have m4 := m3.dat 4 rfl (h4.cast (fun b hb => hF _ (by rintro b ⟨j, s, hj, hs⟩; rw [lk_cons] at hj; split at hj; (· cases hj; cases hs); rw [lk_cons] at hj; split at hj; (· cases hj; cases hs); rw [lk_cons] at hj; split at hj; (· cases hj; cases hs); cases hj) b hb))
 obtain ⟨vo, bl, sz, pe, place, to, ne, hi, fl, pins, ws⟩ := x
 obtain ⟨kd, cvo, cbl, csz, cpe, cpl, cto, at0, ix, its⟩ := c
 obtain ⟨g1, g2, g3, g4, g5⟩ := hx
 simp only at *
 have hne : -1000000000000000 ≤ ne ∧ ne ≤ 1000000000000000 := by
   obtain ⟨⟨a1, a2, a3, a4, a5, a6, a7, a8, a9, a10, a11⟩, b1, b2, b3⟩ := g1
   omega
 have hpl : place.length ≤ 1000000 := by
   have := (VolS.sm (x := ⟨vo, bl, sz, pe, place, to, ne, hi, fl, pins, ws⟩) ⟨g1, g2, g3, g4, g5⟩).1
   simp only at this; omega
 have hok : WrsOk ws := g1.its.1
 by_cases k4 : kd = 4
 · subst k4
   refine (yDo4 (cx S w0) vo bl sz pe to ne fl hi place pins ws p1 p2 p3 c1 c2 c3 v1 v2 v3 v4 v5 at0 ix q1 n1 d1 pi its.length ci w0 hpl (by omega) (by omega) hok (m4.only [1, 2, 3])).mono ?_
   rintro e w' ⟨pins', e9, rl, rf, rn, p1', d1', p2', d2', p3', d3', rfl, hd, hr, m⟩
   have ma := m.freezeSN 6 rfl (by intro b hb; cases hb)
   have mb := ma.freezeS 7 rfl (by intro b hb; cases hb)
   refine ⟨⟨vo, bl, sz, pe, place, to, ne, hi, fl, pins', ws⟩, e9, rl, rf, rn, _, _, _, _, _, _, rfl, ?_, repV_of hr, mb.outD (i := 5) rfl, mb.outD (i := 6) rfl, mb.outD (i := 7) rfl, mb.below⟩
   simp only [doV, if_true, hd]
 by_cases k5 : kd = 5
 · subst k5
   refine (yDo5 (cx S w0) vo bl sz pe to ne fl hi place pins ws p1 p2 p3 c1 c2 c3 v1 v2 v3 v4 v5 at0 ix q1 n1 d1 pi its.length ci w0 hpl (by omega) (by omega) hok (m4.only [1, 2, 3])).mono ?_
   rintro e w' ⟨pins', e9, rl, rf, rn, p1', d1', p2', d2', p3', d3', rfl, hd, hr, m⟩
   have ma := m.freezeSN 6 rfl (by intro b hb; cases hb)
   have mb := ma.freezeS 7 rfl (by intro b hb; cases hb)
   refine ⟨⟨vo, bl, sz, pe, place, to, ne, hi, fl, pins', ws⟩, e9, rl, rf, rn, _, _, _, _, _, _, rfl, ?_, repV_of hr, mb.outD (i := 5) rfl, mb.outD (i := 6) rfl, mb.outD (i := 7) rfl, mb.below⟩
   simp only [doV, hd]; rfl
 obtain ⟨ne', hi', fl', ws', e9, hd⟩ : ∃ a b d e f, doR bl sz to ne fl hi pins ws kd at0 ix its = (a, b, d, e, f) := ⟨_, _, _, _, _, rfl⟩
 refine (xDo_is (cx S w0) vo bl sz pe to ne fl hi place pins ws its p1 p2 p3 c1 c2 c3 pi ci kd v1 v2 v3 v4 v5 at0 ix q1 n1 d1 w0 ne' hi' fl' ws' e9 hd hpl k4 k5 hne (by omega) (by omega) hil hio hok (m4.only [1, 2, 3, 4])).mono ?_
 rintro e w' ⟨rl, rf, rn, p1', d1', p2', d2', p3', d3', rfl, hr, m⟩
 have mb := m.freezeS 7 rfl (by intro b hb; cases hb)
 refine ⟨⟨vo, bl, sz, pe, place, to, ne', hi', fl', pins, ws'⟩, e9, rl, rf, rn, _, _, _, _, _, _, rfl, ?_, repV_of hr, mb.outD (i := 5) rfl, mb.outD (i := 6) rfl, mb.outD (i := 7) rfl, mb.below⟩
 simp only [doV, if_neg k4, if_neg k5, hd]
theorem vnewY (kd vo bl sz pe to at0 ix : Int) (place : List Int) (pp pi : Option Addr) (cp ni ci : Nat) (w0 : World) (h0 : Rd (fun _ => True) w0 (.slice pp place.length cp) (.ns .i64 place)) (hn : place.length ≤ 1000000) (hN : NewOk vo bl sz pe to place) :
   Calls Tryz.prog 95 #[.agg #[.int .i64 kd, .int .i64 vo, .int .i64 bl, .int .i64 sz, .int .i64 pe, .slice pp place.length cp, .int .i64 to, .int .i64 at0, .int .i64 ix, .slice pi ni ci]] w0 fun e w' => ∃ p c, e = .returned (.tuple #[.agg #[.int .i64 vo, .int .i64 bl, .int .i64 sz, .int .i64 pe, .slice p place.length c, .int .i64 to, .int .i64 0, .bool (decide (0 < to)), .int .i64 0, .slice none 0 0, .slice none 0 0], .int .i64 0]) ∧ Rd (New w0) w' (.slice p place.length c) (.ns .i64 place) ∧ Below w0.heap.size w0 w' :=
 (vnew_any kd vo bl sz pe to at0 ix place pp pi cp ni ci w0 h0 hn).mono fun e w' h => h.elim (fun h => h.2) (fun h => absurd hN h.1)
theorem vnewN (kd vo bl sz pe to at0 ix : Int) (place : List Int) (pp pi : Option Addr) (cp ni ci : Nat) (w0 : World) (h0 : Rd (fun _ => True) w0 (.slice pp place.length cp) (.ns .i64 place)) (hn : place.length ≤ 1000000) (hN : ¬ NewOk vo bl sz pe to place) :
   Calls Tryz.prog 95 #[.agg #[.int .i64 kd, .int .i64 vo, .int .i64 bl, .int .i64 sz, .int .i64 pe, .slice pp place.length cp, .int .i64 to, .int .i64 at0, .int .i64 ix, .slice pi ni ci]] w0 fun e w' => e = .returned (.tuple #[.agg #[.int .i64 0, .int .i64 0, .int .i64 0, .int .i64 0, .slice none 0 0, .int .i64 0, .int .i64 0, .bool false, .int .i64 0, .slice none 0 0, .slice none 0 0], .int .i64 23]) ∧ Below w0.heap.size w0 w' :=
 (vnew_any kd vo bl sz pe to at0 ix place pp pi cp ni ci w0 h0 hn).mono fun e w' h => h.elim (fun h => absurd h.1 hN) (fun h => h.2)
end
end Go.Proofs.YtkehgingagggaaaGreat.K
