/- General laws of walks. -/
import Derived.Test.YtkehgingagggaaaGreatG17
import Derived.Test.YtkehgingagggaaaGreatG18
import Derived.Test.YtkehgingagggaaaGreatG12
import Derived.Test.YtkehgingagggaaaGreatG9
import Derived.Test.YtkehgingagggaaaGreatG6
namespace Go.Proofs.YtkehgingagggaaaGreat.K
open Go.ChangeShapes Go.WideShapes Go.ChangeAt Go.RowKit
set_option linter.unusedVariables false
set_option linter.unusedSimpArgs false
section
theorem fl146pnw : flatS Tryz.prog 146 [.slice none 0 0, .int .i64 0] = true := by kernel_rfl
theorem ps148pnw : placesS Tryz.prog 148 = some [(0, 2)] := by kernel_rfl
theorem fl59mri : flatS Tryz.prog 59 [.int .i64 0, .slice none 0 0] = true := by kernel_rfl
theorem numR_own {x : Int} (rest : List Int) {mx : Int} (h0 : 0 ≤ x) (h1 : x ≤ mx) (h2 : mx ≤ 18446744073709551615) : numR (enc x ++ rest) 0 mx = (x, rest, 0) := numR_ok x h0 (by omega) rest mx h1
theorem len_r {a b d : List Int} (h : d = a ++ b) (hd : d.length ≤ 1000000) : b.length ≤ 1000000 := by rw [h, List.length_append] at hd; omega
theorem itD_snoc {l : List (Int × List Int)} {k : Nat} {xb : Int} {xd : List Int} (h : l[k]? = some (xb, xd)) : (l.take (k + 1)).map itD = (l.take k).map itD ++ [[.v (.int .i64 xb), .ns .u8 xd]] := by
 rw [List.take_add_one, h, List.map_append]; rfl
set_option maxRecDepth 100000
set_option maxHeartbeats 4000000
theorem pnew_f (X : Cx) (b : List Int) (p : Option Addr) (c : Nat) (w0 : World) (hb : b.length ≤ 1000000) (m0 : MemOk X w0 [(1, .dat (.slice p b.length c) (.ns .u8 b))] w0) :
   Calls Tryz.prog 59 #[.slice p b.length c] w0 fun e w' => ∃ (B : Nat) (p' : Option Addr) (c' : Nat), e = .returned (.pointer (some ⟨B, 0, none⟩)) ∧ MemOk X w0 [(1, .box B 148 [.slice p' (b).length c', .int .i64 0]), (2, .dat (.slice p' (b).length c') (.ns .u8 (b))), (3, .dat (.slice p b.length c) (.ns .u8 b))] w' := by
 refine ent1 Tryz.func59 rfl Tryz.ntmps59 fun Az Hz => ?_
 refine regS Hz (.assign rfl .nil) fun Az Hz => ?_
 refine zsr fun K0 hK0 => ?_
 refine goCh Hz (.move rfl .nil) fun Az Hz => ?_
 refine plz (e_litR Hz m0 20 (mm := 1) rfl (.cons rfl rfl (.cons (m0.rd (i := 1) rfl) .nil) .nil) U23 fct20 rfl rfl rfl rfl rfl fun g4 Az w5 Hz m5 => ?_)
 have m6 := m5.freezeR 20 rfl
 refine plz (ecn Hz Tryz.func68 rfl m6 21 (pjoin_is (ls := [b]) (S := b) ((m6.rd (i := 20) rfl).any) (by simp) (by simp [sumLen]; omega) (by simp)) fun p7 c7 Az w7 Hz m8 => ?_)
 refine goCh Hz (.build rfl fct21 fl146pnw rfl (by dsimp only [setL, List.set] <;> rfl) <| .buildG rfl fct22 ps148pnw rfl .nil) fun Az Hz => ?_
 refine plz (e_box Hz m8 22 (cs := [_, _]) rfl rfl rfl fun g12 Az w13 Hz m13 _ _ => ?_)
 refine gz hK0 Hz (.assign rfl .nil) fun Az Hz => ?_
 refine rt1 Hz ?_
 have m15 := m13.freezeN 21 rfl
 exact ⟨_, _, _, rfl, m15.ren [(1, 22), (2, 21), (3, 1)] (by decide)⟩
theorem perr_x (X : Cx) (B : Nat) (b : List Int) (er : Int) (p : Option Addr) (c : Nat) (w0 : World) (m0 : MemOk X w0 [(1, .box B 148 [.slice p (b).length c, .int .i64 er]), (2, .dat (.slice p (b).length c) (.ns .u8 (b)))] w0) :
   Calls Tryz.prog 62 #[.pointer (some ⟨B, 0, none⟩)] w0 fun e w' => e = .returned (.int .i64 er) ∧ MemOk X w0 [(1, .box B 148 [.slice p (b).length c, .int .i64 er]), (2, .dat (.slice p (b).length c) (.ns .u8 (b)))] w' := by
 refine ent1 Tryz.func62 rfl Tryz.ntmps62 fun Az Hz => ?_
 refine regS Hz (.assign rfl .nil) fun Az Hz => ?_
 refine regS Hz (.move rfl <| .nilCheck rfl <| .fieldAddr (off := 0) rfl U148 rfl (s := 1) (by kernel_rfl) rfl <| .fa 1 rfl U146 <| .lb m0 1 U42 rfl rfl rfl <| .assign rfl .nil) fun Az Hz => ?_
 refine rt1 Hz ?_
 exact ⟨rfl, m0.only [1, 2]⟩
theorem pnum_ok (X : Cx) (B : Nat) (b : List Int) (mx : Int) (p : Option Addr) (c : Nat) (w0 : World) (x : Int) (rest : List Int) (hb : b.length ≤ 1000000) (hbb : BytesL b) (hbe : b = enc x ++ rest) (hmx : mx ≤ 18446744073709551615) (hx : 0 ≤ x ∧ x ≤ mx) (m0 : MemOk X w0 [(1, .box B 148 [.slice p (b).length c, .int .i64 0]), (2, .dat (.slice p (b).length c) (.ns .u8 (b)))] w0) :
   Calls Tryz.prog 60 #[.pointer (some ⟨B, 0, none⟩), .int .u64 mx] w0 fun e w' => ∃ (p' : Option Addr) (c' : Nat), e = .returned (.int .u64 x) ∧ MemOk X w0 [(1, .box B 148 [.slice p' (rest).length c', .int .i64 0]), (2, .dat (.slice p' (rest).length c') (.ns .u8 (rest)))] w' := by
 have hN : numR b 0 mx = (x, rest, 0) := by rw [hbe]; exact numR_own rest hx.1 hx.2 hmx
 have h := pnum_x X B b 0 mx p c w0 hb hbb m0
 rw [hN] at h
 exact h
theorem rdlump_ok (X : Cx) (B : Nat) (b : List Int) (mx : Int) (p : Option Addr) (c : Nat) (w0 : World) (d rest : List Int) (hb : b.length ≤ 1000000) (hbb : BytesL b) (hbe : b = enc (d.length : Int) ++ (d ++ rest)) (hmx : mx ≤ 1000000) (hx : (d.length : Int) ≤ mx) (m0 : MemOk X w0 [(1, .box B 148 [.slice p (b).length c, .int .i64 0]), (2, .dat (.slice p (b).length c) (.ns .u8 (b)))] w0) :
   Calls Tryz.prog 140 #[.pointer (some ⟨B, 0, none⟩), .int .i64 mx] w0 fun e w' => ∃ (p' : Option Addr) (c' : Nat) (p3 : Option Addr) (c3 : Nat), e = .returned (.slice p3 d.length c3) ∧ MemOk X w0 [(1, .box B 148 [.slice p' (rest).length c', .int .i64 0]), (2, .dat (.slice p' (rest).length c') (.ns .u8 (rest))), (3, .dat (.slice p3 d.length c3) (.ns .u8 d))] w' := by
 refine ent2 Tryz.func140 rfl Tryz.ntmps140 fun Az Hz => ?_
 have hun : d.length ≤ (d ++ rest).length := by rw [List.length_append]; omega
 have hdl : (d ++ rest).length ≤ 1000000 := by rw [hbe, List.length_append] at hb; omega
 refine regS Hz (.assign rfl .nil) fun Az Hz => ?_
 refine zsr fun K0 hK0 => ?_
 refine goCh Hz (.move rfl <| .move rfl <| .c rfl (fun _ h_ => y_max h_ rfl rfl (r := mx) (by omega)) <| .conv rfl U3 U108 (r := mx) (IntWalk.u64_in _ (by omega)) .nil) fun Az Hz => ?_
 refine plz (ecl Hz Tryz.func60 rfl (pnum_ok _ _ _ mx _ _ _ (d.length : Int) (d ++ rest) hb hbb hbe (by omega) (by omega) (m0.into [(1, 1), (2, 2)] (by decide) rfl)) ?_)
 rintro e w10 ⟨p10, c10, rfl, hm10⟩
 have mx10 := m0.back hm10 [(1, 1), (2, 2)] (by decide); clear hm10 m0
 have m10 := mx10.oz [1, 2]
 refine ⟨_, rfl, ?_⟩; intro Az Hz
 refine gz hK0 Hz (.assign rfl .nil) fun Az Hz => ?_
 refine wsk fun K1 hK1 => ?_
 replace Hz := Hz.oz [0, 4, 5]
 refine regS Hz (.move rfl <| .nilCheck rfl <| .fieldAddr (off := 0) rfl U148 rfl (s := 1) (by kernel_rfl) rfl <| .fa 1 rfl U146 <| .lb m10 1 U42 rfl rfl rfl <| .neq rfl rfl .nil) fun Az Hz => ?_
 refine bc Hz 17 ?_ ?_
 · intro hb _; exact absurd hb (by simp)
 clear Hz; intro _ Hz
 refine wcf Hz ?_
 refine zss (hK1 _ _ ?_)
 refine wsk fun K2 hK2 => ?_
 replace Hz := Hz.oz [0, 4, 5]
 refine regS Hz (.move rfl <| .move rfl <| .nilCheck rfl <| .fieldAddr (off := 0) rfl U148 rfl (s := 1) (by kernel_rfl) rfl <| .fa 0 rfl U146 <| .lb m10 1 U22 rfl rfl rfl <| .len rfl U22 <| .conv rfl U3 U108 (r := ((d ++ rest).length : Int)) (IntWalk.u64_in _ (by omega)) <| .gtr rfl rfl .nil) fun Az Hz => ?_
 refine bc Hz 26 ?_ ?_
 · intro hb _; exact absurd hb (by rw [decide_eq_true_eq, List.length_append]; omega)
 clear Hz; intro _ Hz
 refine wcf Hz ?_
 refine zss (hK2 _ _ ?_)
 replace Hz := Hz.oz [0, 4, 5]
 refine zsr fun K3 hK3 => ?_
 refine goCh Hz (.move rfl <| .nilCheck rfl <| .fieldAddr (off := 0) rfl U148 rfl (s := 1) (by kernel_rfl) rfl <| .fa 0 rfl U146 <| .lb m10 1 U22 rfl rfl rfl <| .move rfl .nil) fun Az Hz => ?_
 have hcap46 := (m10.rd (i := 2) rfl).ns_out.cap
 have m46 := m10.takeN (i := 2) rfl d.length hun 20 rfl
 refine goCh Hz (.c rfl (fun _ h_ => y_sliceHn h_ d.length rfl rfl U22 fct23 rfl (Nat.le_trans hun hcap46.1)) .nil) fun Az Hz => ?_
 refine plz (e_litR Hz m46 21 (mm := 1) rfl (.cons rfl rfl (.cons (m46.rd (i := 20) rfl) .nil) .nil) U23 fct20 rfl rfl rfl rfl rfl fun g48 Az w49 Hz m49 => ?_)
 have m50 := m49.freezeR 21 rfl
 refine plz (ecn Hz Tryz.func68 rfl m50 22 (pjoin_is (ls := [(d ++ rest).take d.length]) (S := d) ((m50.rd (i := 21) rfl).any) (by simp) (by simp [sumLen]; omega) (by simp)) fun p51 c51 Az w51 Hz m52 => ?_)
 refine gz hK3 Hz (.assign rfl .nil) fun Az Hz => ?_
 replace Hz := Hz.oz [0, 4, 5, 6]
 refine zsr fun K4 hK4 => ?_
 refine goCh Hz (.move rfl <| .move rfl <| .nilCheck rfl <| .fieldAddr (off := 0) rfl U148 rfl (s := 1) (by kernel_rfl) rfl <| .fa 0 rfl U146 <| .lb m52 1 U22 rfl rfl rfl <| .move rfl .nil) fun Az Hz => ?_
 have m71 := m52.dropN (i := 2) rfl d.length hun 23 rfl
 refine goCh Hz (.c rfl (fun _ h_ => y_sliceLn h_ d.length rfl rfl U22 fct23 rfl hun) <| .nilCheck rfl <| .fieldAddr (off := 0) rfl U148 rfl (s := 1) (by kernel_rfl) rfl <| .fa 0 rfl U146 .nil) fun Az Hz => ?_
 refine plz (st1 Hz m71 1 fct2 fun w76 m76 _ => ?_)
 refine znl (hK4 _ _ ?_)
 replace Hz := Hz.oz [4, 6]
 refine regS Hz (.move rfl <| .assign rfl .nil) fun Az Hz => ?_
 refine rt1 Hz ?_
 have e2 : (d ++ rest).drop d.length = rest := List.drop_left
 have e3 : (d ++ rest).length - d.length = rest.length := by rw [List.length_append]; omega
 rw [e2, e3] at m76
 have m80 := m76.freezeN 22 rfl
 exact ⟨_, _, _, _, rfl, m80.ren [(1, 1), (2, 23), (3, 22)] (by decide)⟩
theorem num_o (X : Cx) (B : Nat) (b : List Int) (p : Option Addr) (c : Nat) (w0 : World) (x : Int) (rest : List Int) (hb : b.length ≤ 1000000) (hbb : BytesL b) (hbe : b = enc x ++ rest) (hx : 0 ≤ x ∧ x ≤ 1099511627776) (m0 : MemOk X w0 [(1, .box B 148 [.slice p (b).length c, .int .i64 0]), (2, .dat (.slice p (b).length c) (.ns .u8 (b)))] w0) :
   Calls Tryz.prog 73 #[.pointer (some ⟨B, 0, none⟩)] w0 fun e w' => ∃ (p' : Option Addr) (c' : Nat), e = .returned (.int .i64 x) ∧ MemOk X w0 [(1, .box B 148 [.slice p' (rest).length c', .int .i64 0]), (2, .dat (.slice p' (rest).length c') (.ns .u8 (rest)))] w' := by
 refine ent1 Tryz.func73 rfl Tryz.ntmps73 fun Az Hz => ?_
 refine regS Hz (.assign rfl .nil) fun Az Hz => ?_
 refine zsr fun K0 hK0 => ?_
 refine goCh Hz (.move rfl .nil) fun Az Hz => ?_
 refine plz (ecl Hz Tryz.func60 rfl (pnum_ok _ _ _ 1099511627776 _ _ _ x rest hb hbb hbe (by omega) hx (m0.into [(1, 1), (2, 2)] (by decide) rfl)) ?_)
 rintro e w4 ⟨p4, c4, rfl, hm4⟩
 have mx4 := m0.back hm4 [(1, 1), (2, 2)] (by decide); clear hm4 m0
 have m4 := mx4.oz [1, 2]
 refine ⟨_, rfl, ?_⟩; intro Az Hz
 refine gz hK0 Hz (.conv rfl U108 U3 (r := x) (IntWalk.i64_in _ (by omega)) <| .assign rfl <| .nil) fun Az Hz => ?_
 refine rt1 Hz ?_
 exact ⟨_, _, rfl, m4.only [1, 2]⟩
theorem time_o (X : Cx) (B : Nat) (b : List Int) (p : Option Addr) (c : Nat) (w0 : World) (x : Int) (rest : List Int) (hb : b.length ≤ 1000000) (hbb : BytesL b) (hbe : b = enc x ++ rest) (hx : 0 ≤ x ∧ x ≤ 1099511627776) (m0 : MemOk X w0 [(1, .box B 148 [.slice p (b).length c, .int .i64 0]), (2, .dat (.slice p (b).length c) (.ns .u8 (b)))] w0) :
   Calls Tryz.prog 74 #[.pointer (some ⟨B, 0, none⟩)] w0 fun e w' => ∃ (p' : Option Addr) (c' : Nat), e = .returned (.int .i64 x) ∧ MemOk X w0 [(1, .box B 148 [.slice p' (rest).length c', .int .i64 0]), (2, .dat (.slice p' (rest).length c') (.ns .u8 (rest)))] w' := by
 refine ent1 Tryz.func74 rfl Tryz.ntmps74 fun Az Hz => ?_
 refine regS Hz (.assign rfl .nil) fun Az Hz => ?_
 refine zsr fun K0 hK0 => ?_
 refine goCh Hz (.move rfl .nil) fun Az Hz => ?_
 refine plz (ecl Hz Tryz.func73 rfl (num_o _ _ _ _ _ _ x rest hb hbb hbe hx (m0.into [(1, 1), (2, 2)] (by decide) rfl)) ?_)
 rintro e w4 ⟨p4, c4, rfl, hm4⟩
 have mx4 := m0.back hm4 [(1, 1), (2, 2)] (by decide); clear hm4 m0
 have m4 := mx4.oz [1, 2]
 refine ⟨_, rfl, ?_⟩; intro Az Hz
 refine gz hK0 Hz (.assign rfl .nil) fun Az Hz => ?_
 refine rt1 Hz ?_
 exact ⟨_, _, rfl, m4.only [1, 2]⟩
theorem listI_o (X : Cx) (B : Nat) (b : List Int) (p : Option Addr) (c : Nat) (w0 : World) (l T : List Int) (hb : b.length ≤ 1000000) (hbb : BytesL b) (hbe : b = enc (l.length : Int) ++ (encs l ++ T)) (hl : l.length ≤ 1000) (hlb : ∀ k, k < l.length → 0 ≤ l.getD k 0 ∧ l.getD k 0 ≤ 1099511627776) (m0 : MemOk X w0 [(1, .box B 148 [.slice p (b).length c, .int .i64 0]), (2, .dat (.slice p (b).length c) (.ns .u8 (b)))] w0) :
   Calls Tryz.prog 75 #[.pointer (some ⟨B, 0, none⟩), .func (.func 73) #[] #[]] w0 fun e w' => ∃ (p' : Option Addr) (c' : Nat) (p3 : Option Addr) (c3 : Nat), e = .returned (.slice p3 l.length c3) ∧ MemOk X w0 [(1, .box B 148 [.slice p' (T).length c', .int .i64 0]), (2, .dat (.slice p' (T).length c') (.ns .u8 (T))), (3, .dat (.slice p3 l.length c3) (.ns .i64 l))] w' := by
 refine ent2 Tryz.func75 rfl Tryz.ntmps75 fun Az Hz => ?_
 have hlT := bytes_r (hbe ▸ hbb)
 have hlL := len_r hbe hb
 refine regS Hz (.assign rfl .nil) fun Az Hz => ?_
 refine regS Hz (.assign rfl .nil) fun Az Hz => ?_
 refine wsk fun K0 hK0 => ?_
 refine zsr fun K1 hK1 => ?_
 refine goCh Hz (.move rfl .nil) fun Az Hz => ?_
 refine plz (ecl Hz Tryz.func60 rfl (pnum_ok _ _ _ 1099511627776 _ _ _ (l.length : Int) (encs (l) ++ T) hb hbb hbe (by omega) (by omega) (m0.into [(1, 1), (2, 2)] (by decide) rfl)) ?_)
 rintro e w5 ⟨p5, c5, rfl, hm5⟩
 have mx5 := m0.back hm5 [(1, 1), (2, 2)] (by decide); clear hm5 m0
 have m5 := mx5.oz [1, 2]
 refine ⟨_, rfl, ?_⟩; intro Az Hz
 refine gz hK1 Hz (.move rfl .nil) fun Az Hz => ?_
 refine wp_block ?_
 refine wp_loop_ghost (fun g a w => ∃ (k : Nat) (p1 : Option Addr) (c1 : Nat) (p3 : Option Addr) (c3 : Nat), k ≤ l.length ∧ g = l.length - k ∧ (encs (l.drop k) ++ T).length ≤ 1000000 ∧ BytesL (encs (l.drop k) ++ T) ∧ Has 23 [(0, .pointer (some ⟨B, 0, none⟩)), (1, .func (.func 73) #[] #[]), (5, .slice p3 (l.take k).length c3), (8, .int .u64 (l.length : Nat)), (9, .int .u64 (k : Int))] a ∧ MemOk X w0 [(1, .box B 148 [.slice p1 (encs (l.drop k) ++ T).length c1, .int .i64 0]), (2, .dat (.slice p1 (encs (l.drop k) ++ T).length c1) (.ns .u8 (encs (l.drop k) ++ T))), (7, .num (.slice p3 (l.take k).length c3) 3 .i64 (l.take k))] w) (l.length) ?_ ?_
 · have mz := m5.nilN 7 3 .i64
   exact ⟨0, _, _, _, _, Nat.zero_le _, rfl, by rw [List.drop_zero]; exact hlL, by rw [List.drop_zero]; exact hlT, Hz.only [0, 1, 5, 8, 9], mz.ren [(1, 1), (2, 2), (7, 7)] (by decide)⟩
 clear Hz m5
 rintro g Az w8 ⟨k, p1, c1, p3, c3, hkl, hg, hb1, hbb1, Hz, m8⟩
 refine regS Hz (.lss rfl rfl .nil) fun Az Hz => ?_
 refine wsk fun K2 hK2 => ?_
 refine bc Hz 10 ?_ ?_
 ·
  intro hb10 Hz; try simp only [QQ, Qax] at hb10
  have hk : k < l.length := by omega
  have hb2 : (encs (l.drop (k + 1)) ++ T).length ≤ 1000000 := by have h9 := hb1; rw [encs_drop hk, List.append_assoc, List.length_append] at h9; omega
  have hbb2 : BytesL (encs (l.drop (k + 1)) ++ T) := bytes_r (by have h9 := hbb1; rw [encs_drop hk, List.append_assoc] at h9; exact h9)
  refine wct Hz ?_
  refine zss (hK2 _ _ ?_)
  refine wsk fun K3 hK3 => ?_
  refine wp_block ?_
  refine zsr fun K4 hK4 => ?_
  refine goCh Hz (.move rfl <| .move rfl .nil) fun Az Hz => ?_
  refine plz (e_callV Hz rfl Tryz.func73 rfl rfl rfl rfl (num_o _ _ _ _ _ _ (l.getD k 0) (encs (l.drop (k + 1)) ++ T) hb1 hbb1 (by rw [encs_drop hk, List.append_assoc]) (hlb k hk) (m8.into [(1, 1), (2, 2)] (by decide) rfl)) ?_)
  rintro e w15 ⟨p15, c15, rfl, hm15⟩
  have mx15 := m8.back hm15 [(1, 1), (2, 2)] (by decide); clear hm15 m8
  have m15 := mx15.oz [1, 2, 7]
  refine ⟨_, rfl, ?_⟩; intro Az Hz
  refine gz hK4 Hz (.assign rfl .nil) fun Az Hz => ?_
  refine wsk fun K5 hK5 => ?_
  refine zsr fun K6 hK6 => ?_
  refine goCh Hz (.move rfl .nil) fun Az Hz => ?_
  refine plz (ecl Hz Tryz.func62 rfl (perr_x _ _ _ _ _ _ _ (m15.into [(1, 1), (2, 2)] (by decide) rfl)) ?_)
  rintro e w20 ⟨rfl, hm20⟩
  have mx20 := m15.back hm20 [(1, 1), (2, 2)] (by decide); clear hm20 m15
  have m20 := mx20.oz [1, 2, 7]
  refine ⟨_, rfl, ?_⟩; intro Az Hz
  refine gz hK6 Hz (.neq rfl rfl .nil) fun Az Hz => ?_
  refine bc Hz 16 ?_ ?_
  · intro hb _; exact absurd hb (by simp)
  clear Hz; intro _ Hz
  refine wcf Hz ?_
  refine zss (hK5 _ _ ?_)
  replace Hz := Hz.oz [0, 1, 5, 8, 9, 6]
  refine wp_region_lit ?_
  refine goCh Hz (.move rfl <| .move rfl .nil) fun Az Hz => ?_
  refine plz (e_litN Hz m20 100 (k := .i64) rfl rfl U35 fct17 rfl rfl rfl rfl fun g27 Az w28 Hz m28 => ?_)
  refine plz (e_appN Hz m28 7 rfl rfl rfl (m28.numsO (i := 100) rfl) U35 fct17 (by decide) (by simp; omega) rfl fun p29 c29 Az w30 Hz m30 => ?_)
  refine gz hK3 Hz (.assign rfl .nil) fun Az Hz => ?_
  refine wp_region_lit ?_
  refine goCh Hz (.add rfl rfl (r := ((k + 1 : Nat) : Int)) (by rw [IntWalk.u64_in _ (by omega)]; omega) <| .move rfl .nil) fun Az Hz => ?_
  refine wpList_nil ?_
  show ∃ n', n' < _ ∧ _
  have hE : l.take k ++ [l.getD k 0] = l.take (k + 1) := (take_getD hk).symm
  rw [hE] at m30 Hz
  exact ⟨l.length - (k + 1), by omega, k + 1, _, _, _, _, by omega, rfl, hb2, hbb2, Hz.only [0, 1, 5, 8, 9], m30.ren [(1, 1), (2, 2), (7, 7)] (by decide)⟩
 intro hb10 Hz; try simp only [QQ, Qax] at hb10
 revert Hz
 obtain rfl : k = l.length := by omega
 intro Hz
 rw [List.drop_length, show encs [] ++ T = T from rfl, List.take_length] at m8
 rw [List.take_length] at Hz
 refine wcf Hz ?_
 refine wp_exit ?_
 refine hK0 _ _ ?_
 refine regS Hz (.move rfl <| .assign rfl .nil) fun Az Hz => ?_
 refine rt1 Hz ?_
 have m36 := m8.freezeN 7 rfl
 exact ⟨_, _, _, _, rfl, m36.ren [(1, 1), (2, 2), (3, 7)] (by decide)⟩
theorem readItem_o (X : Cx) (B : Nat) (b : List Int) (p : Option Addr) (c : Nat) (w0 : World) (xb : Int) (xd T : List Int) (hb : b.length ≤ 1000000) (hbb : BytesL b) (hbe : b = enc xb ++ (enc (xd.length : Int) ++ (xd ++ T))) (hx1 : 0 ≤ xb ∧ xb ≤ 255) (hx2 : xd.length ≤ 32) (m0 : MemOk X w0 [(1, .box B 148 [.slice p (b).length c, .int .i64 0]), (2, .dat (.slice p (b).length c) (.ns .u8 (b)))] w0) :
   Calls Tryz.prog 119 #[.pointer (some ⟨B, 0, none⟩)] w0 fun e w' => ∃ (p' : Option Addr) (c' : Nat) (p3 : Option Addr) (c3 : Nat), e = .returned (.agg #[.int .i64 xb, .slice p3 xd.length c3]) ∧ MemOk X w0 [(1, .box B 148 [.slice p' (T).length c', .int .i64 0]), (2, .dat (.slice p' (T).length c') (.ns .u8 (T))), (3, .dat (.slice p3 xd.length c3) (.ns .u8 xd))] w' := by
 refine ent1 Tryz.func119 rfl Tryz.ntmps119 fun Az Hz => ?_
 have hbb2 := bytes_r (hbe ▸ hbb)
 have hb2 := len_r hbe hb
 refine zsr fun K0 hK0 => ?_
 refine plz (e_alloc Hz m0 20 fct4 rfl fun g1 Az w2 Hz m2 _ _ => ?_)
 refine znl (hK0 _ _ ?_)
 refine zsr fun K1 hK1 => ?_
 refine goCh Hz (.move rfl .nil) fun Az Hz => ?_
 refine plz (ecl Hz Tryz.func73 rfl (num_o _ _ _ _ _ _ xb (enc (xd.length : Int) ++ (xd ++ T)) hb hbb hbe (by omega) (m2.into [(1, 1), (2, 2)] (by decide) rfl)) ?_)
 rintro e w5 ⟨p5, c5, rfl, hm5⟩
 have mx5 := m2.back hm5 [(1, 1), (2, 2)] (by decide); clear hm5 m2
 have m5 := mx5.oz [1, 2, 20]
 refine ⟨_, rfl, ?_⟩; intro Az Hz
 refine goCh Hz (.move rfl .nil) fun Az Hz => ?_
 refine plz (ecl Hz Tryz.func140 rfl (rdlump_ok _ _ _ 32 _ _ _ xd T hb2 hbb2 rfl (by omega) (by omega) (m5.into [(1, 1), (2, 2)] (by decide) rfl)) ?_)
 rintro e w8 ⟨p8, c8, p38, c38, rfl, hm8⟩
 have mx8 := m5.back hm8 [(1, 1), (2, 2), (21, 3)] (by decide); clear hm8 m5
 have m8 := mx8.oz [1, 2, 21, 20]
 refine ⟨_, rfl, ?_⟩; intro Az Hz
 refine goCh Hz (.build rfl fct4 fl59mri rfl (by dsimp only [setL, List.set] <;> rfl) .nil) fun Az Hz => ?_
 refine plz (stw Hz m8 20 fct3 fun w11 m11 _ => ?_)
 refine znl (hK1 _ _ ?_)
 refine rtd (retC (fn := Tryz.f119) Hz m11 (i := 20) rfl rfl rfl U59 rfl fct3 ?_)
 exact ⟨_, _, _, _, rfl, m11.ren [(1, 1), (2, 2), (3, 21)] (by decide)⟩
theorem listT_o (X : Cx) (B : Nat) (b : List Int) (p : Option Addr) (c : Nat) (w0 : World) (l : List (Int × List Int)) (T : List Int) (hb : b.length ≤ 1000000) (hbb : BytesL b) (hbe : b = enc (l.length : Int) ++ (itemsE l ++ T)) (hl : l.length ≤ 1000) (hlb : ∀ e ∈ l, (0 ≤ e.1 ∧ e.1 ≤ 255) ∧ e.2.length ≤ 32) (m0 : MemOk X w0 [(1, .box B 148 [.slice p (b).length c, .int .i64 0]), (2, .dat (.slice p (b).length c) (.ns .u8 (b)))] w0) :
   Calls Tryz.prog 118 #[.pointer (some ⟨B, 0, none⟩), .func (.func 119) #[] #[]] w0 fun e w' => ∃ (p' : Option Addr) (c' : Nat) (p3 : Option Addr) (c3 : Nat), e = .returned (.slice p3 (l.map itD).length c3) ∧ MemOk X w0 [(1, .box B 148 [.slice p' (T).length c', .int .i64 0]), (2, .dat (.slice p' (T).length c') (.ns .u8 (T))), (3, .dat (.slice p3 (l.map itD).length c3) (.l 2 (l.map itD)))] w' := by
 refine ent2 Tryz.func118 rfl Tryz.ntmps118 fun Az Hz => ?_
 have hlT := bytes_r (hbe ▸ hbb)
 have hlL := len_r hbe hb
 refine regS Hz (.assign rfl .nil) fun Az Hz => ?_
 refine regS Hz (.assign rfl .nil) fun Az Hz => ?_
 refine wsk fun K0 hK0 => ?_
 refine zsr fun K1 hK1 => ?_
 refine goCh Hz (.move rfl .nil) fun Az Hz => ?_
 refine plz (ecl Hz Tryz.func60 rfl (pnum_ok _ _ _ 1099511627776 _ _ _ (l.length : Int) (itemsE (l) ++ T) hb hbb hbe (by omega) (by omega) (m0.into [(1, 1), (2, 2)] (by decide) rfl)) ?_)
 rintro e w5 ⟨p5, c5, rfl, hm5⟩
 have mx5 := m0.back hm5 [(1, 1), (2, 2)] (by decide); clear hm5 m0
 have m5 := mx5.oz [1, 2]
 refine ⟨_, rfl, ?_⟩; intro Az Hz
 refine gz hK1 Hz (.move rfl .nil) fun Az Hz => ?_
 refine wp_block ?_
 refine wp_loop_ghost (fun g a w => ∃ (k : Nat) (p1 : Option Addr) (c1 : Nat) (p3 : Option Addr) (c3 : Nat), k ≤ l.length ∧ g = l.length - k ∧ (itemsE (l.drop k) ++ T).length ≤ 1000000 ∧ BytesL (itemsE (l.drop k) ++ T) ∧ Has 23 [(0, .pointer (some ⟨B, 0, none⟩)), (1, .func (.func 119) #[] #[]), (5, .slice p3 ((l.take k).map itD).length c3), (8, .int .u64 (l.length : Nat)), (9, .int .u64 (k : Int))] a ∧ MemOk X w0 [(1, .box B 148 [.slice p1 (itemsE (l.drop k) ++ T).length c1, .int .i64 0]), (2, .dat (.slice p1 (itemsE (l.drop k) ++ T).length c1) (.ns .u8 (itemsE (l.drop k) ++ T))), (7, .row (.slice p3 ((l.take k).map itD).length c3) 59 2 ((l.take k).map itD))] w) (l.length) ?_ ?_
 · have mz := m5.nilR 7 59 2
   exact ⟨0, _, _, _, _, Nat.zero_le _, rfl, by rw [List.drop_zero]; exact hlL, by rw [List.drop_zero]; exact hlT, Hz.only [0, 1, 5, 8, 9], mz.ren [(1, 1), (2, 2), (7, 7)] (by decide)⟩
 clear Hz m5
 rintro g Az w8 ⟨k, p1, c1, p3, c3, hkl, hg, hb1, hbb1, Hz, m8⟩
 refine regS Hz (.lss rfl rfl .nil) fun Az Hz => ?_
 refine wsk fun K2 hK2 => ?_
 refine bc Hz 10 ?_ ?_
 ·
  intro hb10 Hz; try simp only [QQ, Qax] at hb10
  have hk : k < l.length := by omega
  obtain ⟨⟨xb, xd⟩, hes⟩ : ∃ e, l[k]? = some e := ⟨_, List.getElem?_eq_getElem hk⟩
  have hx := hlb _ (List.mem_of_getElem? hes)
  have hb2 : (itemsE (l.drop (k + 1)) ++ T).length ≤ 1000000 := by have h9 := hb1; rw [itemsE_drop hes, List.append_assoc, List.length_append] at h9; omega
  have hbb2 : BytesL (itemsE (l.drop (k + 1)) ++ T) := bytes_r (by have h9 := hbb1; rw [itemsE_drop hes, List.append_assoc] at h9; exact h9)
  refine wct Hz ?_
  refine zss (hK2 _ _ ?_)
  refine wsk fun K3 hK3 => ?_
  refine wp_block ?_
  refine zsr fun K4 hK4 => ?_
  refine goCh Hz (.move rfl <| .move rfl .nil) fun Az Hz => ?_
  refine plz (e_callV Hz rfl Tryz.func119 rfl rfl rfl rfl (readItem_o _ _ _ _ _ _ xb xd (itemsE (l.drop (k + 1)) ++ T) hb1 hbb1 (by rw [itemsE_drop hes]; simp only [itemE, List.append_assoc]) hx.1 hx.2 (m8.into [(1, 1), (2, 2)] (by decide) rfl)) ?_)
  rintro e w15 ⟨p15, c15, p315, c315, rfl, hm15⟩
  have mx15 := m8.back hm15 [(1, 1), (2, 2), (100, 3)] (by decide); clear hm15 m8
  have m15 := mx15.oz [1, 2, 100, 7]
  refine ⟨_, rfl, ?_⟩; intro Az Hz
  refine plz (e_alloc Hz m15 101 fct4 rfl fun g17 Az w18 Hz m18 _ _ => ?_)
  refine plz (stw Hz m18 101 fct3 fun w19 m19 _ => ?_)
  refine znl (hK4 _ _ ?_)
  refine wsk fun K5 hK5 => ?_
  refine zsr fun K6 hK6 => ?_
  refine goCh Hz (.move rfl .nil) fun Az Hz => ?_
  refine plz (ecl Hz Tryz.func62 rfl (perr_x _ _ _ _ _ _ _ (m19.into [(1, 1), (2, 2)] (by decide) rfl)) ?_)
  rintro e w22 ⟨rfl, hm22⟩
  have mx22 := m19.back hm22 [(1, 1), (2, 2)] (by decide); clear hm22 m19
  have m22 := mx22.oz [1, 2, 7, 100, 101]
  refine ⟨_, rfl, ?_⟩; intro Az Hz
  refine gz hK6 Hz (.neq rfl rfl .nil) fun Az Hz => ?_
  refine bc Hz 16 ?_ ?_
  · intro hb _; exact absurd hb (by simp)
  clear Hz; intro _ Hz
  refine wcf Hz ?_
  refine zss (hK5 _ _ ?_)
  replace Hz := Hz.oz [0, 1, 5, 8, 9, 6]
  refine wp_region_lit ?_
  refine goCh Hz (.move rfl <| .loadBR m22 (i := 101) rfl rfl U59 rfl fct3 (by simp) (by dsimp only [List.drop, List.take] <;> rfl) .nil) fun Az Hz => ?_
  refine plz (e_litR Hz m22 102 (mm := 2) rfl (.cons rfl rfl (.cons (.v _) (.cons (m22.rd (i := 100) rfl) .nil)) .nil) U36 fct5 rfl rfl rfl rfl rfl fun g29 Az w30 Hz m30 => ?_)
  have m32 := m30.freezeR 102 rfl
  refine plz (e_appR Hz m32 7 rfl rfl rfl (m32.rd (i := 102) rfl) U36 fct5 rfl rfl (by decide) (by simp; omega) rfl fun p31 c31 Az w33 Hz m33 => ?_)
  refine gz hK3 Hz (.assign rfl .nil) fun Az Hz => ?_
  refine wp_region_lit ?_
  refine goCh Hz (.add rfl rfl (r := ((k + 1 : Nat) : Int)) (by rw [IntWalk.u64_in _ (by omega)]; omega) <| .move rfl .nil) fun Az Hz => ?_
  refine wpList_nil ?_
  show ∃ n', n' < _ ∧ _
  have hE : (l.take k).map itD ++ [[.v (.int .i64 xb), .ns .u8 xd]] = (l.take (k + 1)).map itD := (itD_snoc hes).symm
  rw [hE] at m33 Hz
  exact ⟨l.length - (k + 1), by omega, k + 1, _, _, _, _, by omega, rfl, hb2, hbb2, Hz.only [0, 1, 5, 8, 9], m33.ren [(1, 1), (2, 2), (7, 7)] (by decide)⟩
 intro hb10 Hz; try simp only [QQ, Qax] at hb10
 revert Hz
 obtain rfl : k = l.length := by omega
 intro Hz
 rw [List.drop_length, show itemsE [] ++ T = T from rfl, List.take_length] at m8
 rw [List.take_length] at Hz
 refine wcf Hz ?_
 refine wp_exit ?_
 refine hK0 _ _ ?_
 refine regS Hz (.move rfl <| .assign rfl .nil) fun Az Hz => ?_
 refine rt1 Hz ?_
 have m39 := m8.freezeR 7 rfl
 exact ⟨_, _, _, _, rfl, m39.ren [(1, 1), (2, 2), (3, 7)] (by decide)⟩
theorem readItems_o (X : Cx) (B : Nat) (b : List Int) (p : Option Addr) (c : Nat) (w0 : World) (l : List (Int × List Int)) (T : List Int) (hb : b.length ≤ 1000000) (hbb : BytesL b) (hbe : b = enc (l.length : Int) ++ (itemsE l ++ T)) (hl : l.length ≤ 1000) (hlb : ∀ e ∈ l, (0 ≤ e.1 ∧ e.1 ≤ 255) ∧ e.2.length ≤ 32) (m0 : MemOk X w0 [(1, .box B 148 [.slice p (b).length c, .int .i64 0]), (2, .dat (.slice p (b).length c) (.ns .u8 (b)))] w0) :
   Calls Tryz.prog 76 #[.pointer (some ⟨B, 0, none⟩)] w0 fun e w' => ∃ (p' : Option Addr) (c' : Nat) (p3 : Option Addr) (c3 : Nat), e = .returned (.slice p3 (l.map itD).length c3) ∧ MemOk X w0 [(1, .box B 148 [.slice p' (T).length c', .int .i64 0]), (2, .dat (.slice p' (T).length c') (.ns .u8 (T))), (3, .dat (.slice p3 (l.map itD).length c3) (.l 2 (l.map itD)))] w' := by
 refine ent1 Tryz.func76 rfl Tryz.ntmps76 fun Az Hz => ?_
 refine regS Hz (.assign rfl .nil) fun Az Hz => ?_
 refine zsr fun K0 hK0 => ?_
 refine goCh Hz (.move rfl .nil) fun Az Hz => ?_
 refine plz (ecl Hz Tryz.func118 rfl (listT_o _ _ _ _ _ _ l T hb hbb hbe hl hlb (m0.into [(1, 1), (2, 2)] (by decide) rfl)) ?_)
 rintro e w4 ⟨p4, c4, p34, c34, rfl, hm4⟩
 have mx4 := m0.back hm4 [(1, 1), (2, 2), (20, 3)] (by decide); clear hm4 m0
 have m4 := mx4.oz [1, 2, 20]
 refine ⟨_, rfl, ?_⟩; intro Az Hz
 refine gz hK0 Hz (.assign rfl .nil) fun Az Hz => ?_
 refine rt1 Hz ?_
 exact ⟨_, _, _, _, rfl, m4.ren [(1, 1), (2, 2), (3, 20)] (by decide)⟩
end
section
set_option maxRecDepth 100000
set_option maxHeartbeats 4000000
end
section
def WrsB (ws : List (Int × List (Int × List Int))) : Prop := ∀ e ∈ ws, e.2.length ≤ 8 ∧ ItsB e.2
theorem WrsB.ok {ws : List (Int × List (Int × List Int))} (h : WrsB ws) : WrsOk ws := fun e he => ⟨Nat.le_trans (h e he).1 (by decide), (h e he).2.ok⟩
set_option maxRecDepth 100000
set_option maxHeartbeats 4000000
end
section
set_option maxRecDepth 100000
set_option maxHeartbeats 4000000
end
section
theorem VolS.sm {n : Nat} {x : VolV} (h : VolS n x) : x.place.length ≤ 256 ∧ x.pins.length ≤ n ∧ x.ws.length ≤ n ∧ ∀ e ∈ x.ws, e.2.length ≤ 8 := by
 obtain ⟨h1, h2, h3, h4, -⟩ := h
 refine ⟨?_, h3, h4, h1.its.2⟩
 obtain ⟨⟨a1, a2, a3, a4, a5, a6, a7, a8, a9, a10, a11⟩, b1, b2, b3⟩ := h1
 have h9 := a9.2
 have : (x.bl + x.pe - 1) / x.pe ≤ x.bl + x.pe - 1 := Int.ediv_le_self _ (by omega)
 have h8 : (x.bl + x.pe - 1) / x.pe ≤ x.bl := by
   have := Int.ediv_lt_of_lt_mul (a := x.bl + x.pe - 1) (b := x.bl + 1) (c := x.pe) (by omega) (by
     have : x.bl * 1 ≤ x.bl * x.pe := Int.mul_le_mul_of_nonneg_left (by omega) (by omega)
     rw [Int.add_mul]; omega)
   omega
 omega
theorem pins_eq {P L : List Int} (h : P.Perm L) (h1 : P.Pairwise (· ≤ ·)) (h2 : L.Pairwise (· ≤ ·)) : P = L := h.eq_of_pairwise (le := (· ≤ ·)) (fun a b _ _ h1 h2 => by omega) h1 h2
def pinT (fl n : Int) (z : Int) : Int := fl + z % (n - fl + 1)
abbrev stZ (bl sz : Int) : List (List Int) := List.replicate bl.toNat (List.replicate sz.toNat 0)
abbrev stL (bl sz : Int) (ws : List PWr) (t : Nat) : List (List Int) := (ws.take t).foldl stW (stZ bl sz)
def wantF (i : Nat) (d : List Int) (x : PI) : List Int := if x.1 = (i : Int) then x.2 else d
theorem doR_put_yes {bl sz to ne fl at0 ix : Int} {hi : Bool} {pins : List Int} {ws : List PWr} {it : List PI} (h : hi = false) (hI : ItemsR bl sz it) : doR bl sz to ne fl hi pins ws 2 at0 ix it = (ne, hi, fl, ws ++ [((ws.length : Int) + 1, it)], 0) := by
 subst h; simp [doR, putR, wrR, hI]
set_option maxRecDepth 100000
set_option maxHeartbeats 4000000
end
section
noncomputable def doV (x : VolV) (c : Cm) : VolV × Int :=
 if c.kd = 4 then ({ x with pins := (pinR x.hi x.fl c.at0 x.ws.length x.pins).1 }, (pinR x.hi x.fl c.at0 x.ws.length x.pins).2)
 else if c.kd = 5 then ({ x with pins := (unpinR x.hi c.at0 x.pins).1 }, (unpinR x.hi c.at0 x.pins).2)
 else ({ x with ne := (doR x.bl x.sz x.to x.ne x.fl x.hi x.pins x.ws c.kd c.at0 c.ix c.its).1, hi := (doR x.bl x.sz x.to x.ne x.fl x.hi x.pins x.ws c.kd c.at0 c.ix c.its).2.1, fl := (doR x.bl x.sz x.to x.ne x.fl x.hi x.pins x.ws c.kd c.at0 c.ix c.its).2.2.1, ws := (doR x.bl x.sz x.to x.ne x.fl x.hi x.pins x.ws c.kd c.at0 c.ix c.its).2.2.2.1 }, (doR x.bl x.sz x.to x.ne x.fl x.hi x.pins x.ws c.kd c.at0 c.ix c.its).2.2.2.2)
def repV (y : VolV) (e : Int) : Int × Int × Int := if e = 0 then ((y.ws.length : Int), y.fl, y.ne) else (0, 0, 0)
theorem repV_of {y : VolV} {e rl rf rn : Int} (h : (e ≠ 0 ∧ rl = 0 ∧ rf = 0 ∧ rn = 0) ∨ (e = 0 ∧ rl = y.ws.length ∧ rf = y.fl ∧ rn = y.ne)) : repV y e = (rl, rf, rn) := by
 rcases h with ⟨h1, rfl, rfl, rfl⟩ | ⟨rfl, rfl, rfl, rfl⟩
 · rw [repV, if_neg h1]
 rw [repV, if_pos rfl]
theorem doV_s {n : Nat} {x : VolV} {c : Cm} (hx : VolS n x) (hb : ∀ e ∈ c.its, BytesL e.2) : VolS (n + 1) (doV x c).1 ∧ (doV x c).1.vo = x.vo := by
 obtain ⟨h1, h2, h3, h4, h5⟩ := hx
 unfold doV
 by_cases k4 : c.kd = 4
 · rw [if_pos k4]
   cases hd : pinR x.hi x.fl c.at0 x.ws.length x.pins with
   | mk pins' e9 =>
     obtain ⟨g1, g2, g3⟩ := h1.pin h2 hd
     exact ⟨⟨g1, g2, by simp only; omega, by simp only; omega, h5⟩, rfl⟩
 rw [if_neg k4]
 by_cases k5 : c.kd = 5
 · rw [if_pos k5]
   cases hd : unpinR x.hi c.at0 x.pins with
   | mk pins' e9 =>
     obtain ⟨g1, g2, g3⟩ := h1.unpin h2 hd
     exact ⟨⟨g1, g2, by simp only; omega, by simp only; omega, h5⟩, rfl⟩
 rw [if_neg k5]
 obtain ⟨ne', hi', fl', ws', e9, hd⟩ : ∃ a b d e f, doR x.bl x.sz x.to x.ne x.fl x.hi x.pins x.ws c.kd c.at0 c.ix c.its = (a, b, d, e, f) := ⟨_, _, _, _, _, rfl⟩
 obtain ⟨g1, g2, g3⟩ := h1.do h2 hd
 rw [hd]
 exact ⟨⟨g1, g2, by simp only; omega, by simp only; omega, doR_by hd h5 hb⟩, rfl⟩
set_option maxHeartbeats 4000000
theorem pDo_v (S : Nat → Prop) (x : VolV) (c : Cm) (n : Nat) (hx : VolS n x) (hn : n ≤ 800000) (hil : c.its.length ≤ 1000000) (hio : ItsOk c.its) (p1 p2 p3 q1 pi : Option Addr) (c1 c2 c3 nx n1 d1 ni ci : Nat) (v1 v2 v3 v4 v5 : Int) (w0 : World) (h1 : Rd S w0 (.slice p1 x.place.length c1) (.ns .i64 x.place)) (h2 : Rd S w0 (.slice p2 x.pins.length c2) (.ns .i64 x.pins)) (h3 : Rd S w0 (.slice p3 nx c3) (.l 2 (x.ws.map wrD))) (h4 : Rd S w0 (.slice pi ni ci) (.l 2 (c.its.map itD))) :
   Calls Tryz.prog 96 #[.agg #[.int .i64 x.vo, .int .i64 x.bl, .int .i64 x.sz, .int .i64 x.pe, .slice p1 x.place.length c1, .int .i64 x.to, .int .i64 x.ne, .bool x.hi, .int .i64 x.fl, .slice p2 x.pins.length c2, .slice p3 nx c3], .agg #[.int .i64 c.kd, .int .i64 v1, .int .i64 v2, .int .i64 v3, .int .i64 v4, .slice q1 n1 d1, .int .i64 v5, .int .i64 c.at0, .int .i64 c.ix, .slice pi ni ci]] w0 fun e w' => ∃ (y : VolV) (e9 rl rf rn : Int) (p1 p2 p3 : Option Addr) (d1 d2 d3 : Nat), e = .returned (.tuple #[.agg #[.int .i64 y.vo, .int .i64 y.bl, .int .i64 y.sz, .int .i64 y.pe, .slice p1 y.place.length d1, .int .i64 y.to, .int .i64 y.ne, .bool y.hi, .int .i64 y.fl, .slice p2 y.pins.length d2, .slice p3 (y.ws.map wrD).length d3], .agg #[.int .i64 e9, .int .i64 rl, .int .i64 rf, .int .i64 rn, .slice none 0 0]]) ∧ doV x c = (y, e9) ∧ repV y e9 = (rl, rf, rn) ∧ Rd (Out S w0) w' (.slice p1 y.place.length d1) (.ns .i64 y.place) ∧ Rd (Out S w0) w' (.slice p2 y.pins.length d2) (.ns .i64 y.pins) ∧ Rd (Out S w0) w' (.slice p3 (y.ws.map wrD).length d3) (.l 2 (y.ws.map wrD)) ∧ Below w0.heap.size w0 w' := by
 obtain rfl : nx = (x.ws.map wrD).length := by obtain ⟨pq, cq, hv, _⟩ := h3.l_shape; injection hv with _ e2 _
 obtain rfl : ni = c.its.length := by obtain ⟨pq, cq, hv, _⟩ := h4.l_shape; injection hv with _ e2 _; rw [List.length_map] at e2; exact e2
 have hF : ∀ (M : Mm), (∀ b, ¬ Own M b) → ∀ b, S b → Free (cx S w0) M b := fun M hM b hb => ⟨fun _ => hb, hM b⟩
 have m1 := (MemOk.start S w0).dat 1 rfl (h1.cast (fun b hb => hF _ (by rintro b ⟨j, s, hj, _⟩; cases hj) b hb))
 have m2 := m1.dat 2 rfl (h2.cast (fun b hb => hF _ (by rintro b ⟨j, s, hj, hs⟩; rw [lk_cons] at hj; split at hj; (· cases hj; cases hs); cases hj) b hb))
 have m3 := m2.dat 3 rfl (h3.cast (fun b hb => hF _ (by rintro b ⟨j, s, hj, hs⟩; rw [lk_cons] at hj; split at hj; (· cases hj; cases hs); rw [lk_cons] at hj; split at hj; (· cases hj; cases hs); cases hj) b hb))
 have m4 := m3.dat 4 rfl (h4.cast (fun b hb => hF _ (by rintro b ⟨j, s, hj, hs⟩; rw [lk_cons] at hj; split at hj; (· cases hj; cases hs); rw [lk_cons] at hj; split at hj; (· cases hj; cases hs); rw [lk_cons] at hj; split at hj; (· cases hj; cases hs); cases hj) b hb))
 obtain ⟨vo, bl, sz, pe, place, to, ne, hi, fl, pins, ws⟩ := x
 obtain ⟨kd, cvo, cbl, csz, cpe, cpl, cto, at0, ix, its⟩ := c
 obtain ⟨g1, g2, g3, g4, g5⟩ := hx
 simp only at *
 have hne : -1000000000000000 ≤ ne ∧ ne ≤ 1000000000000000 := by
   obtain ⟨⟨a1, a2, a3, a4, a5, a6, a7, a8, a9, a10, a11⟩, b1, b2, b3⟩ := g1
   omega
 have hpl : place.length ≤ 1000000 := by
   have := (VolS.sm (x := ⟨vo, bl, sz, pe, place, to, ne, hi, fl, pins, ws⟩) ⟨g1, g2, g3, g4, g5⟩).1
   simp only at this; omega
 have hok : WrsOk ws := g1.its.1
 by_cases k4 : kd = 4
 · subst k4
   refine (yDo4 (cx S w0) vo bl sz pe to ne fl hi place pins ws p1 p2 p3 c1 c2 c3 v1 v2 v3 v4 v5 at0 ix q1 n1 d1 pi its.length ci w0 hpl (by omega) (by omega) hok (m4.only [1, 2, 3])).mono ?_
   rintro e w' ⟨pins', e9, rl, rf, rn, p1', d1', p2', d2', p3', d3', rfl, hd, hr, m⟩
   have ma := m.freezeSN 6 rfl (by intro b hb; cases hb)
   have mb := ma.freezeS 7 rfl (by intro b hb; cases hb)
   refine ⟨⟨vo, bl, sz, pe, place, to, ne, hi, fl, pins', ws⟩, e9, rl, rf, rn, _, _, _, _, _, _, rfl, ?_, repV_of hr, mb.outD (i := 5) rfl, mb.outD (i := 6) rfl, mb.outD (i := 7) rfl, mb.below⟩
   simp only [doV, if_true, hd]
 by_cases k5 : kd = 5
 · subst k5
   refine (yDo5 (cx S w0) vo bl sz pe to ne fl hi place pins ws p1 p2 p3 c1 c2 c3 v1 v2 v3 v4 v5 at0 ix q1 n1 d1 pi its.length ci w0 hpl (by omega) (by omega) hok (m4.only [1, 2, 3])).mono ?_
   rintro e w' ⟨pins', e9, rl, rf, rn, p1', d1', p2', d2', p3', d3', rfl, hd, hr, m⟩
   have ma := m.freezeSN 6 rfl (by intro b hb; cases hb)
   have mb := ma.freezeS 7 rfl (by intro b hb; cases hb)
   refine ⟨⟨vo, bl, sz, pe, place, to, ne, hi, fl, pins', ws⟩, e9, rl, rf, rn, _, _, _, _, _, _, rfl, ?_, repV_of hr, mb.outD (i := 5) rfl, mb.outD (i := 6) rfl, mb.outD (i := 7) rfl, mb.below⟩
   simp only [doV, hd]; rfl
 obtain ⟨ne', hi', fl', ws', e9, hd⟩ : ∃ a b d e f, doR bl sz to ne fl hi pins ws kd at0 ix its = (a, b, d, e, f) := ⟨_, _, _, _, _, rfl⟩
 refine (xDo_is (cx S w0) vo bl sz pe to ne fl hi place pins ws its p1 p2 p3 c1 c2 c3 pi ci kd v1 v2 v3 v4 v5 at0 ix q1 n1 d1 w0 ne' hi' fl' ws' e9 hd hpl k4 k5 hne (by omega) (by omega) hil hio hok (m4.only [1, 2, 3, 4])).mono ?_
 rintro e w' ⟨rl, rf, rn, p1', d1', p2', d2', p3', d3', rfl, hr, m⟩
 have mb := m.freezeS 7 rfl (by intro b hb; cases hb)
 refine ⟨⟨vo, bl, sz, pe, place, to, ne', hi', fl', pins, ws'⟩, e9, rl, rf, rn, _, _, _, _, _, _, rfl, ?_, repV_of hr, mb.outD (i := 5) rfl, mb.outD (i := 6) rfl, mb.outD (i := 7) rfl, mb.below⟩
 simp only [doV, if_neg k4, if_neg k5, hd]
theorem vnewY (kd vo bl sz pe to at0 ix : Int) (place : List Int) (pp pi : Option Addr) (cp ni ci : Nat) (w0 : World) (h0 : Rd (fun _ => True) w0 (.slice pp place.length cp) (.ns .i64 place)) (hn : place.length ≤ 1000000) (hN : NewOk vo bl sz pe to place) :
   Calls Tryz.prog 95 #[.agg #[.int .i64 kd, .int .i64 vo, .int .i64 bl, .int .i64 sz, .int .i64 pe, .slice pp place.length cp, .int .i64 to, .int .i64 at0, .int .i64 ix, .slice pi ni ci]] w0 fun e w' => ∃ p c, e = .returned (.tuple #[.agg #[.int .i64 vo, .int .i64 bl, .int .i64 sz, .int .i64 pe, .slice p place.length c, .int .i64 to, .int .i64 0, .bool (decide (0 < to)), .int .i64 0, .slice none 0 0, .slice none 0 0], .int .i64 0]) ∧ Rd (New w0) w' (.slice p place.length c) (.ns .i64 place) ∧ Below w0.heap.size w0 w' :=
 (vnew_any kd vo bl sz pe to at0 ix place pp pi cp ni ci w0 h0 hn).mono fun e w' h => h.elim (fun h => h.2) (fun h => absurd hN h.1)
theorem vnewN (kd vo bl sz pe to at0 ix : Int) (place : List Int) (pp pi : Option Addr) (cp ni ci : Nat) (w0 : World) (h0 : Rd (fun _ => True) w0 (.slice pp place.length cp) (.ns .i64 place)) (hn : place.length ≤ 1000000) (hN : ¬ NewOk vo bl sz pe to place) :
   Calls Tryz.prog 95 #[.agg #[.int .i64 kd, .int .i64 vo, .int .i64 bl, .int .i64 sz, .int .i64 pe, .slice pp place.length cp, .int .i64 to, .int .i64 at0, .int .i64 ix, .slice pi ni ci]] w0 fun e w' => e = .returned (.tuple #[.agg #[.int .i64 0, .int .i64 0, .int .i64 0, .int .i64 0, .slice none 0 0, .int .i64 0, .int .i64 0, .bool false, .int .i64 0, .slice none 0 0, .slice none 0 0], .int .i64 23]) ∧ Below w0.heap.size w0 w' :=
 (vnew_any kd vo bl sz pe to at0 ix place pp pi cp ni ci w0 h0 hn).mono fun e w' h => h.elim (fun h => absurd h.1 hN) (fun h => h.2)
end
end Go.Proofs.YtkehgingagggaaaGreat.K
section
namespace Go.Proofs.YtkehgingagggaaaGreat.K
open Go.ChangeShapes Go.WideShapes Go.ChangeAt Go.RowKit Go.MapKept
set_option linter.unusedVariables false
set_option linter.unusedSimpArgs false
theorem setSelf9 {α : Type} {l : List α} {j : Nat} {x : α} (h : l[j]? = some x) : l.set j x = l := by
 obtain ⟨h1, h2⟩ := List.getElem?_eq_some_iff.1 h
 rw [← h2]; exact List.set_getElem_self h1
section
variable {w w0 : World} {X : Cx} {M : Mm} {P : Program} {n : Nat} {T : List (Nat × Value)} {a : Act} {tt : TypeId} {pos : String} {af : Array Edge} {gd : Option (Nat × Bool)}
structure KeyT (P : Program) (kt : TypeId) (K : Value → Prop) : Prop where
 chk : ∀ (w : World) (k : Value) (e : Bool), K k → (Instr.checkKey e 10000 kt k).run P w = .ok () w
 fnd : ∀ (w : World) (k : Value) (es : List MapEntry), K k → (∀ e ∈ es, K e.key) → (es.map (·.key)).Nodup → (∀ j e, es[j]? = some e → e.key = k → (Instr.findKey kt k es).run P w = .ok (some (j, e.val)) w) ∧ ((∀ e ∈ es, e.key ≠ k) → (Instr.findKey kt k es).run P w = .ok none w)
 stay : ∀ (w : World) (k : Value), K k → (Instr.keyThatStays k k).run P w = .ok k w
theorem nodup_at {α : Type} {l : List α} {i j : Nat} {x : α} (h : l.Nodup) (h1 : l[i]? = some x) (h2 : l[j]? = some x) : i = j :=
 (List.getElem?_inj (List.getElem?_eq_some_iff.1 h1).1 h).1 (h1.trans h2.symm)
theorem KeyT.int {kt : TypeId} {q : IntKind} (hu : P.underlying kt = some (.int q)) : KeyT P kt (fun k => ∃ x, k = .int q x) where
 chk w k e h := by
   obtain ⟨x, rfl⟩ := h
   exact run_checkKey hu (by simp [IsKey]) e 9999
 fnd w k es h hes hnd := by
   obtain ⟨x, rfl⟩ := h
   have hk : IsKey (.int q) (.int q x) := by simp [IsKey]
   have hl : ∀ e ∈ es, IsKey (.int q) e.key := fun e he => by obtain ⟨y, hy⟩ := hes e he; rw [hy]; simp [IsKey]
   rcases findNow_spec hk es 0 hl with ⟨h1, h2⟩ | ⟨j, e, h1, h2, h3⟩
   · refine ⟨fun j e he hek => absurd hek (h2 e (List.mem_of_getElem? he)), fun _ => run_findKey hu h1⟩
   refine ⟨fun j' e' he' hek => ?_, fun hno => absurd h3 (hno e (List.mem_of_getElem? h2))⟩
   have a1 : (es.map (·.key))[j]? = some (.int q x) := by rw [List.getElem?_map, h2]; exact congrArg some h3
   have a2 : (es.map (·.key))[j']? = some (.int q x) := by rw [List.getElem?_map, he']; exact congrArg some hek
   obtain rfl := nodup_at hnd a1 a2
   rw [h2] at he'; injection he' with he'; subst he'
   have := run_findKey (w := w) hu h1
   rw [Nat.zero_add] at this
   exact this
 stay w k h := by
   obtain ⟨x, rfl⟩ := h
   have := sameBits_self (d := .int q) (k := .int q x) (by simp [IsKey]) 10000
   simp [Instr.keyThatStays, this, Sem.run]
/-! ### Looking up -/
theorem y_lookT (h : Has n T a) {d : Option Tmp} {t kt et : TypeId} {x y : Operand} {g : Nat} {k : Value} {K : Value → Prop} {es : Array MapEntry} {ck j : Nat} {v : Value} (hx : evT T x = some (.map (some g))) (hy : evT T y = some k) (hu : P.underlying t = some (.map kt et)) (hK : KeyT P kt K) (hkk : K k) (hb : w.heap[g]? = some (.map es ck)) (hf : (Instr.findKey kt k es.toList).run P w = .ok (some (j, v)) w) : Yl P a w ⟨d, .lookup t x y true, tt, pos, af, gd⟩ (.tuple #[v, .bool true]) := by
 show (execOp _ _).run P w = _
 simp [execOp, h.ev hx, h.ev hy, Instr.lookup, run_underlying hu, MapKept.run_getObj_map hb, hK.chk w k es.isEmpty hkk, hf, Result.andThen]
theorem y_lookT1 (h : Has n T a) {d : Option Tmp} {t kt et : TypeId} {x y : Operand} {g : Nat} {k : Value} {K : Value → Prop} {es : Array MapEntry} {ck j : Nat} {v : Value} (hx : evT T x = some (.map (some g))) (hy : evT T y = some k) (hu : P.underlying t = some (.map kt et)) (hK : KeyT P kt K) (hkk : K k) (hb : w.heap[g]? = some (.map es ck)) (hf : (Instr.findKey kt k es.toList).run P w = .ok (some (j, v)) w) : Yl P a w ⟨d, .lookup t x y false, tt, pos, af, gd⟩ v := by
 show (execOp _ _).run P w = _
 simp [execOp, h.ev hx, h.ev hy, Instr.lookup, run_underlying hu, MapKept.run_getObj_map hb, hK.chk w k es.isEmpty hkk, hf, Result.andThen]
theorem y_lookF (h : Has n T a) {d : Option Tmp} {t kt et : TypeId} {x y : Operand} {g : Nat} {k z : Value} {K : Value → Prop} {es : Array MapEntry} {ck : Nat} (hx : evT T x = some (.map (some g))) (hy : evT T y = some k) (hu : P.underlying t = some (.map kt et)) (hz : (P.info? et).bind (·.zero) = some z) (hK : KeyT P kt K) (hkk : K k) (hb : w.heap[g]? = some (.map es ck)) (hf : (Instr.findKey kt k es.toList).run P w = .ok none w) : Yl P a w ⟨d, .lookup t x y true, tt, pos, af, gd⟩ (.tuple #[z, .bool false]) := by
 show (execOp _ _).run P w = _
 cases hi : P.info? et with
 | none => simp [hi] at hz
 | some it =>
   have hzz : it.zero = some z := by simpa [hi] using hz
   simp [execOp, h.ev hx, h.ev hy, Instr.lookup, run_underlying hu, MapKept.run_getObj_map hb, hK.chk w k es.isEmpty hkk, hf, Result.andThen, zeroValue, typeInfo, hi, hzz]
/-! ### Making, writing -/
theorem Keep.setO (w : World) (g : Nat) (o : Obj) : Keep (fun b => b = g) w { w with heap := w.heap.setIfInBounds g o } :=
 ⟨rfl, rfl, rfl, by show _ ≤ (w.heap.setIfInBounds g o).size; rw [Array.size_setIfInBounds]; exact Nat.le_refl _, fun k hk hn => by show (w.heap.setIfInBounds g o)[k]? = _; rw [Array.getElem?_setIfInBounds]; rw [if_neg (fun e => hn e.symm)]⟩
theorem e_makeMap {Q : Exit → Act → World → Prop} {K : Act → World → Prop} (ha : Has n T a) (m : MemOk X w0 M w) (i : Nat) (mm : Nat) {d : Tmp} {t : TypeId} (ht : Nat.blt d n = true) (h : ∀ g a' w', Has n ((d, .map (some g)) :: T) a' → MemOk X w0 ((i, .mp g mm [] []) :: M) w' → Below w.heap.size w w' → g = w.heap.size → K a' w') : Oper.wp P ⟨some d, .makeMap t none, tt, pos, af, gd⟩ a w K Q := by
 have hr : (execOp a.eval ⟨some d, .makeMap t none, tt, pos, af, gd⟩).run P w = .ok (.value (.map (some w.heap.size))) (w.alloc (.map #[] 0)) := by
   simp [execOp, Instr.makeMap]
 show Oper.upon P _ a K Q _
 rw [hr]
 refine h _ _ _ (ha.put ht _) ?_ ((Below.refl _ w).alloc (Nat.le_refl _) _) rfl
 refine m.upd i _ (Keep.alloc _ _ _) (fun b hb => .inr (by injection hb with hb; omega)) (fun _ _ => ⟨⟨[], 0, rfl, ?_, ⟨List.nodup_nil, List.nodup_nil, fun e he => by cases he⟩, rfl, (fun r hr => by cases hr), (fun j e r he => by cases he)⟩, .inl m.keep.size⟩)
 show (w.heap.push _)[w.heap.size]? = _
 simp
def mpuK (ks : List Value) (k : Value) : Option Nat → List Value
 | none => ks ++ [k]
 | some _ => ks
def mpuR (rows : List (List D)) (r : List D) : Option Nat → List (List D)
 | none => rows ++ [r]
 | some j => rows.set j r
theorem e_mapUpdate {Q : Exit → Act → World → Prop} {K9 : Act → World → Prop} (ha : Has n T a) (m : MemOk X w0 M w) (i : Nat) {t kt et : TypeId} {x y z : Operand} {g mm : Nat} {ks : List Value} {rows : List (List D)} {k : Value} {vs : List Value} {r : List D} {K : Value → Prop} (hm : lk M i = some (.mp g mm ks rows)) (hx : evT T x = some (.map (some g))) (hy : evT T y = some k) (hz : evT T z = some (.agg vs.toArray)) (hu : P.underlying t = some (.map kt et)) (hK : KeyT P kt K) (hks : ∀ x ∈ ks, K x) (hkk : K k) (h1 : vs.all (fun v => v.oneCell') = true) (hl : vs.length = mm) (hR : RdL (Free X M) w vs r)
   (jo : Option Nat) (hj : match jo with | none => ∀ x ∈ ks, x ≠ k | some j => ks[j]? = some k)
   (h : ∀ w', MemOk X w0 ((i, .mp g mm (mpuK ks k jo) (mpuR rows r jo)) :: M) w' → Keep (fun b => b = g) w w' → K9 a w') : Oper.wp P ⟨none, .mapUpdate t x y z, tt, pos, af, gd⟩ a w K9 Q := by
 obtain ⟨⟨es, ck, e1, e2, e3, e4, e5, e6⟩, eN⟩ := m.ok i _ hm
 subst e1
 have hfk := hK.fnd w k es hkk (fun e he => hks _ (List.mem_map.2 ⟨e, he, rfl⟩)) e3.nd
 have hgl : g < w.heap.size := (Array.getElem?_eq_some_iff.1 e2).1
 have hrl : r.length = mm := by rw [← hR.len, hl]
 have hset : ∀ (o : Obj), (setObj g o).run P w = .ok () { w with heap := w.heap.setIfInBounds g o } := fun o => MapKept.run_setObj_map o e2
 have hat : ∀ (o : Obj), ({ w with heap := w.heap.setIfInBounds g o } : World).heap[g]? = some o := fun o => by
   show (w.heap.setIfInBounds g o)[g]? = some o
   rw [Array.getElem?_setIfInBounds_self_of_lt hgl]
 have hpast : ∀ (es' : List MapEntry) (ck' : Nat) (rows' : List (List D)), es'.map (·.key) = mpuK (es.map (·.key)) k jo → rows' = mpuR rows r jo → MapK es' ck' → es'.length = rows'.length → (∀ r ∈ rows', r.length = mm) →
     (∀ (j : Nat) (e : MapEntry) (r' : List D), es'[j]? = some e → rows'[j]? = some r' → (es[j]? = some e ∧ rows[j]? = some r') ∨ (e.val = .agg vs.toArray ∧ r' = r)) →
     (execOp a.eval ⟨none, .mapUpdate t x y z, tt, pos, af, gd⟩).run P w = .ok .skip { w with heap := w.heap.setIfInBounds g (.map es'.toArray ck') } → Oper.wp P ⟨none, .mapUpdate t x y z, tt, pos, af, gd⟩ a w K9 Q := by
   intro es' ck' rows' a1 a2 a3 a4 a5 a6 hrun
   show Oper.upon P _ a K9 Q _
   rw [hrun]
   have hkp := Keep.setO w g (.map es'.toArray ck')
   refine h _ (m.upd i _ (hkp.mono (fun b e => ⟨_, hm, by rw [show b = g from e]; rfl⟩)) (fun b hb => .inl ⟨_, hm, hb⟩) (fun hF _ => ?_)) hkp
   have hmv : ∀ {x : Value} {d : D}, Rd (Free X M) w x d → Rd (Free X ((i, .mp g mm (mpuK (es.map (·.key)) k jo) (mpuR rows r jo)) :: M)) { w with heap := w.heap.setIfInBounds g (.map es'.toArray ck') } x d := fun hd => hd.mono hkp.size (fun b hb hS => ⟨hkp.2.2.2.2 b hb (fun e => hS.2 ⟨i, _, hm, by rw [e]; rfl⟩), hF b hb hS⟩)
   refine ⟨⟨es', ck', a1, hat _, a3, by rw [a4, a2], by rw [← a2]; exact a5, fun j e r' he hr => ?_⟩, eN⟩
   rw [← a2] at hr
   rcases a6 j e r' he hr with ⟨b1, b2⟩ | ⟨b1, b2⟩
   · obtain ⟨vs', c1, c2, c3, c4⟩ := e6 j e r' b1 b2
     exact ⟨vs', c1, c2, c3, fun q x d d1 d2 => hmv (c4 q x d d1 d2)⟩
   subst b2
   exact ⟨vs, b1, hl, List.all_eq_true.1 h1, fun q x d d1 d2 => hmv (hR.get q x d d1 d2)⟩
 cases jo with
 | none =>
   have hno : ∀ e ∈ es, e.key ≠ k := fun e he => hj _ (List.mem_map.2 ⟨e, he, rfl⟩)
   refine hpast (es ++ [{ key := k, val := .agg vs.toArray, born := ck }]) (ck + 1) _ (by rw [List.map_append]; rfl) rfl ⟨?_, ?_, ?_⟩ (by simp [mpuR, e4]) ?_ ?_ ?_
   · rw [List.map_append]
     refine List.nodup_append.2 ⟨e3.nd, by simp, fun a ha b hb => ?_⟩
     obtain ⟨e, he, rfl⟩ := List.mem_map.1 ha
     simp at hb; subst hb
     exact hno e he
   · rw [List.map_append]
     refine List.nodup_append.2 ⟨e3.bn, by simp, fun a ha b hb => ?_⟩
     obtain ⟨e, he, rfl⟩ := List.mem_map.1 ha
     simp at hb; subst hb
     have := e3.lt e he; omega
   · intro e he
     rcases List.mem_append.1 he with he | he
     · have := e3.lt e he; omega
     simp at he; subst he; exact Nat.lt_succ_self _
   · intro r' hr'
     rcases List.mem_append.1 hr' with hr' | hr'
     · exact e5 r' hr'
     simp at hr'; subst hr'; exact hrl
   · intro j e r' he hr'
     by_cases hjl : j < es.length
     · rw [List.getElem?_append_left hjl] at he
       rw [show mpuR rows r none = rows ++ [r] from rfl, List.getElem?_append_left (by omega)] at hr'
       exact .inl ⟨he, hr'⟩
     rw [List.getElem?_append_right (by omega)] at he
     rw [show mpuR rows r none = rows ++ [r] from rfl, List.getElem?_append_right (by omega)] at hr'
     have hj0 : j - es.length = 0 := by
       rcases Nat.eq_zero_or_pos (j - es.length) with h0 | h0
       · exact h0
       rw [List.getElem?_eq_none (by simp; omega)] at he; cases he
     rw [hj0] at he
     rw [show j - rows.length = 0 by omega] at hr'
     injection he with he; injection hr' with hr'
     exact .inr ⟨by rw [← he], hr'.symm⟩
   simp [execOp, ha.ev hx, ha.ev hy, ha.ev hz, Instr.mapUpdate, run_underlying hu, MapKept.run_getObj_map e2, hK.chk w k false hkk, hfk.2 hno, hset, Result.andThen]
 | some j =>
   have hjk : (es.map (·.key))[j]? = some k := hj
   rw [List.getElem?_map] at hjk
   cases hej : es[j]? with
   | none => rw [hej] at hjk; cases hjk
   | some e0 =>
     rw [hej] at hjk; injection hjk with hjk
     have hjl := (List.getElem?_eq_some_iff.1 hej).1
     have hset' : es.modify j (fun e => { e with key := k, val := .agg vs.toArray }) = es.set j { e0 with key := k, val := .agg vs.toArray } := by
       apply List.ext_getElem?
       intro q
       rw [List.getElem?_modify, List.getElem?_set]
       by_cases hq : j = q
       · subst hq; simp [hej, hjl]; rw [(List.getElem?_eq_some_iff.1 hej).2]
       simp [hq]
     refine hpast (es.set j { e0 with key := k, val := .agg vs.toArray }) ck _ ?_ rfl ⟨?_, ?_, ?_⟩ (by simp [mpuR, e4]) ?_ ?_ ?_
     · rw [List.map_set]
       show _ = es.map (·.key)
       exact setSelf9 (by rw [List.getElem?_map, hej]; exact congrArg some hjk)
     · rw [List.map_set, setSelf9 (by rw [List.getElem?_map, hej]; exact congrArg some hjk)]; exact e3.nd
     · rw [List.map_set, setSelf9 (by rw [List.getElem?_map, hej]; rfl)]; exact e3.bn
     · intro e he
       rcases List.mem_or_eq_of_mem_set he with he | he
       · exact e3.lt e he
       rw [he]; exact e3.lt e0 (List.mem_of_getElem? hej)
     · intro r' hr'
       rcases List.mem_or_eq_of_mem_set hr' with hr' | hr'
       · exact e5 r' hr'
       rw [hr']; exact hrl
     · intro q e r' he hr'
       by_cases hq : j = q
       · subst hq
         rw [List.getElem?_set_self hjl] at he
         rw [show mpuR rows r (some j) = rows.set j r from rfl, List.getElem?_set_self (by omega)] at hr'
         injection he with he; injection hr' with hr'
         exact .inr ⟨by rw [← he], hr'.symm⟩
       rw [List.getElem?_set_ne hq] at he
       rw [show mpuR rows r (some j) = rows.set j r from rfl, List.getElem?_set_ne hq] at hr'
       exact .inl ⟨he, hr'⟩
     have hst := hK.stay w k hkk
     have hkk0 : e0.key = k := hjk
     simp [execOp, ha.ev hx, ha.ev hy, ha.ev hz, Instr.mapUpdate, run_underlying hu, MapKept.run_getObj_map e2, hK.chk w k false hkk, hfk.1 j e0 hej hjk, hset, Result.andThen, hej, hkk0, hst, hset']
/-! ### Ranging -/
theorem MemOk.mpOpen (m : MemOk X w0 M w) {i g mm : Nat} {ks : List Value} {rows : List (List D)} (hm : lk M i = some (.mp g mm ks rows)) : ∃ es ck, es.map (·.key) = ks ∧ es.length = rows.length ∧ MapK es ck ∧ MemOk X w0 ((i, .mpE g mm es ck rows) :: M) w := by
 obtain ⟨⟨es, ck, e1, e2⟩, eN⟩ := m.ok i _ hm
 exact ⟨es, ck, e1, e2.2.2.1, e2.2.1, m.upd i _ (Keep.refl _ _) (fun b hb => .inl ⟨_, hm, hb⟩) (fun hF _ => ⟨e2.mono (Nat.le_refl _) (fun b hb hS => ⟨rfl, hF b hb hS⟩) rfl, eN⟩)⟩
theorem MemOk.mpClose (m : MemOk X w0 M w) {i g mm : Nat} {es : List MapEntry} {ck : Nat} {rows : List (List D)} (hm : lk M i = some (.mpE g mm es ck rows)) : MemOk X w0 ((i, .mp g mm (es.map (·.key)) rows) :: M) w := by
 obtain ⟨e2, eN⟩ := m.ok i _ hm
 exact m.upd i _ (Keep.refl _ _) (fun b hb => .inl ⟨_, hm, hb⟩) (fun hF _ => ⟨⟨es, ck, rfl, e2.mono (Nat.le_refl _) (fun b hb hS => ⟨rfl, hF b hb hS⟩) rfl⟩, eN⟩)
theorem e_range {Q : Exit → Act → World → Prop} {K : Act → World → Prop} (ha : Has n T a) (m : MemOk X w0 M w) (i2 : Nat) {i g mm : Nat} {es : List MapEntry} {ck : Nat} {rows : List (List D)} {d : Tmp} {t kt et : TypeId} {x : Operand} (hm : lk M i = some (.mpE g mm es ck rows)) (hx : evT T x = some (.map (some g))) (hu : P.underlying t = some (.map kt et)) (ht : Nat.blt d n = true)
   (h : ∀ r a' w', Has n ((d, .pointer (some ⟨r, 0, none⟩)) :: T) a' → MemOk X w0 ((i2, .obj r (.mapIter (some g) ck #[] ck)) :: M) w' → K a' w') : Oper.wp P ⟨some d, .range t x, tt, pos, af, gd⟩ a w K Q := by
 obtain ⟨e2, eN⟩ := m.ok i _ hm
 have hr : (execOp a.eval ⟨some d, .range t x, tt, pos, af, gd⟩).run P w = .ok (.value (.pointer (some ⟨w.heap.size, 0, none⟩))) (w.alloc (.mapIter (some g) ck #[] ck)) := by
   have := run_range_map (P := P) w t kt et g es.toArray ck hu e2.1
   simp [execOp, ha.ev hx, this]
 show Oper.upon P _ a K Q _
 rw [hr]
 refine h _ _ _ (ha.put ht _) (m.upd i2 _ (Keep.alloc _ _ _) (fun b hb => .inr (by injection hb with hb; omega)) (fun _ _ => ⟨?_, .inl m.keep.size⟩))
 show (w.heap.push _)[w.heap.size]? = _
 simp
theorem e_next {Q : Exit → Act → World → Prop} {K : Act → World → Prop} (ha : Has n T a) (m : MemOk X w0 M w) {i i2 g mm r : Nat} {es : List MapEntry} {ck : Nat} {rows : List (List D)} {seen : Array Nat} {d : Tmp} {x : Operand} (hm : lk M i = some (.mpE g mm es ck rows)) (hr : lk M i2 = some (.obj r (.mapIter (some g) ck seen ck))) (hx : evT T x = some (.pointer (some ⟨r, 0, none⟩))) (ht : Nat.blt d n = true)
   (h0 : (∀ e ∈ es, e.born ∈ seen) → ∀ a', Has n ((d, .tuple #[.bool false]) :: T) a' → K a' w)
   (h1 : ∀ e ∈ es, e.born ∉ seen → ∀ a' w', Has n ((d, .tuple #[.bool true, e.key, e.val]) :: T) a' → MemOk X w0 ((i2, .obj r (.mapIter (some g) ck (seen.push e.born) ck)) :: M) w' → K a' w') : Oper.wp P ⟨some d, .next x false, tt, pos, af, gd⟩ a w K Q := by
 obtain ⟨e2, eN⟩ := m.ok i _ hm
 obtain ⟨f2, fN⟩ := m.ok i2 _ hr
 have hk := e2.2.1
 show Oper.upon P _ a K Q _
 rcases run_next_at (P := P) w tt r g ck ck seen es.toArray ck f2 e2.1 (fun e he => hk.lt e he) (Nat.le_refl _) with ⟨a1, a2⟩ | ⟨e, a1, w1, a2, a3⟩
 · have hrun : (execOp a.eval ⟨some d, .next x false, tt, pos, af, gd⟩).run P w = .ok (.value (.tuple #[.bool false])) w := by
     simp [execOp, ha.ev hx, a2]
   rw [hrun]
   refine h0 (fun e he => ?_) _ (ha.put ht _)
   have hn : leftOf es.toArray seen = #[] := Array.eq_empty_of_size_eq_zero a1
   unfold leftOf at hn
   rw [Array.filter_eq_empty_iff] at hn
   have := hn e (by simpa using he)
   simpa using this
 have hrun : (execOp a.eval ⟨some d, .next x false, tt, pos, af, gd⟩).run P w = .ok (.value (.tuple #[.bool true, e.key, e.val])) (ChangeMaps.setBlock w1 r (.mapIter (some g) ck (seen.push e.born) ck)) := by
   simp [execOp, ha.ev hx, a3]
 rw [hrun]
 unfold leftOf at a1
 have ha1 : e ∈ es ∧ e.born ∉ seen := by simpa using a1
 have hww : MemOk X w0 M w1 := by
   rcases a2 with rfl | rfl
   · exact m
   exact m.drew
 have f3 := hww.ok i2 _ hr
 have hgl : r < w1.heap.size := (Array.getElem?_eq_some_iff.1 f3.1).1
 refine h1 e ha1.1 ha1.2 _ _ (ha.put ht _) ?_
 have hkp := Keep.setO w1 r (.mapIter (some g) ck (seen.push e.born) ck)
 refine hww.upd i2 _ (hkp.mono (fun b e => ⟨_, hr, by rw [show b = r from e]; rfl⟩)) (fun b hb => .inl ⟨_, hr, hb⟩) (fun _ _ => ⟨?_, fN⟩)
 show (w1.heap.setIfInBounds r _)[r]? = _
 rw [Array.getElem?_setIfInBounds_self_of_lt hgl]
theorem y_entry (h : Has n T a) (m : MemOk X w0 M w) {d : Option Tmp} {x : Operand} {i i2 g mm r : Nat} {es : List MapEntry} {ck : Nat} {rows : List (List D)} {seen : Array Nat} {e : MapEntry} (hm : lk M i = some (.mpE g mm es ck rows)) (hr : lk M i2 = some (.obj r (.mapIter (some g) ck (seen.push e.born) ck))) (hx : evT T x = some (.pointer (some ⟨r, 0, none⟩))) (he : e ∈ es) : Yl P a w ⟨d, .entry x, tt, pos, af, gd⟩ (.tuple #[e.key, e.val]) := by
 obtain ⟨e2, eN⟩ := m.ok i _ hm
 obtain ⟨f2, fN⟩ := m.ok i2 _ hr
 show (execOp _ _).run P w = _
 have := run_entry_at (P := P) w r g ck seen es.toArray ck e f2 e2.1 (by simpa using he) (by simpa using e2.2.1.bn)
 simp [execOp, h.ev hx, this]
/-! ### Looking up what is open -/
theorem MemOk.mpeAt (m : MemOk X w0 M w) {i g mm : Nat} {es : List MapEntry} {ck : Nat} {rows : List (List D)} (hm : lk M i = some (.mpE g mm es ck rows)) {j : Nat} {r : List D} (hr : rows[j]? = some r) : ∃ (e : MapEntry) (vs : List Value), es[j]? = some e ∧ e.val = .agg vs.toArray ∧ RdL (Free X M) w vs r ∧ vs.all (fun v => v.oneCell') = true ∧ vs.length = mm := by
 obtain ⟨⟨h2, h3, h4, h5, h6⟩, _⟩ := m.ok i _ hm
 have hj : j < es.length := by rw [h4]; exact (List.getElem?_eq_some_iff.1 hr).1
 have he : es[j]? = some es[j] := List.getElem?_eq_getElem hj
 obtain ⟨vs, a1, a2, a3, a4⟩ := h6 j _ r he hr
 exact ⟨_, vs, he, a1, RdL.of (by rw [a2, h5 r (List.mem_of_getElem? hr)]) a4, List.all_eq_true.2 a3, a2⟩
theorem mpKey {es : List MapEntry} {ks : List Value} (h : es.map (·.key) = ks) {j : Nat} {e : MapEntry} {k : Value} (he : es[j]? = some e) (hk : ks[j]? = some k) : e.key = k := by
 rw [← h, List.getElem?_map, he] at hk; injection hk
theorem mpKeys {es : List MapEntry} {ks : List Value} (h : es.map (·.key) = ks) {Q : Value → Prop} (hq : ∀ k ∈ ks, Q k) : ∀ e ∈ es, Q e.key := fun e he => hq _ (h ▸ List.mem_map.2 ⟨e, he, rfl⟩)
theorem y_lookE (h : Has n T a) (m : MemOk X w0 M w) {d : Option Tmp} {t kt et : TypeId} {x y : Operand} {i g mm : Nat} {es : List MapEntry} {ck : Nat} {rows : List (List D)} {k : Value} {K : Value → Prop} {j : Nat} {e : MapEntry} {vs : List Value} (hm : lk M i = some (.mpE g mm es ck rows)) (hx : evT T x = some (.map (some g))) (hy : evT T y = some k) (hu : P.underlying t = some (.map kt et)) (hK : KeyT P kt K) (hks : ∀ e ∈ es, K e.key) (he : es[j]? = some e) (hek : e.key = k) (hev : e.val = .agg vs.toArray) : Yl P a w ⟨d, .lookup t x y true, tt, pos, af, gd⟩ (.tuple #[.agg vs.toArray, .bool true]) := by
 obtain ⟨⟨h2, h3, _⟩, _⟩ := m.ok i _ hm
 have hkk : K k := hek ▸ hks e (List.mem_of_getElem? he)
 refine y_lookT h hx hy hu hK hkk h2 (j := j) ?_
 rw [← hev]
 exact (hK.fnd w k es hkk hks h3.nd).1 j e he hek
theorem y_lookE1 (h : Has n T a) (m : MemOk X w0 M w) {d : Option Tmp} {t kt et : TypeId} {x y : Operand} {i g mm : Nat} {es : List MapEntry} {ck : Nat} {rows : List (List D)} {k : Value} {K : Value → Prop} {j : Nat} {e : MapEntry} {vs : List Value} (hm : lk M i = some (.mpE g mm es ck rows)) (hx : evT T x = some (.map (some g))) (hy : evT T y = some k) (hu : P.underlying t = some (.map kt et)) (hK : KeyT P kt K) (hks : ∀ e ∈ es, K e.key) (he : es[j]? = some e) (hek : e.key = k) (hev : e.val = .agg vs.toArray) : Yl P a w ⟨d, .lookup t x y false, tt, pos, af, gd⟩ (.agg vs.toArray) := by
 obtain ⟨⟨h2, h3, _⟩, _⟩ := m.ok i _ hm
 have hkk : K k := hek ▸ hks e (List.mem_of_getElem? he)
 refine y_lookT1 h hx hy hu hK hkk h2 (j := j) ?_
 rw [← hev]
 exact (hK.fnd w k es hkk hks h3.nd).1 j e he hek
theorem y_lookN (h : Has n T a) (m : MemOk X w0 M w) {d : Option Tmp} {t kt et : TypeId} {x y : Operand} {i g mm : Nat} {es : List MapEntry} {ck : Nat} {rows : List (List D)} {k : Value} {K : Value → Prop} (z : Value) (hm : lk M i = some (.mpE g mm es ck rows)) (hx : evT T x = some (.map (some g))) (hy : evT T y = some k) (hu : P.underlying t = some (.map kt et)) (hz : (P.info? et).bind (·.zero) = some z) (hK : KeyT P kt K) (hks : ∀ e ∈ es, K e.key) (hkk : K k) (hno : ∀ e ∈ es, e.key ≠ k) : Yl P a w ⟨d, .lookup t x y true, tt, pos, af, gd⟩ (.tuple #[z, .bool false]) := by
 obtain ⟨⟨h2, h3, _⟩, _⟩ := m.ok i _ hm
 exact y_lookF h hx hy hu hz hK hkk h2 ((hK.fnd w k es hkk hks h3.nd).2 hno)
theorem e_nextU {Q : Exit → Act → World → Prop} {K : Act → World → Prop} (ha : Has n T a) (m : MemOk X w0 M w) {i i2 g mm r : Nat} {es : List MapEntry} {ck : Nat} {rows : List (List D)} {seen : Array Nat} {d : Tmp} {x : Operand} (hm : lk M i = some (.mpE g mm es ck rows)) (hr : lk M i2 = some (.obj r (.mapIter (some g) ck seen ck))) (hx : evT T x = some (.pointer (some ⟨r, 0, none⟩))) (ht : Nat.blt d n = true)
   (h : ∀ (b : Bool) (tl : List Value) (o : Obj) a' w', Has n ((d, .tuple (.bool b :: tl).toArray) :: T) a' → MemOk X w0 ((i2, .obj r o) :: M) w' → ((b = false ∧ ∀ e ∈ es, e.born ∈ seen) ∨ (b = true ∧ ∃ e ∈ es, e.born ∉ seen ∧ o = .mapIter (some g) ck (seen.push e.born) ck)) → K a' w') : Oper.wp P ⟨some d, .next x false, tt, pos, af, gd⟩ a w K Q := by
 refine e_next ha m hm hr hx ht (fun h0 a' ha' => ?_) (fun e he hn a' w' ha' m' => ?_)
 · refine h false [] (.mapIter (some g) ck seen ck) a' w ha' (m.sub (fun j s hj => ?_)) (.inl ⟨rfl, h0⟩)
   rw [lk_cons] at hj
   split at hj
   · rename_i e; subst e; injection hj with hj; subst hj; exact hr
   exact hj
 exact h true [e.key, e.val] _ a' w' ha' m' (.inr ⟨rfl, e, he, hn, rfl⟩)
theorem y_entryK (h : Has n T a) (m : MemOk X w0 M w) {d : Option Tmp} {x : Operand} {i i2 g mm r : Nat} {es : List MapEntry} {ck : Nat} {rows : List (List D)} {seen : Array Nat} {e : MapEntry} {k : Value} (hm : lk M i = some (.mpE g mm es ck rows)) (hr : lk M i2 = some (.obj r (.mapIter (some g) ck (seen.push e.born) ck))) (hx : evT T x = some (.pointer (some ⟨r, 0, none⟩))) (he : e ∈ es) (hk : e.key = k) : Yl P a w ⟨d, .entry x, tt, pos, af, gd⟩ (.tuple #[k, e.val]) := by
 rw [← hk]; exact y_entry h m hm hr hx he
theorem sub_len : ∀ {dn es : List MapEntry}, (∀ e ∈ dn, e ∈ es) → (dn.map (·.born)).Nodup → dn.length ≤ es.length
 | [], es, _, _ => Nat.zero_le _
 | e :: t, es, h, hn => by
   obtain ⟨a, b, rfl⟩ := List.append_of_mem (h e List.mem_cons_self)
   rw [List.map_cons, List.nodup_cons] at hn
   have := sub_len (dn := t) (es := a ++ b) (fun x hx => by
     have h1 := h x (List.mem_cons_of_mem _ hx)
     rcases List.mem_append.1 h1 with h1 | h1
     · exact List.mem_append_left _ h1
     rcases List.mem_cons.1 h1 with rfl | h1
     · exact absurd (List.mem_map.2 ⟨x, hx, rfl⟩) hn.1
     exact List.mem_append_right _ h1) hn.2
   simp only [List.length_cons, List.length_append] at *
   omega
theorem perm_born : ∀ {dn es : List MapEntry}, (∀ e ∈ dn, e ∈ es) → (dn.map (·.born)).Nodup → (es.map (·.born)).Nodup → (∀ e ∈ es, e.born ∈ dn.map (·.born)) → dn.Perm es
 | [], es, _, _, _, h => by
   cases es with
   | nil => exact List.Perm.refl _
   | cons e t => have := h e List.mem_cons_self; cases this
 | e :: t, es, h, hn, hm, ha => by
   obtain ⟨a, b, rfl⟩ := List.append_of_mem (h e List.mem_cons_self)
   rw [List.map_cons, List.nodup_cons] at hn
   have hm' : ((e :: (a ++ b)).map (·.born)).Nodup := (List.Perm.nodup_iff ((List.perm_middle (a := e) (l₁ := a) (l₂ := b)).map _)).1 hm
   rw [List.map_cons, List.nodup_cons] at hm'
   have h2 := perm_born (dn := t) (es := a ++ b) (fun x hx => by
     have h1 := h x (List.mem_cons_of_mem _ hx)
     rcases List.mem_append.1 h1 with h1 | h1
     · exact List.mem_append_left _ h1
     · rcases List.mem_cons.1 h1 with rfl | h1
       · exact absurd (List.mem_map.2 ⟨x, hx, rfl⟩) hn.1
       exact List.mem_append_right _ h1) hn.2 hm'.2 (fun x hx => by
     have hx' : x ∈ a ++ e :: b := by rcases List.mem_append.1 hx with h1 | h1
                                      · exact List.mem_append_left _ h1
                                      exact List.mem_append_right _ (List.mem_cons_of_mem _ h1)
     have h1 := ha x hx'
     rw [List.map_cons] at h1
     rcases List.mem_cons.1 h1 with h1 | h1
     · exact absurd (List.mem_map.2 ⟨x, hx, h1⟩) hm'.1
     exact h1)
   exact (h2.cons e).trans List.perm_middle.symm
end
end Go.Proofs.YtkehgingagggaaaGreat.K
end
