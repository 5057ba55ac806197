/- stream: the head that bytes begin with. -/
import Derived.Test.YtcccomafnmdlfaaDoorStr5
namespace Go.Proofs.YtcccomafnmdlfaaDoor.K
open Go.ChangeShapes Go.WideShapes Go.ChangeAt Go.RowKit
set_option linter.unusedVariables false
set_option linter.unusedSimpArgs false
theorem fl148pnw : flatS Tryd.prog 148 [.slice none 0 0, .int .i64 0] = true := by kernel_rfl
theorem ps150pnw : placesS Tryd.prog 150 = some [(0, 2)] := by kernel_rfl
theorem fl105sth : flatS Tryd.prog 105 [.int .i64 0, .int .i64 0, .int .i64 0, .int .i64 0] = true := by kernel_rfl
set_option maxRecDepth 100000
set_option maxHeartbeats 4000000
theorem numR_all {b y : List Int} {er mx a er2 : Int} (hN : numR b er mx = (a, y, er2)) (hbb : BytesL b) (hb : b.length ≤ 1000000) (h0 : 0 ≤ mx) : (0 ≤ a ∧ a ≤ mx) ∧ y.length ≤ b.length ∧ y.length ≤ 1000000 ∧ BytesL y ∧ ∃ k, k ≤ b.length ∧ y = b.drop k := by
 have h1 := numR_le b er mx h0
 have h2 := numR_len b er mx
 have h3 := numR_sub b er mx
 have h4 := numR_suf b er mx
 rw [hN] at h1 h2 h3 h4
 exact ⟨h1, h2, Nat.le_trans h2 hb, fun x hx => hbb x (h3 x hx), h4⟩
theorem pnew_f (X : Cx) (b : List Int) (p : Option Addr) (c : Nat) (w0 : World) (hb : b.length ≤ 1000000) (m0 : MemOk X w0 [(1, .dat (.slice p b.length c) (.ns .u8 b))] w0) :
   Calls Tryd.prog 84 #[.slice p b.length c] w0 fun e w' => ∃ (B : Nat) (p' : Option Addr) (c' : Nat), e = .returned (.pointer (some ⟨B, 0, none⟩)) ∧ MemOk X w0 [(1, .box B 150 [.slice p' (b).length c', .int .i64 0]), (2, .dat (.slice p' (b).length c') (.ns .u8 (b))), (3, .dat (.slice p b.length c) (.ns .u8 b))] w' := by
 refine ent1 Tryd.func84 rfl Tryd.ntmps84 fun Az Hz => ?_
 refine regS Hz (.assign rfl .nil) fun Az Hz => ?_
 refine zsr fun K0 hK0 => ?_
 refine goCh Hz (.move rfl .nil) fun Az Hz => ?_
 refine plz (e_litR Hz m0 20 (mm := 1) rfl (.cons rfl rfl (.cons (m0.rd (i := 1) rfl) .nil) .nil) U23 fct5 rfl rfl rfl rfl rfl fun g4 Az w5 Hz m5 => ?_)
 have m6 := m5.freezeR 20 rfl
 refine plz (ecn Hz Tryd.func70 rfl m6 21 (pjoin_is (ls := [b]) (S := b) ((m6.rd (i := 20) rfl).any) (by simp) (by simp [sumLen]; omega) (by simp)) fun p7 c7 Az w7 Hz m8 => ?_)
 refine goCh Hz (.build rfl fct12 fl148pnw rfl (by dsimp only [setL, List.set] <;> rfl) <| .buildG rfl fct13 ps150pnw rfl .nil) fun Az Hz => ?_
 refine plz (e_box Hz m8 22 (cs := [_, _]) rfl rfl rfl fun g12 Az w13 Hz m13 _ _ => ?_)
 refine gz hK0 Hz (.assign rfl .nil) fun Az Hz => ?_
 refine rt1 Hz ?_
 have m15 := m13.freezeN 21 rfl
 exact ⟨_, _, _, rfl, m15.ren [(1, 22), (2, 21), (3, 1)] (by decide)⟩
theorem pleft_x (X : Cx) (B : Nat) (b : List Int) (er : Int) (p : Option Addr) (c : Nat) (w0 : World) (m0 : MemOk X w0 [(1, .box B 150 [.slice p (b).length c, .int .i64 er]), (2, .dat (.slice p (b).length c) (.ns .u8 (b)))] w0) :
   Calls Tryd.prog 86 #[.pointer (some ⟨B, 0, none⟩)] w0 fun e w' => e = .returned (.int .i64 (b.length : Int)) ∧ MemOk X w0 [(1, .box B 150 [.slice p (b).length c, .int .i64 er]), (2, .dat (.slice p (b).length c) (.ns .u8 (b)))] w' := by
 refine ent1 Tryd.func86 rfl Tryd.ntmps86 fun Az Hz => ?_
 refine regS Hz (.assign rfl .nil) fun Az Hz => ?_
 refine regS Hz (.move rfl <| .nilCheck rfl <| .fieldAddr (off := 0) rfl U150 rfl (s := 1) (by kernel_rfl) rfl <| .fa 0 rfl U148 <| .lb m0 1 U22 rfl rfl rfl <| .len rfl U22 <| .assign rfl .nil) fun Az Hz => ?_
 refine rt1 Hz ?_
 exact ⟨rfl, m0.only [1, 2]⟩
theorem perr_x (X : Cx) (B : Nat) (b : List Int) (er : Int) (p : Option Addr) (c : Nat) (w0 : World) (m0 : MemOk X w0 [(1, .box B 150 [.slice p (b).length c, .int .i64 er]), (2, .dat (.slice p (b).length c) (.ns .u8 (b)))] w0) :
   Calls Tryd.prog 87 #[.pointer (some ⟨B, 0, none⟩)] w0 fun e w' => e = .returned (.int .i64 er) ∧ MemOk X w0 [(1, .box B 150 [.slice p (b).length c, .int .i64 er]), (2, .dat (.slice p (b).length c) (.ns .u8 (b)))] w' := by
 refine ent1 Tryd.func87 rfl Tryd.ntmps87 fun Az Hz => ?_
 refine regS Hz (.assign rfl .nil) fun Az Hz => ?_
 refine regS Hz (.move rfl <| .nilCheck rfl <| .fieldAddr (off := 0) rfl U150 rfl (s := 1) (by kernel_rfl) rfl <| .fa 1 rfl U148 <| .lb m0 1 U40 rfl rfl rfl <| .assign rfl .nil) fun Az Hz => ?_
 refine rt1 Hz ?_
 exact ⟨rfl, m0.only [1, 2]⟩
theorem pnum_e {b y : List Int} {er mx a er2 : Int} (hN : numR b er mx = (a, y, er2)) (X : Cx) (B : Nat) (p : Option Addr) (c : Nat) (w0 : World) (hb : b.length ≤ 1000000) (hbb : BytesL b) (m0 : MemOk X w0 [(1, .box B 150 [.slice p (b).length c, .int .i64 er]), (2, .dat (.slice p (b).length c) (.ns .u8 (b)))] w0) :
   Calls Tryd.prog 85 #[.pointer (some ⟨B, 0, none⟩), .int .u64 mx] w0 fun e w' => ∃ (p' : Option Addr) (c' : Nat), e = .returned (.int .u64 a) ∧ MemOk X w0 [(1, .box B 150 [.slice p' (y).length c', .int .i64 er2]), (2, .dat (.slice p' (y).length c') (.ns .u8 (y)))] w' := by
 have h := pnum_x X B b er mx p c w0 hb hbb m0
 rw [hN] at h
 exact h
theorem takeHead_x (X : Cx) (x x1 x2 x3 x4 x5 : List Int) (a1 a2 a3 a4 a5 e1 e2 e3 e4 e5 : Int) (p : Option Addr) (c : Nat) (w0 : World) (hA : numR x 0 256 = (a1, x1, e1)) (hB : numR x1 e1 32 = (a2, x2, e2)) (hC : numR x2 e2 1099511627777 = (a3, x3, e3)) (hD : numR x3 e3 1099511627776 = (a4, x4, e4)) (hE : numR x4 e4 256 = (a5, x5, e5)) (hl0 : x.length ≤ 1000000) (hy0 : BytesL x) (m0 : MemOk X w0 [(1, .dat (.slice p x.length c) (.ns .u8 x))] w0) :
   Calls Tryd.prog 66 #[.slice p x.length c] w0 fun e w' => ∃ (p' : Option Addr) (c' : Nat), e = .returned (.tuple #[.agg #[.int .i64 a1, .int .i64 a2, .int .i64 (a3 - 1), .int .i64 a4], .int .i64 a5, .slice p' (x5.drop 4).length c']) ∧ MemOk X w0 [(1, .dat (.slice p x.length c) (.ns .u8 x)), (2, .dat (.slice p' (x5.drop 4).length c') (.ns .u8 (x5.drop 4)))] w' := by
 obtain ⟨hb1, hk1, hl1, hy1, hs1⟩ := numR_all hA hy0 hl0 (by decide)
 obtain ⟨hb2, hk2, hl2, hy2, hs2⟩ := numR_all hB hy1 hl1 (by decide)
 obtain ⟨hb3, hk3, hl3, hy3, hs3⟩ := numR_all hC hy2 hl2 (by decide)
 obtain ⟨hb4, hk4, hl4, hy4, hs4⟩ := numR_all hD hy3 hl3 (by decide)
 obtain ⟨hb5, hk5, hl5, hy5, hs5⟩ := numR_all hE hy4 hl4 (by decide)
 have hsuf : x.drop (x.length - x5.length) = x5 := suf_drop (suf_trans (suf_trans (suf_trans (suf_trans hs1 hs2) hs3) hs4) hs5)
 have hlen : x5.length ≤ x.length := by omega
 refine ent1 Tryd.func66 rfl Tryd.ntmps66 fun Az Hz => ?_
 refine zsr fun K0 hK0 => ?_
 refine plz (e_alloc Hz m0 20 fct16 rfl fun g1 Az w2 Hz m2 _ _ => ?_)
 refine gz hK0 Hz (.assign rfl <| .assign rfl <| .nil) fun Az Hz => ?_
 refine zsr fun K1 hK1 => ?_
 refine goCh Hz (.move rfl .nil) fun Az Hz => ?_
 refine plz (ecl Hz Tryd.func84 rfl (pnew_f _ (x) _ _ _ hl0 (m2.into [(1, 1)] (by decide) rfl)) ?_)
 rintro e w7 ⟨B7, p7, c7, rfl, hm7⟩
 have mx7 := m2.back hm7 [(21, 1), (22, 2), (1, 3)] (by decide); clear hm7 m2
 have m7 := mx7.oz [21, 22, 1, 20]
 refine ⟨_, rfl, ?_⟩; intro Az Hz
 refine gz hK1 Hz (.assign rfl .nil) fun Az Hz => ?_
 refine zsr fun K2 hK2 => ?_
 refine goCh Hz (.move rfl .nil) fun Az Hz => ?_
 refine plz (ecl Hz Tryd.func85 rfl (pnum_e (hN := hA) _ _ _ _ _ hl0 hy0 (m7.into [(1, 21), (2, 22)] (by decide) rfl)) ?_)
 rintro e w12 ⟨p12, c12, rfl, hm12⟩
 have mx12 := m7.back hm12 [(21, 1), (22, 2)] (by decide); clear hm12 m7
 have m12 := mx12.oz [21, 22, 1, 20]
 refine ⟨_, rfl, ?_⟩; intro Az Hz
 refine goCh Hz (.conv rfl U63 U3 (r := a1) (IntWalk.i64_in _ (by omega)) <| .move rfl .nil) fun Az Hz => ?_
 refine plz (ecl Hz Tryd.func85 rfl (pnum_e (hN := hB) _ _ _ _ _ hl1 hy1 (m12.into [(1, 21), (2, 22)] (by decide) rfl)) ?_)
 rintro e w16 ⟨p16, c16, rfl, hm16⟩
 have mx16 := m12.back hm16 [(21, 1), (22, 2)] (by decide); clear hm16 m12
 have m16 := mx16.oz [21, 22, 1, 20]
 refine ⟨_, rfl, ?_⟩; intro Az Hz
 refine goCh Hz (.conv rfl U63 U3 (r := a2) (IntWalk.i64_in _ (by omega)) <| .build rfl fct16 fl105sth rfl (by dsimp only [setL, List.set] <;> rfl) .nil) fun Az Hz => ?_
 refine plz (e_alloc Hz m16 23 fct16 rfl fun g20 Az w21 Hz m21 _ _ => ?_)
 refine plz (stw Hz m21 23 fct15 fun w22 m22 _ => ?_)
 refine znl (hK2 _ _ ?_)
 replace Hz := Hz.oz [0, 2, 3, 4, 5, 6]
 refine zsr fun K3 hK3 => ?_
 refine goCh Hz (.move rfl .nil) fun Az Hz => ?_
 refine plz (ecl Hz Tryd.func85 rfl (pnum_e (hN := hC) _ _ _ _ _ hl2 hy2 (m22.into [(1, 21), (2, 22)] (by decide) rfl)) ?_)
 rintro e w26 ⟨p26, c26, rfl, hm26⟩
 have mx26 := m22.back hm26 [(21, 1), (22, 2)] (by decide); clear hm26 m22
 have m26 := mx26.oz [21, 22, 1, 20, 23]
 refine ⟨_, rfl, ?_⟩; intro Az Hz
 refine goCh Hz (.conv rfl U63 U2 (r := a3) (IntWalk.i64_in _ (by omega)) <| .sub rfl rfl (r := a3 - 1) (IntWalk.i64_in _ (by omega)) <| .fa 2 rfl U105 .nil) fun Az Hz => ?_
 refine plz (st1 Hz m26 23 fct14 fun w31 m31 _ => ?_)
 refine znl (hK3 _ _ ?_)
 refine zsr fun K4 hK4 => ?_
 refine goCh Hz (.move rfl .nil) fun Az Hz => ?_
 refine plz (ecl Hz Tryd.func85 rfl (pnum_e (hN := hD) _ _ _ _ _ hl3 hy3 (m31.into [(1, 21), (2, 22)] (by decide) rfl)) ?_)
 rintro e w34 ⟨p34, c34, rfl, hm34⟩
 have mx34 := m31.back hm34 [(21, 1), (22, 2)] (by decide); clear hm34 m31
 have m34 := mx34.oz [21, 22, 1, 20, 23]
 refine ⟨_, rfl, ?_⟩; intro Az Hz
 refine goCh Hz (.conv rfl U63 U2 (r := a4) (IntWalk.i64_in _ (by omega)) <| .fa 3 rfl U105 .nil) fun Az Hz => ?_
 refine plz (st1 Hz m34 23 fct14 fun w38 m38 _ => ?_)
 refine znl (hK4 _ _ ?_)
 replace Hz := Hz.oz [0, 2, 3, 4, 5, 6]
 refine zsr fun K5 hK5 => ?_
 refine goCh Hz (.move rfl .nil) fun Az Hz => ?_
 refine plz (ecl Hz Tryd.func85 rfl (pnum_e (hN := hE) _ _ _ _ _ hl4 hy4 (m38.into [(1, 21), (2, 22)] (by decide) rfl)) ?_)
 rintro e w42 ⟨p42, c42, rfl, hm42⟩
 have mx42 := m38.back hm42 [(21, 1), (22, 2)] (by decide); clear hm42 m38
 have m42 := mx42.oz [21, 22, 1, 20, 23]
 refine ⟨_, rfl, ?_⟩; intro Az Hz
 refine gz hK5 Hz (.conv rfl U63 U3 (r := a5) (IntWalk.i64_in _ (by omega)) <| .assign rfl <| .nil) fun Az Hz => ?_
 refine zsr fun K6 hK6 => ?_
 refine goCh Hz (.move rfl <| .move rfl <| .len rfl U22 <| .move rfl .nil) fun Az Hz => ?_
 refine plz (ecl Hz Tryd.func86 rfl (pleft_x _ _ _ _ _ _ _ (m42.into [(1, 21), (2, 22)] (by decide) rfl)) ?_)
 rintro e w54 ⟨rfl, hm54⟩
 have mx54 := m42.back hm54 [(21, 1), (22, 2)] (by decide); clear hm54 m42
 have m54 := mx54.oz [21, 22, 1, 20, 23]
 refine ⟨_, rfl, ?_⟩; intro Az Hz
 refine goCh Hz (.sub rfl rfl (r := ((x.length - x5.length : Nat) : Int)) (by rw [IntWalk.i64_in _ (by omega)]; omega) .nil) fun Az Hz => ?_
 have m57 := m54.dropN (i := 1) rfl (x.length - x5.length) (show x.length - x5.length ≤ x.length by omega) 24 rfl
 refine gz hK6 Hz (.c rfl (fun _ h => y_sliceLn h (x.length - x5.length) rfl rfl U22 fct7 rfl (show x.length - x5.length ≤ x.length by omega)) <| .assign rfl <| .nil) fun Az Hz => ?_
 refine wsk fun K7 hK7 => ?_
 replace Hz := Hz.oz [2, 3, 4, 6, 7, 8]
 have hl9 : x.length - (x.length - x5.length) = x5.length := by omega
 rw [hsuf, hl9] at m57
 rw [hl9] at Hz
 have m61 := m57.oz [1, 20, 21, 22, 23, 24]
 refine region_p 7 (B := [(1, _), (20, _), (21, _), (22, _), (23, _), (24, _)]) (m61.to ⟨il, il, il, il, il, il, trivial⟩) m61 (by kernel_rfl) (fun w62 hP62 m62 => ?_); clear m61
 refine goR hP62 [0, 1, 2, 3, 4, 5] [0] 6 0 63 Hz (m62.to ⟨il, il, il, il, il, il, trivial⟩) (.loadBR hh (i := 23) rfl rfl U105 rfl fct15 (by simp) (by dsimp only [List.drop, List.take] <;> rfl) <| .move rfl <| .move rfl <| .move rfl <| .len rfl U22 <| .p (fun _ _ h => y_min h rfl rfl (r := ((min 4 x5.length : Nat) : Int)) (by omega)) .nil) fun Az Hz => ?_
 have m69 := m62.dropN (i := 24) rfl (min 4 x5.length) (show min 4 x5.length ≤ x5.length by omega) 25 rfl
 refine goA hP62 [6] 1 63 127 Hz (m69.to ⟨il, il, il, il, il, il, trivial⟩) (.p (fun _ _ h => y_sliceLn h (min 4 x5.length) rfl rfl U22 fct7 rfl (show min 4 x5.length ≤ x5.length by omega)) .nil) fun Az Hz => ?_
 refine se 7 ?_
 refine stw Hz m69 20 fct15 fun w71 m71 _ => ?_
 refine goB hP62 [8, 9] 2 255 1023 Hz (.assign rfl <| .assign rfl .nil) fun Az Hz => ?_
 refine wpAnyE_done (by kernel_rfl) ?_ _
 refine hK7 _ _ ?_
 refine rtd (retCTT (fn := Tryd.f66) Hz m71 (i := 20) rfl rfl rfl rfl rfl U105 rfl fct15 ?_)
 have e9 : x5.drop (min 4 x5.length) = x5.drop 4 := by
   by_cases h9 : 4 ≤ x5.length
   · rw [Nat.min_eq_left h9]
   rw [Nat.min_eq_right (by omega), List.drop_length, List.drop_of_length_le (by omega)]
 have e8 : x5.length - min 4 x5.length = (x5.drop 4).length := by rw [List.length_drop]; omega
 rw [e9, e8] at m71
 rw [e8]
 exact ⟨_, _, rfl, m71.ren [(1, 1), (2, 25)] (by decide)⟩
end Go.Proofs.YtcccomafnmdlfaaDoor.K
