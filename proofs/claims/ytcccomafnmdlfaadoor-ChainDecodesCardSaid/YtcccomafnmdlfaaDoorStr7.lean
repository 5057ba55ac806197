/- stream: the item that bytes begin with. -/
import Derived.Test.YtcccomafnmdlfaaDoorStr6
namespace Go.Proofs.YtcccomafnmdlfaaDoor.K
open Go.ChangeShapes Go.WideShapes Go.ChangeAt Go.RowKit
set_option linter.unusedVariables false
set_option linter.unusedSimpArgs false
theorem fl48sty : flatS Tryd.prog 48 [.int .i64 0, .slice none 0 0] = true := by kernel_rfl
theorem fl48stn : flatS Tryd.prog 48 [.int .i64 0, .slice none 0 0] = true := by kernel_rfl
set_option maxRecDepth 100000
set_option maxHeartbeats 4000000
theorem pplain_b (xs : List Int) (q : Option Addr) (cq : Nat) (w0 : World) (h0 : Rd (fun _ => True) w0 (.slice q xs.length cq) (.ns .u8 xs)) (hl : xs.length ≤ 1000000) :
   Calls Tryd.prog 32 #[.slice q xs.length cq] w0 fun e w' => ∃ (p : Option Addr) (c : Nat), e = .returned (.slice p (xs).length c) ∧ w'.ownsRow w0.heap.size 5 1 (.slice p (xs).length c) (xs).length ((xs).map (Value.int .u8)) ∧ Below w0.heap.size w0 w' := by
 refine ent1 Tryd.func32 rfl Tryd.ntmps32 fun Az Hz => ?_
 have m0 := MemOk.start (fun _ => False) w0
 refine regS Hz (.assign rfl .nil) fun Az Hz => ?_
 refine zsr fun K0 hK0 => ?_
 refine goCh Hz (.move rfl .nil) fun Az Hz => ?_
 refine plz (e_app0N Hz m0 20 rfl rfl (h0.now' m0 rfl).ns_out.nums U22 fct4 (by decide) (by omega) rfl fun p4 c4 Az w5 Hz m5 => ?_)
 refine gz hK0 Hz (.assign rfl .nil) fun Az Hz => ?_
 refine rt1 Hz ?_
 exact ⟨_, _, rfl, m5.ok 20 _ rfl, m5.below⟩
theorem pplain_x (xs : List Int) (q : Option Addr) (n cq : Nat) (w0 : World) (hn : n = xs.length) (h0 : Rd (fun _ => True) w0 (.slice q n cq) (.ns .u8 xs)) (hl : xs.length ≤ 1000000) :
   Calls Tryd.prog 32 #[.slice q n cq] w0 fun e w' => ∃ (p : Option Addr) (c : Nat), e = .returned (.slice p (xs).length c) ∧ w'.ownsRow w0.heap.size 5 1 (.slice p (xs).length c) (xs).length ((xs).map (Value.int .u8)) ∧ Below w0.heap.size w0 w' := by
 subst hn; exact pplain_b xs q cq w0 h0 hl
theorem pnew_n (X : Cx) (b : List Int) (n : Nat) (p : Option Addr) (c : Nat) (w0 : World) (hn : n = b.length) (hb : b.length ≤ 1000000) (m0 : MemOk X w0 [(1, .dat (.slice p n c) (.ns .u8 b))] w0) :
   Calls Tryd.prog 84 #[.slice p n c] w0 fun e w' => ∃ (B : Nat) (p' : Option Addr) (c' : Nat), e = .returned (.pointer (some ⟨B, 0, none⟩)) ∧ MemOk X w0 [(1, .box B 150 [.slice p' (b).length c', .int .i64 0]), (2, .dat (.slice p' (b).length c') (.ns .u8 (b))), (3, .dat (.slice p n c) (.ns .u8 b))] w' := by
 subst hn; exact pnew_f X b p c w0 hb m0
theorem takeItem_yes (X : Cx) (x y : List Int) (n0 : Nat) (a1 er : Int) (p : Option Addr) (c : Nat) (w0 : World) (hn0 : n0 ≤ 1000) (hA0 : numR (x.take 2) 0 256 = (a1, y, er)) (hl0 : x.length ≤ 1000000) (hy0 : BytesL x) (he : er = 0) (hr : (n0 : Int) + 4 ≤ ((x.drop ((x.take 2).length - y.length)).length : Int)) (m0 : MemOk X w0 [(1, .dat (.slice p x.length c) (.ns .u8 x))] w0) :
   Calls Tryd.prog 67 #[.slice p x.length c, .int .i64 (n0 : Int)] w0 fun e w' => ∃ (pd : Option Addr) (cd : Nat) (p' : Option Addr) (c' : Nat), e = .returned (.tuple #[.agg #[.int .i64 a1, .slice pd ((x.drop ((x.take 2).length - y.length)).take n0).length cd], .slice p' ((x.drop ((x.take 2).length - y.length)).drop (n0 + 4)).length c', .bool true]) ∧ MemOk X w0 [(1, .dat (.slice p x.length c) (.ns .u8 x)), (2, .dat (.slice pd ((x.drop ((x.take 2).length - y.length)).take n0).length cd) (.ns .u8 ((x.drop ((x.take 2).length - y.length)).take n0))), (3, .dat (.slice p' ((x.drop ((x.take 2).length - y.length)).drop (n0 + 4)).length c') (.ns .u8 ((x.drop ((x.take 2).length - y.length)).drop (n0 + 4))))] w' := by
 have e2 : x.take (min 2 x.length) = x.take 2 := by
   by_cases h9 : 2 ≤ x.length
   · rw [Nat.min_eq_left h9]
   rw [Nat.min_eq_right (by omega), List.take_of_length_le (Nat.le_refl _), List.take_of_length_le (by omega)]
 have hA : numR (x.take (min 2 x.length)) 0 256 = (a1, y, er) := by rw [e2]; exact hA0
 have hn2 : min 2 x.length = (x.take (min 2 x.length)).length := by rw [List.length_take]; omega
 have hl2 : (x.take (min 2 x.length)).length ≤ 1000000 := by omega
 have hy2 : BytesL (x.take (min 2 x.length)) := fun z hz => hy0 z (List.mem_of_mem_take hz)
 obtain ⟨hb1, hk1, -, hy1, hs1⟩ := numR_all hA hy2 hl2 (by decide)
 have hJ : (x.take 2).length - y.length = min 2 x.length - y.length := by rw [List.length_take]
 rw [hJ] at hr ⊢
 have hr2 := hr
 rw [List.length_drop] at hr2
 have hdl : ((x.drop (min 2 x.length - y.length)).take n0).length = n0 := by rw [List.length_take]; omega
 have hdl2 : n0 = ((x.drop (min 2 x.length - y.length)).take n0).length := hdl.symm
 have hdn : n0 = ((x.drop (min 2 x.length - y.length)).take n0).length := hdl.symm
 have hrl : (x.drop (min 2 x.length - y.length)).length - (n0 + 4) = ((x.drop (min 2 x.length - y.length)).drop (n0 + 4)).length := (List.length_drop).symm
 refine ent2 Tryd.func67 rfl Tryd.ntmps67 fun Az Hz => ?_
 refine zsr fun K0 hK0 => ?_
 refine plz (e_alloc Hz m0 20 fct3 rfl fun g1 Az w2 Hz m2 _ _ => ?_)
 refine gz hK0 Hz (.assign rfl <| .assign rfl <| .nil) fun Az Hz => ?_
 refine zsr fun K1 hK1 => ?_
 refine goCh Hz (.move rfl <| .move rfl <| .len rfl U22 <| .c rfl (fun _ h => y_min h rfl rfl (r := ((min 2 x.length : Nat) : Int)) (by omega)) .nil) fun Az Hz => ?_
 have m14 := m2.takeN (i := 1) rfl (min 2 x.length) (show min 2 x.length ≤ x.length by omega) 21 rfl
 have hcap14 := (m2.rd (i := 1) rfl).ns_out.cap; clear m2
 refine goCh Hz (.c rfl (fun _ h => y_sliceHn h (min 2 x.length) rfl rfl U22 fct7 rfl (Nat.le_trans (show min 2 x.length ≤ x.length by omega) hcap14.1)) .nil) fun Az Hz => ?_
 refine plz (ecl Hz Tryd.func84 rfl (pnew_n _ (x.take (min 2 x.length)) (min 2 x.length) _ _ _ hn2 hl2 (m14.into [(1, 21)] (by decide) rfl)) ?_)
 rintro e w16 ⟨B16, p16, c16, rfl, hm16⟩
 have mx16 := m14.back hm16 [(22, 1), (23, 2), (21, 3)] (by decide); clear hm16 m14
 have m16 := mx16.oz [22, 23, 21, 1, 20]
 refine ⟨_, rfl, ?_⟩; intro Az Hz
 refine gz hK1 Hz (.assign rfl .nil) fun Az Hz => ?_
 replace Hz := Hz.oz [0, 1, 4, 5, 6, 7]
 refine zsr fun K2 hK2 => ?_
 refine goCh Hz (.move rfl .nil) fun Az Hz => ?_
 refine plz (ecl Hz Tryd.func85 rfl (pnum_e (hN := hA) _ _ _ _ _ hl2 hy2 (m16.into [(1, 22), (2, 23)] (by decide) rfl)) ?_)
 rintro e w22 ⟨p22, c22, rfl, hm22⟩
 have mx22 := m16.back hm22 [(22, 1), (23, 2)] (by decide); clear hm22 m16
 have m22 := mx22.oz [22, 23, 1, 20, 21]
 refine ⟨_, rfl, ?_⟩; intro Az Hz
 refine gz hK2 Hz (.conv rfl U63 U3 (r := a1) (IntWalk.i64_in _ (by omega)) <| .assign rfl <| .nil) fun Az Hz => ?_
 refine zsr fun K3 hK3 => ?_
 refine goCh Hz (.move rfl <| .move rfl <| .len rfl U22 <| .c rfl (fun _ h => y_min h rfl rfl (r := ((min 2 x.length : Nat) : Int)) (by omega)) <| .move rfl .nil) fun Az Hz => ?_
 refine plz (ecl Hz Tryd.func86 rfl (pleft_x _ _ _ _ _ _ _ (m22.into [(1, 22), (2, 23)] (by decide) rfl)) ?_)
 rintro e w36 ⟨rfl, hm36⟩
 have mx36 := m22.back hm36 [(22, 1), (23, 2)] (by decide); clear hm36 m22
 have m36 := mx36.oz [22, 23, 1, 20, 21]
 refine ⟨_, rfl, ?_⟩; intro Az Hz
 refine goCh Hz (.sub rfl rfl (r := ((min 2 x.length - y.length : Nat) : Int)) (by rw [IntWalk.i64_in _ (by omega)]; omega) .nil) fun Az Hz => ?_
 have m39 := m36.dropN (i := 1) rfl (min 2 x.length - y.length) (show min 2 x.length - y.length ≤ x.length by omega) 24 rfl
 refine gz hK3 Hz (.c rfl (fun _ h => y_sliceLn h (min 2 x.length - y.length) rfl rfl U22 fct7 rfl (show min 2 x.length - y.length ≤ x.length by omega)) <| .assign rfl <| .nil) fun Az Hz => ?_
 refine wsk fun K4 hK4 => ?_
 replace Hz := Hz.oz [1, 4, 5, 6, 7, 8, 9]
 refine zsr fun K5 hK5 => ?_
 refine goCh Hz (.move rfl .nil) fun Az Hz => ?_
 refine plz (ecl Hz Tryd.func87 rfl (perr_x _ _ _ _ _ _ _ (m39.into [(1, 22), (2, 23)] (by decide) rfl)) ?_)
 rintro e w45 ⟨rfl, hm45⟩
 have mx45 := m39.back hm45 [(22, 1), (23, 2)] (by decide); clear hm45 m39
 have m45 := mx45.oz [22, 23, 1, 20, 21, 24]
 refine ⟨_, rfl, ?_⟩; intro Az Hz
 refine goCh Hz (.neq rfl rfl <| .move rfl .nil) fun Az Hz => ?_
 refine bc Hz 30 ?_ ?_
 · intro hb _; exact absurd hb (by simp; omega)
 clear Hz; intro _ Hz
 refine gz hK5 Hz (.moveZ rfl <| .lenZ rfl U22 <| .moveZ rfl <| .addZ rfl rfl (r := (n0 : Int) + 4) (IntWalk.i64_in _ (by omega)) <| .lssZ rfl rfl <| .pickF rfl rfl <| .nil) fun Az Hz => ?_
 refine bc Hz 36 ?_ ?_
 · intro hb _; exact absurd hb (by simp; omega)
 clear Hz; intro _ Hz
 refine wcf Hz ?_
 refine zss (hK4 _ _ ?_)
 refine wsk fun K6 hK6 => ?_
 replace Hz := Hz.oz [1, 4, 5, 6, 8, 9]
 rw [show x.length - (min 2 x.length - y.length) = (x.drop (min 2 x.length - y.length)).length from (List.length_drop).symm] at m45
 rw [show x.length - (min 2 x.length - y.length) = (x.drop (min 2 x.length - y.length)).length from (List.length_drop).symm] at Hz
 have m58 := m45.oz [1, 20, 21, 22, 23, 24]
 refine region_p 10 (B := [(1, _), (20, _), (21, _), (22, _), (23, _), (24, _)]) (m58.to ⟨il, il, il, il, il, il, trivial⟩) m58 (by kernel_rfl) (fun w59 hP59 m59 => ?_); clear m58
 refine goA hP59 [0, 1, 2] 3 0 7 Hz (m59.to ⟨il, il, il, il, il, il, trivial⟩) (.move rfl <| .move rfl <| .move rfl .nil) fun Az Hz => ?_
 have m63 := m59.takeN (i := 24) rfl (n0) (show n0 ≤ (x.drop (min 2 x.length - y.length)).length by rw [List.length_drop]; omega) 25 rfl
 have hcap63 := (m59.rd (i := 24) rfl).ns_out.cap; clear m59
 refine goA hP59 [3, 6, 7, 8] 4 7 463 Hz (m63.to ⟨il, il, il, il, il, il, trivial⟩) (.p (fun _ _ h => y_sliceHn h (n0) rfl rfl U22 fct7 rfl (Nat.le_trans (show n0 ≤ (x.drop (min 2 x.length - y.length)).length by rw [List.length_drop]; omega) hcap63.1)) <| .move rfl <| .move rfl <| .add rfl rfl (r := ((n0 + 4 : Nat) : Int)) (by rw [IntWalk.i64_in _ (by omega)]; omega) .nil) fun Az Hz => ?_
 have m68 := m63.dropN (i := 24) rfl (n0 + 4) (show n0 + 4 ≤ (x.drop (min 2 x.length - y.length)).length by rw [List.length_drop]; omega) 26 rfl
 refine goA hP59 [9] 1 463 975 Hz (m68.to ⟨il, il, il, il, il, il, trivial⟩) (.p (fun _ _ h => y_sliceLn h (n0 + 4) rfl rfl U22 fct7 rfl (show n0 + 4 ≤ (x.drop (min 2 x.length - y.length)).length by rw [List.length_drop]; omega)) .nil) fun Az Hz => ?_
 refine so 4 ?_
 refine ecn Hz Tryd.func32 rfl m68 27 (pplain_x _ _ n0 _ _ hdn ((m68.rd (i := 25) rfl).any) (by rw [hdl]; omega)) fun p70 c70 Az w70 Hz m71 => ?_
 refine ⟨m71.to ⟨il, il, il, il, il, il, trivial⟩, ?_⟩
 refine goA hP59 [5] 1 991 1023 Hz (m71.to ⟨il, il, il, il, il, il, trivial⟩) (.build rfl fct3 fl48sty rfl (by dsimp only [setL, List.set] <;> rfl) .nil) fun Az Hz => ?_
 refine se 10 ?_
 refine stw Hz m71 20 fct1 fun w74 m74 _ => ?_
 refine goB hP59 [11, 12] 2 2047 8191 Hz (.assign rfl <| .assign rfl .nil) fun Az Hz => ?_
 refine wpAnyE_done (by kernel_rfl) ?_ _
 refine hK6 _ _ ?_
 refine rtd (retCTT (fn := Tryd.f67) Hz m74 (i := 20) rfl rfl rfl rfl rfl U48 rfl fct1 ?_)
 have m77 := m74.freezeN 27 rfl
 rw [hrl] at m77
 rw [hrl, hdl2]
 rw [hdl2] at m77
 exact ⟨_, _, _, _, rfl, m77.ren [(1, 1), (2, 27), (3, 26)] (by decide)⟩
theorem takeItem_no (X : Cx) (x y : List Int) (n0 : Nat) (a1 er : Int) (p : Option Addr) (c : Nat) (w0 : World) (hn0 : n0 ≤ 1000) (hA0 : numR (x.take 2) 0 256 = (a1, y, er)) (hl0 : x.length ≤ 1000000) (hy0 : BytesL x) (hno : er ≠ 0 ∨ ((x.drop ((x.take 2).length - y.length)).length : Int) < (n0 : Int) + 4) (m0 : MemOk X w0 [(1, .dat (.slice p x.length c) (.ns .u8 x))] w0) :
   Calls Tryd.prog 67 #[.slice p x.length c, .int .i64 (n0 : Int)] w0 fun e w' => e = .returned (.tuple #[.agg #[.int .i64 0, .slice none 0 0], .slice none 0 0, .bool false]) ∧ MemOk X w0 [(1, .dat (.slice p x.length c) (.ns .u8 x))] w' := by
 have e2 : x.take (min 2 x.length) = x.take 2 := by
   by_cases h9 : 2 ≤ x.length
   · rw [Nat.min_eq_left h9]
   rw [Nat.min_eq_right (by omega), List.take_of_length_le (Nat.le_refl _), List.take_of_length_le (by omega)]
 have hA : numR (x.take (min 2 x.length)) 0 256 = (a1, y, er) := by rw [e2]; exact hA0
 have hn2 : min 2 x.length = (x.take (min 2 x.length)).length := by rw [List.length_take]; omega
 have hl2 : (x.take (min 2 x.length)).length ≤ 1000000 := by omega
 have hy2 : BytesL (x.take (min 2 x.length)) := fun z hz => hy0 z (List.mem_of_mem_take hz)
 obtain ⟨hb1, hk1, -, hy1, hs1⟩ := numR_all hA hy2 hl2 (by decide)
 have hJ : (x.take 2).length - y.length = min 2 x.length - y.length := by rw [List.length_take]
 rw [hJ, List.length_drop] at hno
 refine ent2 Tryd.func67 rfl Tryd.ntmps67 fun Az Hz => ?_
 refine zsr fun K0 hK0 => ?_
 refine plz (e_alloc Hz m0 20 fct3 rfl fun g1 Az w2 Hz m2 _ _ => ?_)
 refine gz hK0 Hz (.assign rfl <| .assign rfl <| .nil) fun Az Hz => ?_
 refine zsr fun K1 hK1 => ?_
 refine goCh Hz (.move rfl <| .move rfl <| .len rfl U22 <| .c rfl (fun _ h => y_min h rfl rfl (r := ((min 2 x.length : Nat) : Int)) (by omega)) .nil) fun Az Hz => ?_
 have m14 := m2.takeN (i := 1) rfl (min 2 x.length) (show min 2 x.length ≤ x.length by omega) 21 rfl
 have hcap14 := (m2.rd (i := 1) rfl).ns_out.cap; clear m2
 refine goCh Hz (.c rfl (fun _ h => y_sliceHn h (min 2 x.length) rfl rfl U22 fct7 rfl (Nat.le_trans (show min 2 x.length ≤ x.length by omega) hcap14.1)) .nil) fun Az Hz => ?_
 refine plz (ecl Hz Tryd.func84 rfl (pnew_n _ (x.take (min 2 x.length)) (min 2 x.length) _ _ _ hn2 hl2 (m14.into [(1, 21)] (by decide) rfl)) ?_)
 rintro e w16 ⟨B16, p16, c16, rfl, hm16⟩
 have mx16 := m14.back hm16 [(22, 1), (23, 2), (21, 3)] (by decide); clear hm16 m14
 have m16 := mx16.oz [22, 23, 21, 1, 20]
 refine ⟨_, rfl, ?_⟩; intro Az Hz
 refine gz hK1 Hz (.assign rfl .nil) fun Az Hz => ?_
 replace Hz := Hz.oz [0, 1, 4, 5, 6, 7]
 refine zsr fun K2 hK2 => ?_
 refine goCh Hz (.move rfl .nil) fun Az Hz => ?_
 refine plz (ecl Hz Tryd.func85 rfl (pnum_e (hN := hA) _ _ _ _ _ hl2 hy2 (m16.into [(1, 22), (2, 23)] (by decide) rfl)) ?_)
 rintro e w22 ⟨p22, c22, rfl, hm22⟩
 have mx22 := m16.back hm22 [(22, 1), (23, 2)] (by decide); clear hm22 m16
 have m22 := mx22.oz [22, 23, 1, 20, 21]
 refine ⟨_, rfl, ?_⟩; intro Az Hz
 refine gz hK2 Hz (.conv rfl U63 U3 (r := a1) (IntWalk.i64_in _ (by omega)) <| .assign rfl <| .nil) fun Az Hz => ?_
 refine zsr fun K3 hK3 => ?_
 refine goCh Hz (.move rfl <| .move rfl <| .len rfl U22 <| .c rfl (fun _ h => y_min h rfl rfl (r := ((min 2 x.length : Nat) : Int)) (by omega)) <| .move rfl .nil) fun Az Hz => ?_
 refine plz (ecl Hz Tryd.func86 rfl (pleft_x _ _ _ _ _ _ _ (m22.into [(1, 22), (2, 23)] (by decide) rfl)) ?_)
 rintro e w36 ⟨rfl, hm36⟩
 have mx36 := m22.back hm36 [(22, 1), (23, 2)] (by decide); clear hm36 m22
 have m36 := mx36.oz [22, 23, 1, 20, 21]
 refine ⟨_, rfl, ?_⟩; intro Az Hz
 refine goCh Hz (.sub rfl rfl (r := ((min 2 x.length - y.length : Nat) : Int)) (by rw [IntWalk.i64_in _ (by omega)]; omega) .nil) fun Az Hz => ?_
 have m39 := m36.dropN (i := 1) rfl (min 2 x.length - y.length) (show min 2 x.length - y.length ≤ x.length by omega) 24 rfl
 refine gz hK3 Hz (.c rfl (fun _ h => y_sliceLn h (min 2 x.length - y.length) rfl rfl U22 fct7 rfl (show min 2 x.length - y.length ≤ x.length by omega)) <| .assign rfl <| .nil) fun Az Hz => ?_
 refine wsk fun K4 hK4 => ?_
 replace Hz := Hz.oz [1, 4, 5, 6, 7, 8, 9]
 refine zsr fun K5 hK5 => ?_
 refine goCh Hz (.move rfl .nil) fun Az Hz => ?_
 refine plz (ecl Hz Tryd.func87 rfl (perr_x _ _ _ _ _ _ _ (m39.into [(1, 22), (2, 23)] (by decide) rfl)) ?_)
 rintro e w45 ⟨rfl, hm45⟩
 have mx45 := m39.back hm45 [(22, 1), (23, 2)] (by decide); clear hm45 m39
 have m45 := mx45.oz [22, 23, 1, 20, 21, 24]
 refine ⟨_, rfl, ?_⟩; intro Az Hz
 refine goCh Hz (.neq rfl rfl <| .move rfl .nil) fun Az Hz => ?_
 refine bc Hz 30 ?_ ?_
 ·
  intro hb49 Hz; try simp only [QQ, Qax] at hb49
  refine gz hK5 Hz (.sk <| .sk <| .sk <| .sk <| .sk <| .pickT rfl rfl <| .nil) fun Az Hz => ?_
  refine wct Hz ?_
  replace Hz := Hz.oz [1, 4, 5, 6, 8, 9, 30]
  refine zsr fun K6 hK6 => ?_
  refine goCh Hz (.build rfl fct3 fl48stn rfl (by dsimp only [setL, List.set] <;> rfl) .nil) fun Az Hz => ?_
  refine plz (stw Hz m45 20 fct1 fun w59 m59 _ => ?_)
  refine gz hK6 Hz (.assign rfl <| .assign rfl <| .nil) fun Az Hz => ?_
  refine rtd (retCTT (fn := Tryd.f67) Hz m59 (i := 20) rfl rfl rfl rfl rfl U48 rfl fct1 ?_)
  exact ⟨rfl, m59.only [1]⟩
 intro hb49 Hz; try simp only [QQ, Qax] at hb49
 refine gz hK5 Hz (.moveZ rfl <| .lenZ rfl U22 <| .moveZ rfl <| .addZ rfl rfl (r := (n0 : Int) + 4) (IntWalk.i64_in _ (by omega)) <| .lssZ rfl rfl <| .pickF rfl rfl <| .nil) fun Az Hz => ?_
 refine bc Hz 36 ?_ ?_
 rotate_left
 · intro hb _; exact absurd hb (by simp; omega)
 clear Hz; intro _ Hz
 refine wct Hz ?_
 replace Hz := Hz.oz [1, 4, 5, 6, 8, 9, 30]
 refine zsr fun K7 hK7 => ?_
 refine goCh Hz (.build rfl fct3 fl48stn rfl (by dsimp only [setL, List.set] <;> rfl) .nil) fun Az Hz => ?_
 refine plz (stw Hz m45 20 fct1 fun w72 m72 _ => ?_)
 refine gz hK7 Hz (.assign rfl <| .assign rfl <| .nil) fun Az Hz => ?_
 refine rtd (retCTT (fn := Tryd.f67) Hz m72 (i := 20) rfl rfl rfl rfl rfl U48 rfl fct1 ?_)
 exact ⟨rfl, m72.only [1]⟩
end Go.Proofs.YtcccomafnmdlfaaDoor.K
