/- chunk: time, readShape, Put; pack: the next lump. -/
import Derived.Test.YteglmahnkfgelaaGreatChu5
namespace Go.Proofs.YteglmahnkfgelaaGreat.K
open Go.ChangeShapes Go.WideShapes Go.ChangeAt Go.RowKit
set_option linter.unusedVariables false
set_option linter.unusedSimpArgs false
theorem fl88crs : flatS Tryz.prog 88 [.int .i64 0, .int .i64 0, .int .i64 0, .int .i64 0] = true := by kernel_rfl
def hsB (h : List Ver) : List Int := encs [(h.length : Int)] ++ h.flatMap itB
def chunkB (vo ch cn sz mk fl : Int) (H : List (List Ver)) : List Int := (encs [vo, ch, cn, sz] ++ encs [mk, fl]) ++ H.flatMap hsB
theorem flat_take {α : Type} {f : α → List Int} {l : List α} (k : Nat) : ((l.take k).flatMap f).length ≤ (l.flatMap f).length := by
 have h := List.take_append_drop k l
 have h2 : l.flatMap f = (l.take k).flatMap f ++ (l.drop k).flatMap f := by rw [← List.flatMap_append, h]
 rw [h2, List.length_append]; omega
theorem flat_at {α : Type} {f : α → List Int} {l : List α} {k : Nat} {x : α} (hx : l[k]? = some x) : (f x).length ≤ (l.flatMap f).length := by
 have hk := (List.getElem?_eq_some_iff.1 hx).1
 have h1 := flat_take (f := f) (l := l) (k + 1)
 rw [take_snoc hx, List.flatMap_append, List.length_append, List.flatMap_cons, List.flatMap_nil, List.append_nil] at h1
 omega
set_option maxRecDepth 100000
set_option maxHeartbeats 4000000
theorem ctime_x {b y : List Int} {a er2 : Int} (hN : numR b 0 1099511627776 = (a, y, er2)) (X : Cx) (B : Nat) (p : Option Addr) (c : Nat) (w0 : World) (hb : b.length ≤ 1000000) (hbb : BytesL b) (m0 : MemOk X w0 [(1, .box B 115 [.slice p (b).length c, .int .i64 0]), (2, .dat (.slice p (b).length c) (.ns .u8 (b)))] w0) :
   Calls Tryz.prog 58 #[.pointer (some ⟨B, 0, none⟩)] w0 fun e w' => ∃ (p' : Option Addr) (c' : Nat), e = .returned (.int .i64 a) ∧ MemOk X w0 [(1, .box B 115 [.slice p' (y).length c', .int .i64 er2]), (2, .dat (.slice p' (y).length c') (.ns .u8 (y)))] w' := by
 refine ent1 Tryz.func58 rfl Tryz.ntmps58 fun Az Hz => ?_
 have ha9 := (numR_all hN hbb hb (by omega)).1
 refine regS Hz (.assign rfl .nil) fun Az Hz => ?_
 refine zsr fun K0 hK0 => ?_
 refine goCh Hz (.move rfl .nil) fun Az Hz => ?_
 refine plz (ecl Hz Tryz.func59 rfl (pnum_e (hN := hN) _ _ _ _ _ hb hbb (m0.into [(1, 1), (2, 2)] (by decide) rfl)) ?_)
 rintro e w4 ⟨p4, c4, rfl, hm4⟩
 have mx4 := m0.back hm4 [(1, 1), (2, 2)] (by decide); clear hm4 m0
 have m4 := mx4.oz [1, 2]
 refine ⟨_, rfl, ?_⟩; intro Az Hz
 refine gz hK0 Hz (.conv rfl U101 U2 (IntWalk.i64_in _ (by omega)) <| .assign rfl <| .nil) fun Az Hz => ?_
 refine rt1 Hz ?_
 exact ⟨_, _, rfl, m4.only [1, 2]⟩
theorem creadshape_x {b y1 y2 y3 y4 : List Int} {a1 a2 a3 a4 e1 e2 e3 e4 : Int} (h1 : numR b 0 7 = (a1, y1, e1)) (h2 : numR y1 e1 255 = (a2, y2, e2)) (h3 : numR y2 e2 256 = (a3, y3, e3)) (h4 : numR y3 e3 32 = (a4, y4, e4)) (X : Cx) (B : Nat) (p : Option Addr) (c : Nat) (w0 : World) (hb : b.length ≤ 1000000) (hbb : BytesL b) (m0 : MemOk X w0 [(1, .box B 115 [.slice p (b).length c, .int .i64 0]), (2, .dat (.slice p (b).length c) (.ns .u8 (b)))] w0) :
   Calls Tryz.prog 57 #[.pointer (some ⟨B, 0, none⟩)] w0 fun e w' => ∃ (p' : Option Addr) (c' : Nat), e = .returned (.agg #[.int .i64 a1, .int .i64 a2, .int .i64 a3, .int .i64 a4]) ∧ MemOk X w0 [(1, .box B 115 [.slice p' (y4).length c', .int .i64 e4]), (2, .dat (.slice p' (y4).length c') (.ns .u8 (y4)))] w' := by
 refine ent1 Tryz.func57 rfl Tryz.ntmps57 fun Az Hz => ?_
 have ha1 := numR_all h1 hbb hb (by omega)
 have ha2 := numR_all h2 ha1.2.2.2.1 ha1.2.2.1 (by omega)
 have ha3 := numR_all h3 ha2.2.2.2.1 ha2.2.2.1 (by omega)
 have ha4 := numR_all h4 ha3.2.2.2.1 ha3.2.2.1 (by omega)
 refine zsr fun K0 hK0 => ?_
 refine plz (e_alloc Hz m0 20 fct2 rfl fun g1 Az w2 Hz m2 _ _ => ?_)
 refine znl (hK0 _ _ ?_)
 refine zsr fun K1 hK1 => ?_
 refine goCh Hz (.move rfl .nil) fun Az Hz => ?_
 refine plz (ecl Hz Tryz.func59 rfl (pnum_e (hN := h1) _ _ _ _ _ hb hbb (m2.into [(1, 1), (2, 2)] (by decide) rfl)) ?_)
 rintro e w5 ⟨p5, c5, rfl, hm5⟩
 have mx5 := m2.back hm5 [(1, 1), (2, 2)] (by decide); clear hm5 m2
 have m5 := mx5.oz [1, 2, 20]
 refine ⟨_, rfl, ?_⟩; intro Az Hz
 refine goCh Hz (.conv rfl U101 U3 (IntWalk.i64_in _ (by omega)) <| .move rfl .nil) fun Az Hz => ?_
 refine plz (ecl Hz Tryz.func59 rfl (pnum_e (hN := h2) _ _ _ _ _ ha1.2.2.1 ha1.2.2.2.1 (m5.into [(1, 1), (2, 2)] (by decide) rfl)) ?_)
 rintro e w9 ⟨p9, c9, rfl, hm9⟩
 have mx9 := m5.back hm9 [(1, 1), (2, 2)] (by decide); clear hm9 m5
 have m9 := mx9.oz [1, 2, 20]
 refine ⟨_, rfl, ?_⟩; intro Az Hz
 refine goCh Hz (.conv rfl U101 U3 (IntWalk.i64_in _ (by omega)) <| .move rfl .nil) fun Az Hz => ?_
 refine plz (ecl Hz Tryz.func59 rfl (pnum_e (hN := h3) _ _ _ _ _ ha2.2.2.1 ha2.2.2.2.1 (m9.into [(1, 1), (2, 2)] (by decide) rfl)) ?_)
 rintro e w13 ⟨p13, c13, rfl, hm13⟩
 have mx13 := m9.back hm13 [(1, 1), (2, 2)] (by decide); clear hm13 m9
 have m13 := mx13.oz [1, 2, 20]
 refine ⟨_, rfl, ?_⟩; intro Az Hz
 refine goCh Hz (.conv rfl U101 U3 (IntWalk.i64_in _ (by omega)) <| .move rfl .nil) fun Az Hz => ?_
 refine plz (ecl Hz Tryz.func59 rfl (pnum_e (hN := h4) _ _ _ _ _ ha3.2.2.1 ha3.2.2.2.1 (m13.into [(1, 1), (2, 2)] (by decide) rfl)) ?_)
 rintro e w17 ⟨p17, c17, rfl, hm17⟩
 have mx17 := m13.back hm17 [(1, 1), (2, 2)] (by decide); clear hm17 m13
 have m17 := mx17.oz [1, 2, 20]
 refine ⟨_, rfl, ?_⟩; intro Az Hz
 refine goCh Hz (.conv rfl U101 U3 (IntWalk.i64_in _ (by omega)) <| .build rfl fct2 fl88crs rfl (by dsimp only [setL, List.set] <;> rfl) .nil) fun Az Hz => ?_
 refine plz (stw Hz m17 20 fct1 fun w21 m21 _ => ?_)
 refine znl (hK1 _ _ ?_)
 refine rtd (retC (fn := Tryz.f57) Hz m21 (i := 20) rfl rfl rfl U88 rfl fct1 ?_)
 exact ⟨_, _, rfl, m21.only [1, 2]⟩
theorem prlump_x {b d y : List Int} (hN : numR b 0 32 = ((d.length : Int), d ++ y, 0)) (X : Cx) (B : Nat) (p : Option Addr) (c : Nat) (w0 : World) (hb : b.length ≤ 1000000) (hbb : BytesL b) (m0 : MemOk X w0 [(1, .box B 115 [.slice p (b).length c, .int .i64 0]), (2, .dat (.slice p (b).length c) (.ns .u8 (b)))] w0) :
   Calls Tryz.prog 60 #[.pointer (some ⟨B, 0, none⟩), .int .i64 32] w0 fun e w' => ∃ (p' : Option Addr) (c' : Nat) (pd : Option Addr) (cd : Nat), e = .returned (.slice pd d.length cd) ∧ MemOk X w0 [(1, .box B 115 [.slice p' (y).length c', .int .i64 0]), (2, .dat (.slice p' (y).length c') (.ns .u8 (y))), (3, .dat (.slice pd d.length cd) (.ns .u8 d))] w' := by
 refine ent2 Tryz.func60 rfl Tryz.ntmps60 fun Az Hz => ?_
 have ha9 := numR_all hN hbb hb (by omega)
 have hy1 : (d ++ y).length ≤ 1000000 := ha9.2.2.1
 have hd8 : d.length ≤ 32 := by omega
 have hdl : (d ++ y).length - d.length = y.length := by rw [List.length_append]; omega
 refine regS Hz (.assign rfl .nil) fun Az Hz => ?_
 refine zsr fun K0 hK0 => ?_
 refine goCh Hz (.move rfl <| .move rfl <| .c rfl (fun _ h_ => y_max h_ rfl rfl (r := 32) rfl) <| .conv rfl U3 U101 (IntWalk.u64_in _ (by omega)) .nil) fun Az Hz => ?_
 refine plz (ecl Hz Tryz.func59 rfl (pnum_e (hN := hN) _ _ _ _ _ hb hbb (m0.into [(1, 1), (2, 2)] (by decide) rfl)) ?_)
 rintro e w10 ⟨p10, c10, rfl, hm10⟩
 have mx10 := m0.back hm10 [(1, 1), (2, 2)] (by decide); clear hm10 m0
 have m10 := mx10.oz [1, 2]
 refine ⟨_, rfl, ?_⟩; intro Az Hz
 refine gz hK0 Hz (.assign rfl .nil) fun Az Hz => ?_
 refine wsk fun K1 hK1 => ?_
 replace Hz := Hz.oz [0, 4, 5]
 refine regS Hz (.move rfl <| .nilCheck rfl <| .fieldAddr (off := 0) rfl U115 rfl (s := 1) (by kernel_rfl) rfl <| .fa 1 rfl U113 <| .lb m10 1 U43 rfl rfl rfl <| .neq rfl rfl .nil) fun Az Hz => ?_
 refine bc Hz 17 ?_ ?_
 · intro hb _; exact absurd hb (by simp)
 clear Hz; intro _ Hz
 refine wcf Hz ?_
 refine zss (hK1 _ _ ?_)
 refine wsk fun K2 hK2 => ?_
 replace Hz := Hz.oz [0, 4, 5]
 refine regS Hz (.move rfl <| .move rfl <| .nilCheck rfl <| .fieldAddr (off := 0) rfl U115 rfl (s := 1) (by kernel_rfl) rfl <| .fa 0 rfl U113 <| .lb m10 1 U22 rfl rfl rfl <| .len rfl U22 <| .conv rfl U3 U101 (r := ((d ++ y).length : Int)) (IntWalk.u64_in _ (by omega)) <| .gtr rfl rfl .nil) fun Az Hz => ?_
 refine bc Hz 26 ?_ ?_
 · intro hb _; exact absurd hb (by rw [decide_eq_true_eq, List.length_append]; omega)
 clear Hz; intro _ Hz
 refine wcf Hz ?_
 refine zss (hK2 _ _ ?_)
 replace Hz := Hz.oz [0, 4, 5]
 refine zsr fun K3 hK3 => ?_
 refine goCh Hz (.move rfl <| .nilCheck rfl <| .fieldAddr (off := 0) rfl U115 rfl (s := 1) (by kernel_rfl) rfl <| .fa 0 rfl U113 <| .lb m10 1 U22 rfl rfl rfl <| .move rfl .nil) fun Az Hz => ?_
 have m46 := m10.takeN (i := 2) rfl d.length (by rw [List.length_append]; omega) 20 rfl
 have hcap46 := (m10.rd (i := 2) rfl).ns_out.cap; clear m10
 rw [List.take_left] at m46
 refine goCh Hz (.c rfl (fun _ h_ => y_sliceHn h_ (d.length) rfl rfl U22 fct20 rfl (by have := hcap46.1; rw [List.length_append] at this; omega)) .nil) fun Az Hz => ?_
 refine plz (e_litR Hz m46 21 (mm := 1) rfl (.cons rfl rfl (.cons (m46.rd (i := 20) rfl) .nil) .nil) U59 fct36 rfl rfl rfl rfl rfl fun g48 Az w49 Hz m49 => ?_)
 have m50 := m49.freezeR 21 rfl
 refine plz (ecn Hz Tryz.func38 rfl m50 22 (pjoin_is (ls := [d]) (S := d) ((m50.rd (i := 21) rfl).any) (by simp) (by simp [sumLen]; omega) (by simp)) fun p51 c51 Az w51 Hz m52 => ?_)
 refine gz hK3 Hz (.assign rfl .nil) fun Az Hz => ?_
 replace Hz := Hz.oz [0, 4, 5, 6]
 refine zsr fun K4 hK4 => ?_
 refine goCh Hz (.move rfl <| .move rfl <| .nilCheck rfl <| .fieldAddr (off := 0) rfl U115 rfl (s := 1) (by kernel_rfl) rfl <| .fa 0 rfl U113 <| .lb m52 1 U22 rfl rfl rfl <| .move rfl .nil) fun Az Hz => ?_
 have m71 := m52.dropN (i := 2) rfl d.length (by rw [List.length_append]; omega) 23 rfl
 rw [List.drop_left, hdl] at m71
 refine goCh Hz (.c rfl (fun _ h_ => y_sliceLm h_ (d.length) rfl rfl U22 fct20 rfl (by rw [List.length_append]; omega) hdl) <| .nilCheck rfl <| .fieldAddr (off := 0) rfl U115 rfl (s := 1) (by kernel_rfl) rfl <| .fa 0 rfl U113 .nil) fun Az Hz => ?_
 refine plz (st1 Hz m71 1 fct21 fun w76 m76 _ => ?_)
 refine znl (hK4 _ _ ?_)
 replace Hz := Hz.oz [4, 6]
 refine regS Hz (.move rfl <| .assign rfl .nil) fun Az Hz => ?_
 refine rt1 Hz ?_
 have m80 := m76.freezeN 22 rfl
 exact ⟨_, _, _, _, rfl, m80.ren [(1, 1), (2, 23), (3, 22)] (by decide)⟩
theorem cput_x (X : Cx) (vo ch cn sz mk fl : Int) (H : List (List Ver)) (p : Option Addr) (nn c : Nat) (w0 : World) (hl : H.length ≤ 1000000) (hok : HsOk H) (hns : ∀ h ∈ H, ∀ v ∈ h, 0 ≤ v.1 ∧ v.1 ≤ 1099511627776 ∧ v.2.length ≤ 1000) (hB : (H.flatMap hsB).length ≤ 100000000) (hv : 0 ≤ vo ∧ vo ≤ 1099511627776) (hc : 0 ≤ ch ∧ ch ≤ 1099511627776) (hcn : 0 ≤ cn ∧ cn ≤ 1099511627776) (hsz : 0 ≤ sz ∧ sz ≤ 1099511627776) (hmk : 0 ≤ mk ∧ mk ≤ 1099511627776) (hfl : 0 ≤ fl ∧ fl ≤ 1099511627776) (m0 : MemOk X w0 [(1, .dat (.slice p nn c) (.l 1 (H.map hD)))] w0) :
   Calls Tryz.prog 25 #[.agg #[.int .i64 vo, .int .i64 ch, .int .i64 cn, .int .i64 sz, .int .i64 mk, .int .i64 fl, .slice p nn c]] w0 fun e w' => ∃ (p9 : Option Addr) (c9 : Nat), e = .returned (.slice p9 (chunkB vo ch cn sz mk fl H).length c9) ∧ MemOk X w0 [(1, .dat (.slice p nn c) (.l 1 (H.map hD))), (9, .num (.slice p9 (chunkB vo ch cn sz mk fl H).length c9) 5 .u8 (chunkB vo ch cn sz mk fl H))] w' := by
 refine ent1 Tryz.func25 rfl Tryz.ntmps25 fun Az Hz => ?_
 have hnn : nn = H.length := nnOf (m0.rd (i := 1) rfl)
 revert Hz
 subst hnn
 intro Hz
 refine zsr fun K0 hK0 => ?_
 refine plz (e_box Hz m0 30 (cs := [_, _, _, _, _, _, _]) rfl rfl rfl fun g1 Az w2 Hz m2 _ _ => ?_)
 refine gz hK0 Hz (.assign rfl .nil) fun Az Hz => ?_
 refine wsk fun K1 hK1 => ?_
 have hC1 : ∀ (a : Act) (w : World), (∃ (gP : Nat) (p9 : Option Addr) (c9 : Nat), Has 59 [(1, .pointer (some ⟨gP, 0, none⟩)), (3, .slice p9 ((encs [vo, ch, cn, sz] ++ encs [mk, fl])).length c9)] a ∧ MemOk X w0 [(1, .dat (.slice p H.length c) (.l 1 (H.map hD))), (9, .num (.slice p9 ((encs [vo, ch, cn, sz] ++ encs [mk, fl])).length c9) 5 .u8 ((encs [vo, ch, cn, sz] ++ encs [mk, fl]))), (11, .box gP 39 [.int .i64 vo, .int .i64 ch, .int .i64 cn, .int .i64 sz, .int .i64 mk, .int .i64 fl, .slice p H.length c])] w) → K1 a w := by
   clear Hz m2
   rintro Az w4 ⟨gP, p9, c9, Hz, m4⟩
   refine hK1 _ _ ?_
   refine wsk fun K2 hK2 => ?_
   refine regS Hz (.fa 6 rfl U39 <| .lb m4 11 U37 rfl rfl rfl <| .len rfl U37 <| .move rfl .nil) fun Az Hz => ?_
   refine wp_block ?_
   refine wp_loop_ghost (fun g a w => ∃ (k gP : Nat) (p9 : Option Addr) (c9 : Nat), k ≤ H.length ∧ g = H.length - k ∧ Has 59 [(1, .pointer (some ⟨gP, 0, none⟩)), (3, .slice p9 ((encs [vo, ch, cn, sz] ++ encs [mk, fl]) ++ (H.take k).flatMap hsB).length c9), (27, .slice p H.length c), (28, .int .i64 H.length), (29, .int .i64 k)] a ∧ MemOk X w0 [(1, .dat (.slice p H.length c) (.l 1 (H.map hD))), (9, .num (.slice p9 ((encs [vo, ch, cn, sz] ++ encs [mk, fl]) ++ (H.take k).flatMap hsB).length c9) 5 .u8 ((encs [vo, ch, cn, sz] ++ encs [mk, fl]) ++ (H.take k).flatMap hsB)), (11, .box gP 39 [.int .i64 vo, .int .i64 ch, .int .i64 cn, .int .i64 sz, .int .i64 mk, .int .i64 fl, .slice p H.length c])] w) (H.length) ?_ ?_
   · have hE : (encs [vo, ch, cn, sz] ++ encs [mk, fl]) = (encs [vo, ch, cn, sz] ++ encs [mk, fl]) ++ (H.take 0).flatMap hsB := by simp
     rw [hE] at m4 Hz
     exact ⟨0, _, _, _, Nat.zero_le _, rfl, Hz.only [1, 3, 27, 28, 29], m4.ren [(1, 1), (9, 9), (11, 11)] (by decide)⟩
   clear Hz m4
   rintro g Az w9 ⟨k, gP, p9, c9, hkl, hg, Hz, m9⟩
   refine regS Hz (.lss rfl rfl .nil) fun Az Hz => ?_
   refine wsk fun K3 hK3 => ?_
   refine bc Hz 30 ?_ ?_
   ·
    intro hb11 Hz; try simp only [QQ, Qax] at hb11
    have hk : k < H.length := by have := hb11; first | omega | (simp at this; omega)
    obtain ⟨h9, hes⟩ : ∃ e, H[k]? = some e := ⟨_, List.getElem?_eq_getElem hk⟩
    have hh9 := hok _ (List.mem_of_getElem? hes)
    have hml : (h9.map itD).length = h9.length := List.length_map _
    refine wct Hz ?_
    refine zss (hK3 _ _ ?_)
    refine wsk fun K4 hK4 => ?_
    refine wp_block ?_
    refine zsr fun K5 hK5 => ?_
    obtain ⟨b13, o13, vs13, hp13, hR13, ho13, m13⟩ := m9.openR (i := 1) rfl (k) (r := [.l 2 (h9.map itD)]) (hD_get hes) 200 rfl
    revert Hz
    cases hp13; clear m9 ho13
    rcases hR13 with _ | ⟨hd13_0, _ | _⟩
    obtain ⟨p14, c14, hv14, hc14⟩ := hd13_0.l_shape; subst hv14
    intro Hz
    have m14 := m13.dat 201 rfl (hd13_0.cast (fun _ h => (free_add rfl h))); clear m13 hd13_0
    refine gz hK5 Hz (.c rfl (fun _ h_ => y_idx h_ rfl rfl U37 fct12 (k) rfl hk) <| .loadC0 m14 (i := 200) rfl rfl U94 rfl <| .assign rfl <| .nil) fun Az Hz => ?_
    refine zsr fun K6 hK6 => ?_
    refine goCh Hz (.move rfl <| .move rfl <| .len rfl U94 .nil) fun Az Hz => ?_
    refine plz (e_litN Hz m14 202 (k := .i64) rfl rfl U31 fct0 rfl rfl rfl rfl fun g24 Az w25 Hz m25 => ?_)
    have m26 := m25.freezeN 202 rfl
    refine plz (ecn Hz Tryz.func39 rfl m26 203 (pnums_x [((h9.map itD).length : Int)] _ _ _ ((m26.rd (i := 202) rfl).any) (by simp) (b63 (by simp; omega))) fun p27 c27 Az w27 Hz m28 => ?_)
    refine plz (e_appN Hz m28 9 rfl rfl rfl (m28.numsO (i := 203) rfl) U22 fct13 (by decide) (by have hq1 := flat_take (f := hsB) (l := H) k; have hq2 := flat_at (f := hsB) hes; have hq3 : (hsB h9).length = (encs [(h9.length : Int)]).length + (h9.flatMap itB).length := (by unfold hsB; rw [List.length_append]); have hq4 := encs_len [((h9.map itD).length : Int)]; have hq5 := encs_len [vo, ch, cn, sz]; have hq6 := encs_len [mk, fl]; simp only [List.length_cons, List.length_nil] at hq4 hq5 hq6; simp only [List.length_append]; omega) rfl fun p30 c30 Az w31 Hz m31 => ?_)
    refine gz hK6 Hz (.assign rfl .nil) fun Az Hz => ?_
    replace Hz := Hz.oz [1, 3, 27, 28, 29, 5]
    refine regS Hz (.move rfl <| .len rfl U94 <| .move rfl .nil) fun Az Hz => ?_
    refine wp_block ?_
    refine wp_loop_ghost (fun g a w => ∃ (j gP : Nat) (p9 : Option Addr) (c9 : Nat) (px : Option Addr) (cx : Nat), j ≤ h9.length ∧ g = h9.length - j ∧ Has 59 [(1, .pointer (some ⟨gP, 0, none⟩)), (3, .slice p9 ((encs [vo, ch, cn, sz] ++ encs [mk, fl]) ++ (H.take k).flatMap hsB ++ encs [((h9.map itD).length : Int)] ++ (h9.take j).flatMap itB).length c9), (27, .slice (some ⟨b13, o13, none⟩) H.length c), (28, .int .i64 H.length), (29, .int .i64 k), (39, .slice px (h9.map itD).length cx), (40, .int .i64 (h9.map itD).length), (41, .int .i64 j)] a ∧ MemOk X w0 [(1, .dat (.slice (some ⟨b13, o13, none⟩) H.length c) (.l 1 (H.map hD))), (9, .num (.slice p9 ((encs [vo, ch, cn, sz] ++ encs [mk, fl]) ++ (H.take k).flatMap hsB ++ encs [((h9.map itD).length : Int)] ++ (h9.take j).flatMap itB).length c9) 5 .u8 ((encs [vo, ch, cn, sz] ++ encs [mk, fl]) ++ (H.take k).flatMap hsB ++ encs [((h9.map itD).length : Int)] ++ (h9.take j).flatMap itB)), (11, .box gP 39 [.int .i64 vo, .int .i64 ch, .int .i64 cn, .int .i64 sz, .int .i64 mk, .int .i64 fl, .slice (some ⟨b13, o13, none⟩) H.length c]), (14, .dat (.slice px (h9.map itD).length cx) (.l 2 (h9.map itD)))] w) (h9.length) ?_ ?_
    · have hE : (encs [vo, ch, cn, sz] ++ encs [mk, fl]) ++ (H.take k).flatMap hsB ++ encs [((h9.map itD).length : Int)] = (encs [vo, ch, cn, sz] ++ encs [mk, fl]) ++ (H.take k).flatMap hsB ++ encs [((h9.map itD).length : Int)] ++ (h9.take 0).flatMap itB := by simp
      rw [hE] at m31 Hz
      exact ⟨0, _, _, _, _, _, Nat.zero_le _, rfl, Hz.only [1, 3, 27, 28, 29, 39, 40, 41], m31.ren [(1, 1), (9, 9), (11, 11), (14, 201)] (by decide)⟩
    clear Hz m31
    rintro g Az w37 ⟨j, gP, p9, c9, px, cx, hjl, hg2, Hz, m37⟩
    refine regS Hz (.lss rfl rfl .nil) fun Az Hz => ?_
    refine wsk fun K7 hK7 => ?_
    refine bc Hz 42 ?_ ?_
    ·
     intro hb39 Hz; try simp only [QQ, Qax] at hb39
     have hj : j < h9.length := by have := hb39; first | (rw [List.length_map] at this; omega) | (simp at this; omega)
     obtain ⟨⟨xs, xd⟩, hxs⟩ : ∃ e, h9[j]? = some e := ⟨_, List.getElem?_eq_getElem hj⟩
     have hxd := hh9.2 _ (List.mem_of_getElem? hxs)
     have hxs9 := hns _ (List.mem_of_getElem? hes) _ (List.mem_of_getElem? hxs)
     dsimp only at hxd hxs9
     refine wct Hz ?_
     refine zss (hK7 _ _ ?_)
     refine wsk fun K8 hK8 => ?_
     refine wp_block ?_
     refine zsr fun K9 hK9 => ?_
     obtain ⟨b41, o41, vs41, hp41, hR41, ho41, m41⟩ := m37.openR (i := 14) rfl (j) (r := [.v (.int .i64 xs), .ns .u8 xd]) (itD_get hxs) 300 rfl
     revert Hz
     cases hp41; clear m37 ho41
     rcases hR41 with _ | ⟨hd41_0, _ | ⟨hd41_1, _ | _⟩⟩
     obtain rfl := hd41_0.v_out
     clear hd41_0
     obtain ⟨p42, c42, hv42, hc42⟩ := hd41_1.ns_shape; subst hv42
     intro Hz
     have m42 := m41.dat 301 rfl (hd41_1.cast (fun _ h => (free_add rfl h))); clear m41 hd41_1
     refine goCh Hz (.c rfl (fun _ h_ => y_idx h_ rfl rfl U94 fct10 (j) rfl (by rw [List.length_map]; omega)) <| .loadCR m42 (i := 300) rfl rfl U110 rfl fct10 .nil) fun Az Hz => ?_
     refine plz (e_alloc Hz m42 302 fct11 rfl fun g45 Az w46 Hz m46 _ _ => ?_)
     refine plz (stw Hz m46 302 fct10 fun w47 m47 _ => ?_)
     refine znl (hK9 _ _ ?_)
     have m48 := m47.oz [1, 9, 11, 14, 300, 301, 302]
     refine region_p 12 (B := [(1, _), (11, _), (14, _), (300, _), (301, _), (302, _)]) (m48.to ⟨il, il, il, il, il, il, trivial⟩) m48 (by kernel_rfl) (fun w49 hP49 m49 => ?_); clear m48
     refine goR hP49 [0, 1, 2, 5, 6] [2, 6] 5 0 103 Hz (m49.to ⟨il, il, il, il, il, il, trivial⟩) (.move rfl <| .fa 0 rfl U110 <| .lb hh 302 U2 rfl rfl rfl <| .fa 1 rfl U110 <| .lb hh 302 U22 rfl rfl rfl .nil) fun Az Hz => ?_
     refine so 3 ?_
     refine e_litN Hz m49 303 (k := .i64) rfl rfl U32 fct33 rfl rfl rfl rfl fun g55 Az w56 Hz m56 => ?_
     refine ⟨m56.to ⟨il, il, il, il, il, il, trivial⟩, ?_⟩
     have m57 := m56.freezeN 303 rfl
     refine so 4 ?_
     refine ecn Hz Tryz.func40 rfl m57 304 (pnuml_x [xs] _ _ _ ((m57.rd (i := 303) rfl).any) (by simp) (b63 (by simp; omega))) fun p58 c58 Az w58 Hz m59 => ?_
     refine ⟨m59.to ⟨il, il, il, il, il, il, trivial⟩, ?_⟩
     refine so 7 ?_
     refine ecn Hz Tryz.func41 rfl m59 305 (plump_x xd _ _ _ ((m59.rd (i := 301) rfl).any) (by omega)) fun p61 c61 Az w61 Hz m62 => ?_
     refine ⟨m62.to ⟨il, il, il, il, il, il, trivial⟩, ?_⟩
     have m65 := m62.freezeN 304 rfl
     have m66 := m65.freezeN 305 rfl
     refine so 8 ?_
     refine e_litR Hz m66 306 (mm := 1) rfl (.cons rfl rfl (.cons (m66.rd (i := 304) rfl) .nil) <| .cons rfl rfl (.cons (m66.rd (i := 305) rfl) .nil) .nil) U59 fct36 rfl rfl rfl rfl rfl fun g64 Az w67 Hz m67 => ?_
     refine ⟨m67.to ⟨il, il, il, il, il, il, trivial⟩, ?_⟩
     have m68 := m67.freezeR 306 rfl
     refine so 9 ?_
     refine ecn Hz Tryz.func38 rfl m68 307 (pjoin_is (ls := [encs [xs], enc (xd.length : Int) ++ xd]) (S := itB (xs, xd)) ((m68.rd (i := 306) rfl).any) (by simp) (by simp [sumLen]; first | (have h1 := encs_len [vo, ch, cn, sz]; have h2 := encs_len [mk, fl]; simp at h1 h2; omega) | (have h1 := encs_len [xs]; have h2 := (enc_len (xd.length : Int)).1; simp at h1; omega)) (by first | (simp [itB]; done) | simp)) fun p69 c69 Az w69 Hz m70 => ?_
     refine ⟨m70.to ⟨il, il, il, il, il, il, trivial⟩, ?_⟩
     refine so 10 ?_
     refine e_appN Hz m70 9 rfl rfl rfl (m70.numsO (i := 307) rfl) U22 fct13 (by decide) (by have hq1 := flat_take (f := hsB) (l := H) k; have hq2 := flat_at (f := hsB) hes; have hq3 : (hsB h9).length = (encs [(h9.length : Int)]).length + (h9.flatMap itB).length := (by unfold hsB; rw [List.length_append]); have hq4 := encs_len [((h9.map itD).length : Int)]; have hq5 := encs_len [vo, ch, cn, sz]; have hq6 := encs_len [mk, fl]; have hq7 := flat_take (f := itB) (l := h9) j; have hq8 := encs_len [xs]; have hq9 := (enc_len (xd.length : Int)).1; simp only [List.length_cons, List.length_nil] at hq4 hq5 hq6 hq8; simp only [itB, List.length_append]; omega) rfl fun p72 c72 Az w73 Hz m73 => ?_
     refine ⟨m73.to ⟨il, il, il, il, il, il, trivial⟩, ?_⟩
     refine goA hP49 [11] 1 2047 4095 Hz (m73.to ⟨il, il, il, il, il, il, trivial⟩) (.assign rfl .nil) fun Az Hz => ?_
     refine wpAnyE_done (by kernel_rfl) ?_ _
     refine hK8 _ _ ?_
     replace Hz := Hz.oz [1, 3, 27, 28, 29, 39, 40, 41]
     refine wp_region_lit ?_
     refine goCh Hz (.inc (j + 1) <| .move rfl .nil) fun Az Hz => ?_
     refine wpList_nil ?_
     show ∃ n', n' < _ ∧ _
     have hE : (encs [vo, ch, cn, sz] ++ encs [mk, fl]) ++ (H.take k).flatMap hsB ++ encs [((h9.map itD).length : Int)] ++ (h9.take j).flatMap itB ++ itB (xs, xd) = (encs [vo, ch, cn, sz] ++ encs [mk, fl]) ++ (H.take k).flatMap hsB ++ encs [((h9.map itD).length : Int)] ++ (h9.take (j + 1)).flatMap itB := by rw [take_snoc hxs, List.flatMap_append]; simp
     rw [hE] at m73 Hz
     exact ⟨h9.length - (j + 1), by omega, j + 1, _, _, _, _, _, by omega, rfl, Hz.only [1, 3, 27, 28, 29, 39, 40, 41], m73.ren [(1, 1), (9, 9), (11, 11), (14, 14)] (by decide)⟩
    intro hb39 Hz; try simp only [QQ, Qax] at hb39
    revert Hz
    obtain rfl : j = h9.length := by have := hb39; first | (rw [List.length_map] at this; omega) | (simp at this; omega)
    intro Hz
    refine wcf Hz ?_
    refine wp_exit ?_
    refine hK4 _ _ ?_
    refine wp_region_lit ?_
    refine goCh Hz (.inc (k + 1) <| .move rfl .nil) fun Az Hz => ?_
    refine wpList_nil ?_
    show ∃ n', n' < _ ∧ _
    have hE : (encs [vo, ch, cn, sz] ++ encs [mk, fl]) ++ (H.take k).flatMap hsB ++ encs [((h9.map itD).length : Int)] ++ (h9.take h9.length).flatMap itB = (encs [vo, ch, cn, sz] ++ encs [mk, fl]) ++ (H.take (k + 1)).flatMap hsB := by rw [List.take_length, take_snoc hes, List.flatMap_append]; simp [hsB]
    rw [hE] at m37 Hz
    exact ⟨H.length - (k + 1), by omega, k + 1, _, _, _, by omega, rfl, Hz.only [1, 3, 27, 28, 29], m37.ren [(1, 1), (9, 9), (11, 11)] (by decide)⟩
   intro hb11 Hz; try simp only [QQ, Qax] at hb11
   revert Hz
   obtain rfl : k = H.length := by have := hb11; first | omega | (simp at this; omega)
   intro Hz
   refine wcf Hz ?_
   refine wp_exit ?_
   refine hK2 _ _ ?_
   refine regS Hz (.move rfl <| .assign rfl .nil) fun Az Hz => ?_
   refine rt1 Hz ?_
   have hE9 : (encs [vo, ch, cn, sz] ++ encs [mk, fl]) ++ H.flatMap hsB = chunkB vo ch cn sz mk fl H := rfl
   rw [List.take_length, hE9] at m9
   rw [List.take_length, hE9]
   exact ⟨_, _, rfl, m9.ren [(1, 1), (9, 9)] (by decide)⟩
 have m82 := m2.oz [1, 30]
 refine region_p 19 (B := [(1, _), (30, _)]) (m82.to ⟨il, il, trivial⟩) m82 (by kernel_rfl) (fun w83 hP83 m83 => ?_); clear m82
 refine goR hP83 [0, 1, 2, 3, 4, 5, 6, 7, 10, 11, 12, 13] [1, 3, 5, 7, 11, 13] 12 0 15615 Hz (m83.to ⟨il, il, trivial⟩) (.fa 0 rfl U39 <| .lb hh 30 U3 rfl rfl rfl <| .fa 1 rfl U39 <| .lb hh 30 U3 rfl rfl rfl <| .fa 2 rfl U39 <| .lb hh 30 U3 rfl rfl rfl <| .fa 3 rfl U39 <| .lb hh 30 U3 rfl rfl rfl <| .fa 4 rfl U39 <| .lb hh 30 U2 rfl rfl rfl <| .fa 5 rfl U39 <| .lb hh 30 U2 rfl rfl rfl .nil) fun Az Hz => ?_
 refine dtw 8 14 ?_ ?_
 ·
  refine e_litN Hz m83 31 (k := .i64) rfl rfl U31 fct0 rfl rfl rfl rfl fun g96 Az w97 Hz m97 => ?_
  refine ⟨fun _ => (m97.to ⟨il, il, trivial⟩), ?_⟩
  refine dtw 9 14 ?_ ?_
  ·
   have m98 := m97.freezeN 31 rfl
   refine ecn Hz Tryz.func39 rfl m98 32 (pnums_x [vo, ch, cn, sz] _ _ _ ((m98.rd (i := 31) rfl).any) (by simp) (b63 (by simp; omega))) fun p99 c99 Az w99 Hz m100 => ?_
   refine ⟨fun _ => (m100.to ⟨il, il, trivial⟩), ?_⟩
   refine so 14 ?_
   refine e_litN Hz m100 33 (k := .i64) rfl rfl U32 fct33 rfl rfl rfl rfl fun g102 Az w103 Hz m103 => ?_
   refine ⟨m103.to ⟨il, il, trivial⟩, ?_⟩
   have m104 := m103.freezeN 33 rfl
   refine so 15 ?_
   refine ecn Hz Tryz.func40 rfl m104 34 (pnuml_x [mk, fl] _ _ _ ((m104.rd (i := 33) rfl).any) (by simp) (b63 (by simp; omega))) fun p105 c105 Az w105 Hz m106 => ?_
   refine ⟨m106.to ⟨il, il, trivial⟩, ?_⟩
   have m109 := m106.freezeN 32 rfl
   have m110 := m109.freezeN 34 rfl
   refine so 16 ?_
   refine e_litR Hz m110 35 (mm := 1) rfl (.cons rfl rfl (.cons (m110.rd (i := 32) rfl) .nil) <| .cons rfl rfl (.cons (m110.rd (i := 34) rfl) .nil) .nil) U59 fct36 rfl rfl rfl rfl rfl fun g108 Az w111 Hz m111 => ?_
   refine ⟨m111.to ⟨il, il, trivial⟩, ?_⟩
   have m112 := m111.freezeR 35 rfl
   refine so 17 ?_
   refine ecn Hz Tryz.func38 rfl m112 36 (pjoin_is (ls := [encs [vo, ch, cn, sz], encs [mk, fl]]) (S := (encs [vo, ch, cn, sz] ++ encs [mk, fl])) ((m112.rd (i := 35) rfl).any) (by simp) (by simp [sumLen]; first | (have h1 := encs_len [vo, ch, cn, sz]; have h2 := encs_len [mk, fl]; simp at h1 h2; omega) | (have h1 := encs_len [xs]; have h2 := (enc_len (xd.length : Int)).1; simp at h1; omega)) (by first | (simp [itB]; done) | simp)) fun p113 c113 Az w113 Hz m114 => ?_
   refine ⟨m114.to ⟨il, il, trivial⟩, ?_⟩
   refine goA hP83 [18] 1 262143 524287 Hz (m114.to ⟨il, il, trivial⟩) (.assign rfl .nil) fun Az Hz => ?_
   refine wpAnyE_done (by kernel_rfl) ?_ _
   show K1 _ _
   exact hC1 _ _ ⟨_, _, _, Hz.only [1, 3], m114.ren [(1, 1), (9, 36), (11, 30)] (by decide)⟩
  refine e_litN Hz m97 32 (k := .i64) rfl rfl U32 fct33 rfl rfl rfl rfl fun g117 Az w118 Hz m118 => ?_
  refine ⟨fun _ => (m118.to ⟨il, il, trivial⟩), ?_⟩
  have m119 := m118.freezeN 31 rfl
  refine so 9 ?_
  refine ecn Hz Tryz.func39 rfl m119 33 (pnums_x [vo, ch, cn, sz] _ _ _ ((m119.rd (i := 31) rfl).any) (by simp) (b63 (by simp; omega))) fun p120 c120 Az w120 Hz m121 => ?_
  refine ⟨m121.to ⟨il, il, trivial⟩, ?_⟩
  have m123 := m121.freezeN 32 rfl
  refine so 15 ?_
  refine ecn Hz Tryz.func40 rfl m123 34 (pnuml_x [mk, fl] _ _ _ ((m123.rd (i := 32) rfl).any) (by simp) (b63 (by simp; omega))) fun p124 c124 Az w124 Hz m125 => ?_
  refine ⟨m125.to ⟨il, il, trivial⟩, ?_⟩
  have m128 := m125.freezeN 33 rfl
  have m129 := m128.freezeN 34 rfl
  refine so 16 ?_
  refine e_litR Hz m129 35 (mm := 1) rfl (.cons rfl rfl (.cons (m129.rd (i := 33) rfl) .nil) <| .cons rfl rfl (.cons (m129.rd (i := 34) rfl) .nil) .nil) U59 fct36 rfl rfl rfl rfl rfl fun g127 Az w130 Hz m130 => ?_
  refine ⟨m130.to ⟨il, il, trivial⟩, ?_⟩
  have m131 := m130.freezeR 35 rfl
  refine so 17 ?_
  refine ecn Hz Tryz.func38 rfl m131 36 (pjoin_is (ls := [encs [vo, ch, cn, sz], encs [mk, fl]]) (S := (encs [vo, ch, cn, sz] ++ encs [mk, fl])) ((m131.rd (i := 35) rfl).any) (by simp) (by simp [sumLen]; first | (have h1 := encs_len [vo, ch, cn, sz]; have h2 := encs_len [mk, fl]; simp at h1 h2; omega) | (have h1 := encs_len [xs]; have h2 := (enc_len (xd.length : Int)).1; simp at h1; omega)) (by first | (simp [itB]; done) | simp)) fun p132 c132 Az w132 Hz m133 => ?_
  refine ⟨m133.to ⟨il, il, trivial⟩, ?_⟩
  refine goA hP83 [18] 1 262143 524287 Hz (m133.to ⟨il, il, trivial⟩) (.assign rfl .nil) fun Az Hz => ?_
  refine wpAnyE_done (by kernel_rfl) ?_ _
  show K1 _ _
  exact hC1 _ _ ⟨_, _, _, Hz.only [1, 3], m133.ren [(1, 1), (9, 36), (11, 30)] (by decide)⟩
 refine e_litN Hz m83 31 (k := .i64) rfl rfl U32 fct33 rfl rfl rfl rfl fun g136 Az w137 Hz m137 => ?_
 refine ⟨fun _ => (m137.to ⟨il, il, trivial⟩), ?_⟩
 refine so 8 ?_
 refine e_litN Hz m137 32 (k := .i64) rfl rfl U31 fct0 rfl rfl rfl rfl fun g138 Az w139 Hz m139 => ?_
 refine ⟨m139.to ⟨il, il, trivial⟩, ?_⟩
 have m140 := m139.freezeN 32 rfl
 refine so 9 ?_
 refine ecn Hz Tryz.func39 rfl m140 33 (pnums_x [vo, ch, cn, sz] _ _ _ ((m140.rd (i := 32) rfl).any) (by simp) (b63 (by simp; omega))) fun p141 c141 Az w141 Hz m142 => ?_
 refine ⟨m142.to ⟨il, il, trivial⟩, ?_⟩
 have m144 := m142.freezeN 31 rfl
 refine so 15 ?_
 refine ecn Hz Tryz.func40 rfl m144 34 (pnuml_x [mk, fl] _ _ _ ((m144.rd (i := 31) rfl).any) (by simp) (b63 (by simp; omega))) fun p145 c145 Az w145 Hz m146 => ?_
 refine ⟨m146.to ⟨il, il, trivial⟩, ?_⟩
 have m149 := m146.freezeN 33 rfl
 have m150 := m149.freezeN 34 rfl
 refine so 16 ?_
 refine e_litR Hz m150 35 (mm := 1) rfl (.cons rfl rfl (.cons (m150.rd (i := 33) rfl) .nil) <| .cons rfl rfl (.cons (m150.rd (i := 34) rfl) .nil) .nil) U59 fct36 rfl rfl rfl rfl rfl fun g148 Az w151 Hz m151 => ?_
 refine ⟨m151.to ⟨il, il, trivial⟩, ?_⟩
 have m152 := m151.freezeR 35 rfl
 refine so 17 ?_
 refine ecn Hz Tryz.func38 rfl m152 36 (pjoin_is (ls := [encs [vo, ch, cn, sz], encs [mk, fl]]) (S := (encs [vo, ch, cn, sz] ++ encs [mk, fl])) ((m152.rd (i := 35) rfl).any) (by simp) (by simp [sumLen]; first | (have h1 := encs_len [vo, ch, cn, sz]; have h2 := encs_len [mk, fl]; simp at h1 h2; omega) | (have h1 := encs_len [xs]; have h2 := (enc_len (xd.length : Int)).1; simp at h1; omega)) (by first | (simp [itB]; done) | simp)) fun p153 c153 Az w153 Hz m154 => ?_
 refine ⟨m154.to ⟨il, il, trivial⟩, ?_⟩
 refine goA hP83 [18] 1 262143 524287 Hz (m154.to ⟨il, il, trivial⟩) (.assign rfl .nil) fun Az Hz => ?_
 refine wpAnyE_done (by kernel_rfl) ?_ _
 show K1 _ _
 exact hC1 _ _ ⟨_, _, _, Hz.only [1, 3], m154.ren [(1, 1), (9, 36), (11, 30)] (by decide)⟩
end Go.Proofs.YteglmahnkfgelaaGreat.K
