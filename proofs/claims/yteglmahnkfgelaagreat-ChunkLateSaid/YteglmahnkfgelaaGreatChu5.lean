/- chunk: PutPush. -/
import Derived.Test.YteglmahnkfgelaaGreatChu4
import Derived.Test.YteglmahnkfgelaaGreatG5
import Derived.Test.YteglmahnkfgelaaGreatG6
namespace Go.Proofs.YteglmahnkfgelaaGreat.K
open Go.ChangeShapes Go.WideShapes Go.ChangeAt Go.RowKit
set_option linter.unusedVariables false
set_option linter.unusedSimpArgs false
def itB (x : Int × List Int) : List Int := encs [x.1] ++ (enc (x.2.length : Int) ++ x.2)
def wrB (e : Int × List (Int × List Int)) : List Int := encs [e.1] ++ encs [(e.2.length : Int)] ++ e.2.flatMap itB
def hdB (vo ch cn sz fr to fl : Int) (W : List (Int × List (Int × List Int))) : List Int := encs [vo, ch, cn, sz] ++ (encs [fr, to, fl] ++ encs [(W.length : Int)])
def pushB (vo ch cn sz fr to fl : Int) (W : List (Int × List (Int × List Int))) : List Int := hdB vo ch cn sz fr to fl W ++ W.flatMap wrB
theorem hdB_len (vo ch cn sz fr to fl : Int) (W : List (Int × List (Int × List Int))) : (hdB vo ch cn sz fr to fl W).length ≤ 80 := by
 have h1 := encs_len [vo, ch, cn, sz]; have h2 := encs_len [fr, to, fl]; have h3 := encs_len [(W.length : Int)]
 simp at h1 h2 h3
 unfold hdB
 simp only [List.length_append]
 omega
theorem its_len {xl : List (Int × List Int)} {cn : Int} (hit : ∀ {j : Nat} {xb : Int} {xd : List Int}, xl[j]? = some (xb, xd) → (0 ≤ xb ∧ xb < cn) ∧ (xd.length ≤ 32 ∧ xl.length ≤ 8)) : ∀ j, ((xl.take j).flatMap itB).length ≤ 60 * j
 | 0 => by simp
 | j + 1 => by
   have ih := its_len hit j
   cases he : xl[j]? with
   | none => rw [List.take_of_length_le (by have := List.getElem?_eq_none_iff.1 he; omega)]; rw [List.take_of_length_le (by have := List.getElem?_eq_none_iff.1 he; omega)] at ih; omega
   | some x =>
     obtain ⟨xb, xd⟩ := x
     have h1 := hit he
     have h2 := encs_len [xb]; have h3 := (enc_len (xd.length : Int)).1
     simp at h2
     have h9 : ([(xb, xd)].flatMap itB).length ≤ 60 := by simp [itB]; omega
     rw [take_snoc he, List.flatMap_append, List.length_append]
     omega
theorem wpre_seq {vo ch cn sz fr to fl2 : Int} {W : List (Int × List (Int × List Int))} (hP : PuOk vo ch cn sz fr to fl2 W) {k : Nat} {xs : Int} {xl : List (Int × List Int)} (hes : W[k]? = some (xs, xl)) : 0 ≤ xs ∧ xs ≤ to ∧ to ≤ 1099511627776 := by
 have key : ∀ k, k < W.length → fr < (W.getD k w1).1 := by
   intro k
   induction k with
   | zero => intro h; have := (hP.2.2.2.2.2 0 h).1; simpa using this
   | succ k ih =>
     intro h
     have h1 := (hP.2.2.2.2.2 (k + 1) h).1
     rw [if_neg (by omega), Nat.add_sub_cancel] at h1
     have := ih (by omega)
     omega
 have hk := (List.getElem?_eq_some_iff.1 hes).1
 have h1 := key k hk
 have h2 := (hP.2.2.2.2.2 k hk).2.1
 rw [show W.getD k w1 = (xs, xl) by rw [List.getD, hes]; rfl] at h1 h2
 have h3 := hP.2.2.1.1; have h4 := hP.2.1.2
 dsimp only at h1 h2
 omega
theorem wrs_len {vo ch cn sz fr to fl2 : Int} {W : List (Int × List (Int × List Int))} (hP : PuOk vo ch cn sz fr to fl2 W) : ∀ k, ((W.take k).flatMap wrB).length ≤ 1000 * k
 | 0 => by simp
 | k + 1 => by
   have ih := wrs_len hP k
   cases he : W[k]? with
   | none => rw [List.take_of_length_le (by have := List.getElem?_eq_none_iff.1 he; omega)]; rw [List.take_of_length_le (by have := List.getElem?_eq_none_iff.1 he; omega)] at ih; omega
   | some x =>
     obtain ⟨xs, xl⟩ := x
     have h1 := its_len (cn := cn) (xl := xl) (fun h7 => wpre_at hP he h7) xl.length
     have h8 := wpre_8 hP he
     have h2 := encs_len [xs]; have h3 := encs_len [(xl.length : Int)]
     simp at h2 h3
     rw [List.take_length] at h1
     have h9 : ([(xs, xl)].flatMap wrB).length ≤ 1000 := by rw [List.flatMap_cons, List.flatMap_nil, List.append_nil, wrB]; simp only [List.length_append]; omega
     rw [take_snoc he, List.flatMap_append, List.length_append]
     omega
set_option maxRecDepth 100000
set_option maxHeartbeats 4000000
theorem plump_x (b : List Int) (p : Option Addr) (c : Nat) (w0 : World) (h0 : Rd (fun _ => True) w0 (.slice p b.length c) (.ns .u8 b)) (hl : b.length ≤ 1000000) :
   Calls Tryz.prog 41 #[.slice p b.length c] w0 fun e w' => ∃ (p : Option Addr) (c : Nat), e = .returned (.slice p (enc (b.length : Int) ++ b).length c) ∧ w'.ownsRow w0.heap.size 5 1 (.slice p (enc (b.length : Int) ++ b).length c) (enc (b.length : Int) ++ b).length ((enc (b.length : Int) ++ b).map (Value.int .u8)) ∧ Below w0.heap.size w0 w' := by
 refine ent1 Tryz.func41 rfl Tryz.ntmps41 fun Az Hz => ?_
 have m0 := MemOk.start (fun _ => False) w0
 refine regS Hz (.assign rfl .nil) fun Az Hz => ?_
 refine zsr fun K0 hK0 => ?_
 refine goCh Hz (.move rfl <| .len rfl U22 <| .conv rfl U3 U101 (r := (b.length : Int)) (IntWalk.u64_in _ (by omega)) .nil) fun Az Hz => ?_
 refine plz (e_litN Hz m0 20 (k := .u64) rfl rfl U163 fct35 rfl rfl rfl rfl fun g8 Az w9 Hz m9 => ?_)
 have m10 := m9.freezeN 20 rfl
 refine plz (ecn Hz Tryz.func87 rfl m10 21 (pput_x _ [(b.length : Int)] _ ((m10.rd (i := 20) rfl).any) (by simp) (one63 (by omega))) fun p11 c11 Az w11 Hz m12 => ?_)
 refine goCh Hz (.move rfl .nil) fun Az Hz => ?_
 refine plz (e_appN Hz m12 21 rfl rfl rfl (h0.now' m12 rfl).ns_out.nums U22 fct13 (by decide) (by rw [encs_one]; have := (enc_len (b.length : Int)).1; omega) rfl fun p15 c15 Az w16 Hz m16 => ?_)
 refine gz hK0 Hz (.assign rfl .nil) fun Az Hz => ?_
 refine rt1 Hz ?_
 rw [encs_one] at m16
 rw [encs_one]
 exact ⟨_, _, rfl, m16.ok 21 _ rfl, m16.below⟩
theorem cputpush_x (X : Cx) (vo ch cn sz fr to fl : Int) (W : List (Int × List (Int × List Int))) (pw : Option Addr) (nw cw : Nat) (w0 : World) (hP : PuOk vo ch cn sz fr to fl W) (m0 : MemOk X w0 [(1, .dat (.slice pw nw cw) (.l 2 (W.map wrD)))] w0) :
   Calls Tryz.prog 12 #[.agg #[.int .i64 vo, .int .i64 ch, .int .i64 cn, .int .i64 sz, .int .i64 fr, .int .i64 to, .int .i64 fl, .slice pw nw cw]] w0 fun e w' => ∃ (p9 : Option Addr) (c9 : Nat), e = .returned (.tuple #[.slice p9 (pushB vo ch cn sz fr to fl W).length c9, .int .i64 0]) ∧ MemOk X w0 [(1, .dat (.slice pw nw cw) (.l 2 (W.map wrD))), (9, .num (.slice p9 (pushB vo ch cn sz fr to fl W).length c9) 5 .u8 (pushB vo ch cn sz fr to fl W))] w' := by
 refine ent1 Tryz.func12 rfl Tryz.ntmps12 fun Az Hz => ?_
 have hWl := hP.2.2.2.2.1
 have hW := wpre_len hP
 have hnw : nw = W.length := nnOf (m0.rd (i := 1) rfl)
 revert Hz
 subst hnw
 intro Hz
 obtain ⟨⟨hv0, hv1⟩, ⟨hc0, hc1⟩, ⟨hn0, hn1⟩, ⟨hz0, hz1⟩⟩ := hP.1
 obtain ⟨ht0, ht1⟩ := hP.2.1
 obtain ⟨hf0, hf1⟩ := hP.2.2.1
 obtain ⟨hl0, hl1⟩ := hP.2.2.2.1
 refine zsr fun K0 hK0 => ?_
 refine plz (e_box Hz m0 30 (cs := [_, _, _, _, _, _, _, _]) rfl rfl rfl fun g1 Az w2 Hz m2 _ _ => ?_)
 refine gz hK0 Hz (.assign rfl <| .assign rfl <| .nil) fun Az Hz => ?_
 refine wsk fun K1 hK1 => ?_
 refine zsr fun K2 hK2 => ?_
 refine goCh Hz (.loadBR m2 (i := 30) rfl rfl U25 rfl fct7 (by simp) (by dsimp only [List.drop, List.take] <;> rfl) .nil) fun Az Hz => ?_
 refine plz (ecl Hz Tryz.func14 rfl (pright_x _ vo ch cn sz fr to fl W _ _ _ _ (by omega) hW (m2.into [(1, 1)] (by decide) rfl)) ?_)
 rintro e w7 ⟨bp9, rfl, hbp, hm7⟩
 have mx7 := m2.back hm7 [(1, 1)] (by decide); clear hm7 m2
 have m7 := mx7.oz [1, 30]
 refine ⟨_, rfl, ?_⟩; intro Az Hz
 refine gz hK2 Hz (.not rfl .nil) fun Az Hz => ?_
 refine bc Hz 11 ?_ ?_
 · intro hb _; exact absurd hb (by rw [hbp.2 hP]; simp)
 clear Hz; intro _ Hz
 refine wcf Hz ?_
 refine zss (hK1 _ _ ?_)
 refine wsk fun K3 hK3 => ?_
 have hC3 : ∀ (a : Act) (w : World), (∃ (gP : Nat) (p9 : Option Addr) (c9 : Nat), Has 78 [(1, .pointer (some ⟨gP, 0, none⟩)), (4, .slice p9 (hdB vo ch cn sz fr to fl W).length c9)] a ∧ MemOk X w0 [(1, .dat (.slice pw W.length cw) (.l 2 (W.map wrD))), (9, .num (.slice p9 (hdB vo ch cn sz fr to fl W).length c9) 5 .u8 (hdB vo ch cn sz fr to fl W)), (11, .box gP 25 [.int .i64 vo, .int .i64 ch, .int .i64 cn, .int .i64 sz, .int .i64 fr, .int .i64 to, .int .i64 fl, .slice pw W.length cw])] w) → K3 a w := by
   clear Hz m7
   rintro Az w11 ⟨gP, p9, c9, Hz, m11⟩
   refine hK3 _ _ ?_
   refine wsk fun K4 hK4 => ?_
   refine regS Hz (.fa 7 rfl U25 <| .lb m11 11 U23 rfl rfl rfl <| .len rfl U23 <| .move rfl .nil) fun Az Hz => ?_
   refine wp_block ?_
   refine wp_loop_ghost (fun g a w => ∃ (k gP : Nat) (p9 : Option Addr) (c9 : Nat), k ≤ W.length ∧ g = W.length - k ∧ Has 78 [(1, .pointer (some ⟨gP, 0, none⟩)), (4, .slice p9 (hdB vo ch cn sz fr to fl W ++ (W.take k).flatMap wrB).length c9), (38, .slice pw W.length cw), (39, .int .i64 W.length), (40, .int .i64 k)] a ∧ MemOk X w0 [(1, .dat (.slice pw W.length cw) (.l 2 (W.map wrD))), (9, .num (.slice p9 (hdB vo ch cn sz fr to fl W ++ (W.take k).flatMap wrB).length c9) 5 .u8 (hdB vo ch cn sz fr to fl W ++ (W.take k).flatMap wrB)), (11, .box gP 25 [.int .i64 vo, .int .i64 ch, .int .i64 cn, .int .i64 sz, .int .i64 fr, .int .i64 to, .int .i64 fl, .slice pw W.length cw])] w) (W.length) ?_ ?_
   · have hE : hdB vo ch cn sz fr to fl W = hdB vo ch cn sz fr to fl W ++ (W.take 0).flatMap wrB := by simp
     rw [hE] at m11 Hz
     exact ⟨0, _, _, _, Nat.zero_le _, rfl, Hz.only [1, 4, 38, 39, 40], m11.ren [(1, 1), (9, 9), (11, 11)] (by decide)⟩
   clear Hz m11
   rintro g Az w16 ⟨k, gP, p9, c9, hkl, hg, Hz, m16⟩
   refine regS Hz (.lss rfl rfl .nil) fun Az Hz => ?_
   refine wsk fun K5 hK5 => ?_
   refine bc Hz 41 ?_ ?_
   ·
    intro hb18 Hz; try simp only [QQ, Qax] at hb18
    have hk : k < W.length := by have := hb18; first | omega | (simp at this; omega)
    obtain ⟨⟨xs, xl⟩, hes⟩ : ∃ e, W[k]? = some e := ⟨_, List.getElem?_eq_getElem hk⟩
    have hit : ∀ {j : Nat} {xb : Int} {xd : List Int}, xl[j]? = some (xb, xd) → (0 ≤ xb ∧ xb < cn) ∧ (xd.length ≤ 32 ∧ xl.length ≤ 8) := fun h7 => wpre_at hP hes h7
    have hx8 : xl.length ≤ 8 := wpre_8 hP hes
    have hml : (xl.map itD).length = xl.length := List.length_map _
    have hxs9 := wpre_seq hP hes
    refine wct Hz ?_
    refine zss (hK5 _ _ ?_)
    refine wsk fun K6 hK6 => ?_
    refine wp_block ?_
    refine zsr fun K7 hK7 => ?_
    obtain ⟨b20, o20, vs20, hp20, hR20, ho20, m20⟩ := m16.openR (i := 1) rfl (k) (r := [.v (.int .i64 xs), .l 2 (xl.map itD)]) (wrD_get hes) 200 rfl
    revert Hz
    cases hp20; clear m16 ho20
    rcases hR20 with _ | ⟨hd20_0, _ | ⟨hd20_1, _ | _⟩⟩
    obtain rfl := hd20_0.v_out
    clear hd20_0
    obtain ⟨p21, c21, hv21, hc21⟩ := hd20_1.l_shape; subst hv21
    intro Hz
    have m21 := m20.dat 201 rfl (hd20_1.cast (fun _ h => (free_add rfl h))); clear m20 hd20_1
    refine goCh Hz (.c rfl (fun _ h_ => y_idx h_ rfl rfl U23 fct8 (k) rfl hk) <| .loadCR m21 (i := 200) rfl rfl U30 rfl fct8 .nil) fun Az Hz => ?_
    refine plz (e_alloc Hz m21 202 fct9 rfl fun g24 Az w25 Hz m25 _ _ => ?_)
    refine plz (stw Hz m25 202 fct8 fun w26 m26 _ => ?_)
    refine znl (hK7 _ _ ?_)
    refine wsk fun K8 hK8 => ?_
    have hC8 : ∀ (a : Act) (w : World), (∃ (gP gW : Nat) (p9 : Option Addr) (c9 : Nat) (px : Option Addr) (cx : Nat), Has 78 [(1, .pointer (some ⟨gP, 0, none⟩)), (4, .slice p9 (hdB vo ch cn sz fr to fl W ++ (W.take k).flatMap wrB ++ (encs [xs] ++ encs [((xl.map itD).length : Int)])).length c9), (6, .pointer (some ⟨gW, 0, none⟩)), (38, .slice (some ⟨b20, o20, none⟩) W.length cw), (39, .int .i64 W.length), (40, .int .i64 k)] a ∧ MemOk X w0 [(1, .dat (.slice (some ⟨b20, o20, none⟩) W.length cw) (.l 2 (W.map wrD))), (9, .num (.slice p9 (hdB vo ch cn sz fr to fl W ++ (W.take k).flatMap wrB ++ (encs [xs] ++ encs [((xl.map itD).length : Int)])).length c9) 5 .u8 (hdB vo ch cn sz fr to fl W ++ (W.take k).flatMap wrB ++ (encs [xs] ++ encs [((xl.map itD).length : Int)]))), (11, .box gP 25 [.int .i64 vo, .int .i64 ch, .int .i64 cn, .int .i64 sz, .int .i64 fr, .int .i64 to, .int .i64 fl, .slice (some ⟨b20, o20, none⟩) W.length cw]), (13, .box gW 30 [.int .i64 xs, .slice px (xl.map itD).length cx]), (14, .dat (.slice px (xl.map itD).length cx) (.l 2 (xl.map itD)))] w) → K8 a w := by
      clear Hz m26
      rintro Az w27 ⟨gP, gW, p9, c9, px, cx, Hz, m27⟩
      refine hK8 _ _ ?_
      refine regS Hz (.fa 1 rfl U30 <| .lb m27 13 U28 rfl rfl rfl <| .len rfl U28 <| .move rfl .nil) fun Az Hz => ?_
      refine wp_block ?_
      refine wp_loop_ghost (fun g a w => ∃ (j gP gW : Nat) (p9 : Option Addr) (c9 : Nat) (px : Option Addr) (cx : Nat), j ≤ xl.length ∧ g = xl.length - j ∧ Has 78 [(1, .pointer (some ⟨gP, 0, none⟩)), (4, .slice p9 (hdB vo ch cn sz fr to fl W ++ (W.take k).flatMap wrB ++ (encs [xs] ++ encs [((xl.map itD).length : Int)]) ++ (xl.take j).flatMap itB).length c9), (6, .pointer (some ⟨gW, 0, none⟩)), (38, .slice (some ⟨b20, o20, none⟩) W.length cw), (39, .int .i64 W.length), (40, .int .i64 k), (58, .slice px (xl.map itD).length cx), (59, .int .i64 (xl.map itD).length), (60, .int .i64 j)] a ∧ MemOk X w0 [(1, .dat (.slice (some ⟨b20, o20, none⟩) W.length cw) (.l 2 (W.map wrD))), (9, .num (.slice p9 (hdB vo ch cn sz fr to fl W ++ (W.take k).flatMap wrB ++ (encs [xs] ++ encs [((xl.map itD).length : Int)]) ++ (xl.take j).flatMap itB).length c9) 5 .u8 (hdB vo ch cn sz fr to fl W ++ (W.take k).flatMap wrB ++ (encs [xs] ++ encs [((xl.map itD).length : Int)]) ++ (xl.take j).flatMap itB)), (11, .box gP 25 [.int .i64 vo, .int .i64 ch, .int .i64 cn, .int .i64 sz, .int .i64 fr, .int .i64 to, .int .i64 fl, .slice (some ⟨b20, o20, none⟩) W.length cw]), (13, .box gW 30 [.int .i64 xs, .slice px (xl.map itD).length cx]), (14, .dat (.slice px (xl.map itD).length cx) (.l 2 (xl.map itD)))] w) (xl.length) ?_ ?_
      · have hE : hdB vo ch cn sz fr to fl W ++ (W.take k).flatMap wrB ++ (encs [xs] ++ encs [((xl.map itD).length : Int)]) = hdB vo ch cn sz fr to fl W ++ (W.take k).flatMap wrB ++ (encs [xs] ++ encs [((xl.map itD).length : Int)]) ++ (xl.take 0).flatMap itB := by simp
        rw [hE] at m27 Hz
        exact ⟨0, _, _, _, _, _, _, Nat.zero_le _, rfl, Hz.only [1, 4, 6, 38, 39, 40, 58, 59, 60], m27.ren [(1, 1), (9, 9), (11, 11), (13, 13), (14, 14)] (by decide)⟩
      clear Hz m27
      rintro g Az w32 ⟨j, gP, gW, p9, c9, px, cx, hjl, hg2, Hz, m32⟩
      refine regS Hz (.lss rfl rfl .nil) fun Az Hz => ?_
      refine wsk fun K9 hK9 => ?_
      refine bc Hz 61 ?_ ?_
      ·
       intro hb34 Hz; try simp only [QQ, Qax] at hb34
       have hj : j < xl.length := by have := hb34; first | (rw [List.length_map] at this; omega) | (simp at this; omega)
       obtain ⟨⟨xb, xd⟩, hxs⟩ : ∃ e, xl[j]? = some e := ⟨_, List.getElem?_eq_getElem hj⟩
       have hxb := (hit hxs).1
       have hxd : xd.length ≤ 32 := (hit hxs).2.1
       refine wct Hz ?_
       refine zss (hK9 _ _ ?_)
       refine wsk fun K10 hK10 => ?_
       refine wp_block ?_
       refine zsr fun K11 hK11 => ?_
       obtain ⟨b36, o36, vs36, hp36, hR36, ho36, m36⟩ := m32.openR (i := 14) rfl (j) (r := [.v (.int .i64 xb), .ns .u8 xd]) (itD_get hxs) 400 rfl
       revert Hz
       cases hp36; clear m32 ho36
       rcases hR36 with _ | ⟨hd36_0, _ | ⟨hd36_1, _ | _⟩⟩
       obtain rfl := hd36_0.v_out
       clear hd36_0
       obtain ⟨p37, c37, hv37, hc37⟩ := hd36_1.ns_shape; subst hv37
       intro Hz
       have m37 := m36.dat 401 rfl (hd36_1.cast (fun _ h => (free_add rfl h))); clear m36 hd36_1
       refine goCh Hz (.c rfl (fun _ h_ => y_idx h_ rfl rfl U28 fct25 (j) rfl (by rw [List.length_map]; omega)) <| .loadCR m37 (i := 400) rfl rfl U78 rfl fct25 .nil) fun Az Hz => ?_
       refine plz (e_alloc Hz m37 402 fct17 rfl fun g40 Az w41 Hz m41 _ _ => ?_)
       refine plz (stw Hz m41 402 fct25 fun w42 m42 _ => ?_)
       refine znl (hK11 _ _ ?_)
       have m43 := m42.oz [1, 9, 11, 13, 14, 400, 401, 402]
       refine region_p 12 (B := [(1, _), (11, _), (13, _), (14, _), (400, _), (401, _), (402, _)]) (m43.to ⟨il, il, il, il, il, il, il, trivial⟩) m43 (by kernel_rfl) (fun w44 hP44 m44 => ?_); clear m43
       refine goR hP44 [0, 1, 2, 5, 6] [2, 6] 5 0 103 Hz (m44.to ⟨il, il, il, il, il, il, il, trivial⟩) (.move rfl <| .fa 0 rfl U78 <| .lb hh 402 U3 rfl rfl rfl <| .fa 1 rfl U78 <| .lb hh 402 U22 rfl rfl rfl .nil) fun Az Hz => ?_
       refine so 3 ?_
       refine e_litN Hz m44 403 (k := .i64) rfl rfl U31 fct0 rfl rfl rfl rfl fun g50 Az w51 Hz m51 => ?_
       refine ⟨m51.to ⟨il, il, il, il, il, il, il, trivial⟩, ?_⟩
       have m52 := m51.freezeN 403 rfl
       refine so 4 ?_
       refine ecn Hz Tryz.func39 rfl m52 404 (pnums_x [xb] _ _ _ ((m52.rd (i := 403) rfl).any) (by simp) (b63 (by simp; omega))) fun p53 c53 Az w53 Hz m54 => ?_
       refine ⟨m54.to ⟨il, il, il, il, il, il, il, trivial⟩, ?_⟩
       refine so 7 ?_
       refine ecn Hz Tryz.func41 rfl m54 405 (plump_x xd _ _ _ ((m54.rd (i := 401) rfl).any) (by omega)) fun p56 c56 Az w56 Hz m57 => ?_
       refine ⟨m57.to ⟨il, il, il, il, il, il, il, trivial⟩, ?_⟩
       have m60 := m57.freezeN 404 rfl
       have m61 := m60.freezeN 405 rfl
       refine so 8 ?_
       refine e_litR Hz m61 406 (mm := 1) rfl (.cons rfl rfl (.cons (m61.rd (i := 404) rfl) .nil) <| .cons rfl rfl (.cons (m61.rd (i := 405) rfl) .nil) .nil) U59 fct36 rfl rfl rfl rfl rfl fun g59 Az w62 Hz m62 => ?_
       refine ⟨m62.to ⟨il, il, il, il, il, il, il, trivial⟩, ?_⟩
       have m63 := m62.freezeR 406 rfl
       refine so 9 ?_
       refine ecn Hz Tryz.func38 rfl m63 407 (pjoin_is (ls := [encs [xb], enc (xd.length : Int) ++ xd]) (S := itB (xb, xd)) ((m63.rd (i := 406) rfl).any) (by simp) (by simp [sumLen]; first | (have h1 := encs_len [vo, ch, cn, sz]; have h2 := encs_len [fr, to, fl]; have h3 := encs_len [(W.length : Int)]; simp at h1 h2 h3; omega) | (have h1 := encs_len [xs]; have h2 := encs_len [((xl.map itD).length : Int)]; simp at h1 h2; omega) | (have h1 := encs_len [xb]; have h2 := (enc_len (xd.length : Int)).1; simp at h1; omega)) (by first | (simp [hdB]; done) | (simp [itB]; done) | simp)) fun p64 c64 Az w64 Hz m65 => ?_
       refine ⟨m65.to ⟨il, il, il, il, il, il, il, trivial⟩, ?_⟩
       refine so 10 ?_
       refine e_appN Hz m65 9 rfl rfl rfl (m65.numsO (i := 407) rfl) U22 fct13 (by decide) (by have hz1 := wrs_len hP k; have hz2 := encs_len [xs]; have hz3 := encs_len [((xl.map itD).length : Int)]; have hz4 := hdB_len vo ch cn sz fr to fl W; have hz5 := its_len hit j; have hz6 := encs_len [xb]; have hz7 := (enc_len (xd.length : Int)).1; simp only [List.length_cons, List.length_nil] at hz2 hz3 hz6; simp only [itB, List.length_append]; omega) rfl fun p67 c67 Az w68 Hz m68 => ?_
       refine ⟨m68.to ⟨il, il, il, il, il, il, il, trivial⟩, ?_⟩
       refine goA hP44 [11] 1 2047 4095 Hz (m68.to ⟨il, il, il, il, il, il, il, trivial⟩) (.assign rfl .nil) fun Az Hz => ?_
       refine wpAnyE_done (by kernel_rfl) ?_ _
       refine hK10 _ _ ?_
       replace Hz := Hz.oz [1, 4, 6, 38, 39, 40, 58, 59, 60]
       refine wp_region_lit ?_
       refine goCh Hz (.inc (j + 1) <| .move rfl .nil) fun Az Hz => ?_
       refine wpList_nil ?_
       show ∃ n', n' < _ ∧ _
       have hE : hdB vo ch cn sz fr to fl W ++ (W.take k).flatMap wrB ++ (encs [xs] ++ encs [((xl.map itD).length : Int)]) ++ (xl.take j).flatMap itB ++ itB (xb, xd) = hdB vo ch cn sz fr to fl W ++ (W.take k).flatMap wrB ++ (encs [xs] ++ encs [((xl.map itD).length : Int)]) ++ (xl.take (j + 1)).flatMap itB := by rw [take_snoc hxs, List.flatMap_append]; simp
       rw [hE] at m68 Hz
       exact ⟨xl.length - (j + 1), by omega, j + 1, _, _, _, _, _, _, by omega, rfl, Hz.only [1, 4, 6, 38, 39, 40, 58, 59, 60], m68.ren [(1, 1), (9, 9), (11, 11), (13, 13), (14, 14)] (by decide)⟩
      intro hb34 Hz; try simp only [QQ, Qax] at hb34
      revert Hz
      obtain rfl : j = xl.length := by have := hb34; first | (rw [List.length_map] at this; omega) | (simp at this; omega)
      intro Hz
      refine wcf Hz ?_
      refine wp_exit ?_
      refine hK6 _ _ ?_
      refine wp_region_lit ?_
      refine goCh Hz (.inc (k + 1) <| .move rfl .nil) fun Az Hz => ?_
      refine wpList_nil ?_
      show ∃ n', n' < _ ∧ _
      have hE : hdB vo ch cn sz fr to fl W ++ (W.take k).flatMap wrB ++ (encs [xs] ++ encs [((xl.map itD).length : Int)]) ++ (xl.take xl.length).flatMap itB = hdB vo ch cn sz fr to fl W ++ (W.take (k + 1)).flatMap wrB := by rw [List.take_length, take_snoc hes, List.flatMap_append]; simp [wrB]
      rw [hE] at m32 Hz
      exact ⟨W.length - (k + 1), by omega, k + 1, _, _, _, by omega, rfl, Hz.only [1, 4, 38, 39, 40], m32.ren [(1, 1), (9, 9), (11, 11)] (by decide)⟩
    have m75 := m26.oz [1, 9, 11, 200, 201, 202]
    refine region_p 14 (B := [(1, _), (11, _), (200, _), (201, _), (202, _)]) (m75.to ⟨il, il, il, il, il, trivial⟩) m75 (by kernel_rfl) (fun w76 hP76 m76 => ?_); clear m75
    refine goR hP76 [0, 1, 2, 5, 6, 7] [2, 6] 6 0 231 Hz (m76.to ⟨il, il, il, il, il, trivial⟩) (.move rfl <| .fa 0 rfl U30 <| .lb hh 202 U2 rfl rfl rfl <| .fa 1 rfl U30 <| .lb hh 202 U28 rfl rfl rfl <| .len rfl U28 .nil) fun Az Hz => ?_
    refine dtw 3 8 ?_ ?_
    ·
     refine e_litN Hz m76 203 (k := .i64) rfl rfl U32 fct33 rfl rfl rfl rfl fun g83 Az w84 Hz m84 => ?_
     refine ⟨fun _ => (m84.to ⟨il, il, il, il, il, trivial⟩), ?_⟩
     refine dtw 4 8 ?_ ?_
     ·
      have m85 := m84.freezeN 203 rfl
      refine ecn Hz Tryz.func40 rfl m85 204 (pnuml_x [xs] _ _ _ ((m85.rd (i := 203) rfl).any) (by simp) (b63 (by simp; omega))) fun p86 c86 Az w86 Hz m87 => ?_
      refine ⟨fun _ => (m87.to ⟨il, il, il, il, il, trivial⟩), ?_⟩
      refine so 8 ?_
      refine e_litN Hz m87 205 (k := .i64) rfl rfl U31 fct0 rfl rfl rfl rfl fun g89 Az w90 Hz m90 => ?_
      refine ⟨m90.to ⟨il, il, il, il, il, trivial⟩, ?_⟩
      have m91 := m90.freezeN 205 rfl
      refine so 9 ?_
      refine ecn Hz Tryz.func39 rfl m91 206 (pnums_x [((xl.map itD).length : Int)] _ _ _ ((m91.rd (i := 205) rfl).any) (by simp) (b63 (by simp; omega))) fun p92 c92 Az w92 Hz m93 => ?_
      refine ⟨m93.to ⟨il, il, il, il, il, trivial⟩, ?_⟩
      have m96 := m93.freezeN 204 rfl
      have m97 := m96.freezeN 206 rfl
      refine so 10 ?_
      refine e_litR Hz m97 207 (mm := 1) rfl (.cons rfl rfl (.cons (m97.rd (i := 204) rfl) .nil) <| .cons rfl rfl (.cons (m97.rd (i := 206) rfl) .nil) .nil) U59 fct36 rfl rfl rfl rfl rfl fun g95 Az w98 Hz m98 => ?_
      refine ⟨m98.to ⟨il, il, il, il, il, trivial⟩, ?_⟩
      have m99 := m98.freezeR 207 rfl
      refine so 11 ?_
      refine ecn Hz Tryz.func38 rfl m99 208 (pjoin_is (ls := [encs [xs], encs [((xl.map itD).length : Int)]]) (S := (encs [xs] ++ encs [((xl.map itD).length : Int)])) ((m99.rd (i := 207) rfl).any) (by simp) (by simp [sumLen]; first | (have h1 := encs_len [vo, ch, cn, sz]; have h2 := encs_len [fr, to, fl]; have h3 := encs_len [(W.length : Int)]; simp at h1 h2 h3; omega) | (have h1 := encs_len [xs]; have h2 := encs_len [((xl.map itD).length : Int)]; simp at h1 h2; omega) | (have h1 := encs_len [xb]; have h2 := (enc_len (xd.length : Int)).1; simp at h1; omega)) (by first | (simp [hdB]; done) | (simp [itB]; done) | simp)) fun p100 c100 Az w100 Hz m101 => ?_
      refine ⟨m101.to ⟨il, il, il, il, il, trivial⟩, ?_⟩
      refine so 12 ?_
      refine e_appN Hz m101 9 rfl rfl rfl (m101.numsO (i := 208) rfl) U22 fct13 (by decide) (by have hz1 := wrs_len hP k; have hz2 := encs_len [xs]; have hz3 := encs_len [((xl.map itD).length : Int)]; have hz4 := hdB_len vo ch cn sz fr to fl W; simp only [List.length_cons, List.length_nil] at hz2 hz3; simp only [List.length_append]; omega) rfl fun p103 c103 Az w104 Hz m104 => ?_
      refine ⟨m104.to ⟨il, il, il, il, il, trivial⟩, ?_⟩
      refine goA hP76 [13] 1 8191 16383 Hz (m104.to ⟨il, il, il, il, il, trivial⟩) (.assign rfl .nil) fun Az Hz => ?_
      refine wpAnyE_done (by kernel_rfl) ?_ _
      show K8 _ _
      exact hC8 _ _ ⟨_, _, _, _, _, _, Hz.only [1, 4, 6, 38, 39, 40], m104.ren [(1, 1), (9, 9), (11, 11), (13, 202), (14, 201)] (by decide)⟩
     refine e_litN Hz m84 204 (k := .i64) rfl rfl U31 fct0 rfl rfl rfl rfl fun g106 Az w107 Hz m107 => ?_
     refine ⟨fun _ => (m107.to ⟨il, il, il, il, il, trivial⟩), ?_⟩
     have m108 := m107.freezeN 203 rfl
     refine so 4 ?_
     refine ecn Hz Tryz.func40 rfl m108 205 (pnuml_x [xs] _ _ _ ((m108.rd (i := 203) rfl).any) (by simp) (b63 (by simp; omega))) fun p109 c109 Az w109 Hz m110 => ?_
     refine ⟨m110.to ⟨il, il, il, il, il, trivial⟩, ?_⟩
     have m112 := m110.freezeN 204 rfl
     refine so 9 ?_
     refine ecn Hz Tryz.func39 rfl m112 206 (pnums_x [((xl.map itD).length : Int)] _ _ _ ((m112.rd (i := 204) rfl).any) (by simp) (b63 (by simp; omega))) fun p113 c113 Az w113 Hz m114 => ?_
     refine ⟨m114.to ⟨il, il, il, il, il, trivial⟩, ?_⟩
     have m117 := m114.freezeN 205 rfl
     have m118 := m117.freezeN 206 rfl
     refine so 10 ?_
     refine e_litR Hz m118 207 (mm := 1) rfl (.cons rfl rfl (.cons (m118.rd (i := 205) rfl) .nil) <| .cons rfl rfl (.cons (m118.rd (i := 206) rfl) .nil) .nil) U59 fct36 rfl rfl rfl rfl rfl fun g116 Az w119 Hz m119 => ?_
     refine ⟨m119.to ⟨il, il, il, il, il, trivial⟩, ?_⟩
     have m120 := m119.freezeR 207 rfl
     refine so 11 ?_
     refine ecn Hz Tryz.func38 rfl m120 208 (pjoin_is (ls := [encs [xs], encs [((xl.map itD).length : Int)]]) (S := (encs [xs] ++ encs [((xl.map itD).length : Int)])) ((m120.rd (i := 207) rfl).any) (by simp) (by simp [sumLen]; first | (have h1 := encs_len [vo, ch, cn, sz]; have h2 := encs_len [fr, to, fl]; have h3 := encs_len [(W.length : Int)]; simp at h1 h2 h3; omega) | (have h1 := encs_len [xs]; have h2 := encs_len [((xl.map itD).length : Int)]; simp at h1 h2; omega) | (have h1 := encs_len [xb]; have h2 := (enc_len (xd.length : Int)).1; simp at h1; omega)) (by first | (simp [hdB]; done) | (simp [itB]; done) | simp)) fun p121 c121 Az w121 Hz m122 => ?_
     refine ⟨m122.to ⟨il, il, il, il, il, trivial⟩, ?_⟩
     refine so 12 ?_
     refine e_appN Hz m122 9 rfl rfl rfl (m122.numsO (i := 208) rfl) U22 fct13 (by decide) (by have hz1 := wrs_len hP k; have hz2 := encs_len [xs]; have hz3 := encs_len [((xl.map itD).length : Int)]; have hz4 := hdB_len vo ch cn sz fr to fl W; simp only [List.length_cons, List.length_nil] at hz2 hz3; simp only [List.length_append]; omega) rfl fun p124 c124 Az w125 Hz m125 => ?_
     refine ⟨m125.to ⟨il, il, il, il, il, trivial⟩, ?_⟩
     refine goA hP76 [13] 1 8191 16383 Hz (m125.to ⟨il, il, il, il, il, trivial⟩) (.assign rfl .nil) fun Az Hz => ?_
     refine wpAnyE_done (by kernel_rfl) ?_ _
     show K8 _ _
     exact hC8 _ _ ⟨_, _, _, _, _, _, Hz.only [1, 4, 6, 38, 39, 40], m125.ren [(1, 1), (9, 9), (11, 11), (13, 202), (14, 201)] (by decide)⟩
    refine e_litN Hz m76 203 (k := .i64) rfl rfl U31 fct0 rfl rfl rfl rfl fun g127 Az w128 Hz m128 => ?_
    refine ⟨fun _ => (m128.to ⟨il, il, il, il, il, trivial⟩), ?_⟩
    refine so 3 ?_
    refine e_litN Hz m128 204 (k := .i64) rfl rfl U32 fct33 rfl rfl rfl rfl fun g129 Az w130 Hz m130 => ?_
    refine ⟨m130.to ⟨il, il, il, il, il, trivial⟩, ?_⟩
    have m131 := m130.freezeN 204 rfl
    refine so 4 ?_
    refine ecn Hz Tryz.func40 rfl m131 205 (pnuml_x [xs] _ _ _ ((m131.rd (i := 204) rfl).any) (by simp) (b63 (by simp; omega))) fun p132 c132 Az w132 Hz m133 => ?_
    refine ⟨m133.to ⟨il, il, il, il, il, trivial⟩, ?_⟩
    have m135 := m133.freezeN 203 rfl
    refine so 9 ?_
    refine ecn Hz Tryz.func39 rfl m135 206 (pnums_x [((xl.map itD).length : Int)] _ _ _ ((m135.rd (i := 203) rfl).any) (by simp) (b63 (by simp; omega))) fun p136 c136 Az w136 Hz m137 => ?_
    refine ⟨m137.to ⟨il, il, il, il, il, trivial⟩, ?_⟩
    have m140 := m137.freezeN 205 rfl
    have m141 := m140.freezeN 206 rfl
    refine so 10 ?_
    refine e_litR Hz m141 207 (mm := 1) rfl (.cons rfl rfl (.cons (m141.rd (i := 205) rfl) .nil) <| .cons rfl rfl (.cons (m141.rd (i := 206) rfl) .nil) .nil) U59 fct36 rfl rfl rfl rfl rfl fun g139 Az w142 Hz m142 => ?_
    refine ⟨m142.to ⟨il, il, il, il, il, trivial⟩, ?_⟩
    have m143 := m142.freezeR 207 rfl
    refine so 11 ?_
    refine ecn Hz Tryz.func38 rfl m143 208 (pjoin_is (ls := [encs [xs], encs [((xl.map itD).length : Int)]]) (S := (encs [xs] ++ encs [((xl.map itD).length : Int)])) ((m143.rd (i := 207) rfl).any) (by simp) (by simp [sumLen]; first | (have h1 := encs_len [vo, ch, cn, sz]; have h2 := encs_len [fr, to, fl]; have h3 := encs_len [(W.length : Int)]; simp at h1 h2 h3; omega) | (have h1 := encs_len [xs]; have h2 := encs_len [((xl.map itD).length : Int)]; simp at h1 h2; omega) | (have h1 := encs_len [xb]; have h2 := (enc_len (xd.length : Int)).1; simp at h1; omega)) (by first | (simp [hdB]; done) | (simp [itB]; done) | simp)) fun p144 c144 Az w144 Hz m145 => ?_
    refine ⟨m145.to ⟨il, il, il, il, il, trivial⟩, ?_⟩
    refine so 12 ?_
    refine e_appN Hz m145 9 rfl rfl rfl (m145.numsO (i := 208) rfl) U22 fct13 (by decide) (by have hz1 := wrs_len hP k; have hz2 := encs_len [xs]; have hz3 := encs_len [((xl.map itD).length : Int)]; have hz4 := hdB_len vo ch cn sz fr to fl W; simp only [List.length_cons, List.length_nil] at hz2 hz3; simp only [List.length_append]; omega) rfl fun p147 c147 Az w148 Hz m148 => ?_
    refine ⟨m148.to ⟨il, il, il, il, il, trivial⟩, ?_⟩
    refine goA hP76 [13] 1 8191 16383 Hz (m148.to ⟨il, il, il, il, il, trivial⟩) (.assign rfl .nil) fun Az Hz => ?_
    refine wpAnyE_done (by kernel_rfl) ?_ _
    show K8 _ _
    exact hC8 _ _ ⟨_, _, _, _, _, _, Hz.only [1, 4, 6, 38, 39, 40], m148.ren [(1, 1), (9, 9), (11, 11), (13, 202), (14, 201)] (by decide)⟩
   intro hb18 Hz; try simp only [QQ, Qax] at hb18
   revert Hz
   obtain rfl : k = W.length := by have := hb18; first | omega | (simp at this; omega)
   intro Hz
   refine wcf Hz ?_
   refine wp_exit ?_
   refine hK4 _ _ ?_
   refine regS Hz (.move rfl <| .assign rfl <| .assign rfl .nil) fun Az Hz => ?_
   refine rt2 Hz ?_
   have hE9 : hdB vo ch cn sz fr to fl W ++ W.flatMap wrB = pushB vo ch cn sz fr to fl W := rfl
   rw [List.take_length, hE9] at m16
   rw [List.take_length, hE9]
   exact ⟨_, _, rfl, m16.ren [(1, 1), (9, 9)] (by decide)⟩
 have m153 := m7.oz [1, 30]
 refine region_p 26 (B := [(1, _), (30, _)]) (m153.to ⟨il, il, trivial⟩) m153 (by kernel_rfl) (fun w154 hP154 m154 => ?_); clear m153
 refine goR hP154 [0, 1, 2, 3, 4, 5, 6, 7, 10, 11, 12, 13, 14, 15, 18, 19, 20] [1, 3, 5, 7, 11, 13, 15, 19] 17 0 1899775 Hz (m154.to ⟨il, il, trivial⟩) (.fa 0 rfl U25 <| .lb hh 30 U3 rfl rfl rfl <| .fa 1 rfl U25 <| .lb hh 30 U3 rfl rfl rfl <| .fa 2 rfl U25 <| .lb hh 30 U3 rfl rfl rfl <| .fa 3 rfl U25 <| .lb hh 30 U3 rfl rfl rfl <| .fa 4 rfl U25 <| .lb hh 30 U2 rfl rfl rfl <| .fa 5 rfl U25 <| .lb hh 30 U2 rfl rfl rfl <| .fa 6 rfl U25 <| .lb hh 30 U2 rfl rfl rfl <| .fa 7 rfl U25 <| .lb hh 30 U23 rfl rfl rfl <| .len rfl U23 .nil) fun Az Hz => ?_
 refine dth 8 16 21 ?_ ?_ ?_
 ·
  refine e_litN Hz m154 31 (k := .i64) rfl rfl U31 fct0 rfl rfl rfl rfl fun g172 Az w173 Hz m173 => ?_
  refine ⟨fun _ => (m173.to ⟨il, il, trivial⟩), ?_⟩
  refine dth 9 16 21 ?_ ?_ ?_
  ·
   have m174 := m173.freezeN 31 rfl
   refine ecn Hz Tryz.func39 rfl m174 32 (pnums_x [vo, ch, cn, sz] _ _ _ ((m174.rd (i := 31) rfl).any) (by simp) (b63 (by simp; omega))) fun p175 c175 Az w175 Hz m176 => ?_
   refine ⟨fun _ => (m176.to ⟨il, il, trivial⟩), ?_⟩
   refine dtw 16 21 ?_ ?_
   ·
    refine e_litN Hz m176 33 (k := .i64) rfl rfl U32 fct33 rfl rfl rfl rfl fun g178 Az w179 Hz m179 => ?_
    refine ⟨fun _ => (m179.to ⟨il, il, trivial⟩), ?_⟩
    refine dtw 17 21 ?_ ?_
    ·
     have m180 := m179.freezeN 33 rfl
     refine ecn Hz Tryz.func40 rfl m180 34 (pnuml_x [fr, to, fl] _ _ _ ((m180.rd (i := 33) rfl).any) (by simp) (b63 (by simp; omega))) fun p181 c181 Az w181 Hz m182 => ?_
     refine ⟨fun _ => (m182.to ⟨il, il, trivial⟩), ?_⟩
     refine so 21 ?_
     refine e_litN Hz m182 35 (k := .i64) rfl rfl U31 fct0 rfl rfl rfl rfl fun g184 Az w185 Hz m185 => ?_
     refine ⟨m185.to ⟨il, il, trivial⟩, ?_⟩
     have m186 := m185.freezeN 35 rfl
     refine so 22 ?_
     refine ecn Hz Tryz.func39 rfl m186 36 (pnums_x [(W.length : Int)] _ _ _ ((m186.rd (i := 35) rfl).any) (by simp) (b63 (by simp; omega))) fun p187 c187 Az w187 Hz m188 => ?_
     refine ⟨m188.to ⟨il, il, trivial⟩, ?_⟩
     have m191 := m188.freezeN 32 rfl
     have m192 := m191.freezeN 34 rfl
     have m193 := m192.freezeN 36 rfl
     refine so 23 ?_
     refine e_litR Hz m193 37 (mm := 1) rfl (.cons rfl rfl (.cons (m193.rd (i := 32) rfl) .nil) <| .cons rfl rfl (.cons (m193.rd (i := 34) rfl) .nil) <| .cons rfl rfl (.cons (m193.rd (i := 36) rfl) .nil) .nil) U59 fct36 rfl rfl rfl rfl rfl fun g190 Az w194 Hz m194 => ?_
     refine ⟨m194.to ⟨il, il, trivial⟩, ?_⟩
     have m195 := m194.freezeR 37 rfl
     refine so 24 ?_
     refine ecn Hz Tryz.func38 rfl m195 38 (pjoin_is (ls := [encs [vo, ch, cn, sz], encs [fr, to, fl], encs [(W.length : Int)]]) (S := hdB vo ch cn sz fr to fl W) ((m195.rd (i := 37) rfl).any) (by simp) (by simp [sumLen]; first | (have h1 := encs_len [vo, ch, cn, sz]; have h2 := encs_len [fr, to, fl]; have h3 := encs_len [(W.length : Int)]; simp at h1 h2 h3; omega) | (have h1 := encs_len [xs]; have h2 := encs_len [((xl.map itD).length : Int)]; simp at h1 h2; omega) | (have h1 := encs_len [xb]; have h2 := (enc_len (xd.length : Int)).1; simp at h1; omega)) (by first | (simp [hdB]; done) | (simp [itB]; done) | simp)) fun p196 c196 Az w196 Hz m197 => ?_
     refine ⟨m197.to ⟨il, il, trivial⟩, ?_⟩
     refine goA hP154 [25] 1 33554431 67108863 Hz (m197.to ⟨il, il, trivial⟩) (.assign rfl .nil) fun Az Hz => ?_
     refine wpAnyE_done (by kernel_rfl) ?_ _
     show K3 _ _
     exact hC3 _ _ ⟨_, _, _, Hz.only [1, 4], m197.ren [(1, 1), (9, 38), (11, 30)] (by decide)⟩
    refine e_litN Hz m179 34 (k := .i64) rfl rfl U31 fct0 rfl rfl rfl rfl fun g200 Az w201 Hz m201 => ?_
    refine ⟨fun _ => (m201.to ⟨il, il, trivial⟩), ?_⟩
    have m202 := m201.freezeN 33 rfl
    refine so 17 ?_
    refine ecn Hz Tryz.func40 rfl m202 35 (pnuml_x [fr, to, fl] _ _ _ ((m202.rd (i := 33) rfl).any) (by simp) (b63 (by simp; omega))) fun p203 c203 Az w203 Hz m204 => ?_
    refine ⟨m204.to ⟨il, il, trivial⟩, ?_⟩
    have m206 := m204.freezeN 34 rfl
    refine so 22 ?_
    refine ecn Hz Tryz.func39 rfl m206 36 (pnums_x [(W.length : Int)] _ _ _ ((m206.rd (i := 34) rfl).any) (by simp) (b63 (by simp; omega))) fun p207 c207 Az w207 Hz m208 => ?_
    refine ⟨m208.to ⟨il, il, trivial⟩, ?_⟩
    have m211 := m208.freezeN 32 rfl
    have m212 := m211.freezeN 35 rfl
    have m213 := m212.freezeN 36 rfl
    refine so 23 ?_
    refine e_litR Hz m213 37 (mm := 1) rfl (.cons rfl rfl (.cons (m213.rd (i := 32) rfl) .nil) <| .cons rfl rfl (.cons (m213.rd (i := 35) rfl) .nil) <| .cons rfl rfl (.cons (m213.rd (i := 36) rfl) .nil) .nil) U59 fct36 rfl rfl rfl rfl rfl fun g210 Az w214 Hz m214 => ?_
    refine ⟨m214.to ⟨il, il, trivial⟩, ?_⟩
    have m215 := m214.freezeR 37 rfl
    refine so 24 ?_
    refine ecn Hz Tryz.func38 rfl m215 38 (pjoin_is (ls := [encs [vo, ch, cn, sz], encs [fr, to, fl], encs [(W.length : Int)]]) (S := hdB vo ch cn sz fr to fl W) ((m215.rd (i := 37) rfl).any) (by simp) (by simp [sumLen]; first | (have h1 := encs_len [vo, ch, cn, sz]; have h2 := encs_len [fr, to, fl]; have h3 := encs_len [(W.length : Int)]; simp at h1 h2 h3; omega) | (have h1 := encs_len [xs]; have h2 := encs_len [((xl.map itD).length : Int)]; simp at h1 h2; omega) | (have h1 := encs_len [xb]; have h2 := (enc_len (xd.length : Int)).1; simp at h1; omega)) (by first | (simp [hdB]; done) | (simp [itB]; done) | simp)) fun p216 c216 Az w216 Hz m217 => ?_
    refine ⟨m217.to ⟨il, il, trivial⟩, ?_⟩
    refine goA hP154 [25] 1 33554431 67108863 Hz (m217.to ⟨il, il, trivial⟩) (.assign rfl .nil) fun Az Hz => ?_
    refine wpAnyE_done (by kernel_rfl) ?_ _
    show K3 _ _
    exact hC3 _ _ ⟨_, _, _, Hz.only [1, 4], m217.ren [(1, 1), (9, 38), (11, 30)] (by decide)⟩
   refine e_litN Hz m176 33 (k := .i64) rfl rfl U31 fct0 rfl rfl rfl rfl fun g220 Az w221 Hz m221 => ?_
   refine ⟨fun _ => (m221.to ⟨il, il, trivial⟩), ?_⟩
   refine so 16 ?_
   refine e_litN Hz m221 34 (k := .i64) rfl rfl U32 fct33 rfl rfl rfl rfl fun g222 Az w223 Hz m223 => ?_
   refine ⟨m223.to ⟨il, il, trivial⟩, ?_⟩
   have m224 := m223.freezeN 34 rfl
   refine so 17 ?_
   refine ecn Hz Tryz.func40 rfl m224 35 (pnuml_x [fr, to, fl] _ _ _ ((m224.rd (i := 34) rfl).any) (by simp) (b63 (by simp; omega))) fun p225 c225 Az w225 Hz m226 => ?_
   refine ⟨m226.to ⟨il, il, trivial⟩, ?_⟩
   have m228 := m226.freezeN 33 rfl
   refine so 22 ?_
   refine ecn Hz Tryz.func39 rfl m228 36 (pnums_x [(W.length : Int)] _ _ _ ((m228.rd (i := 33) rfl).any) (by simp) (b63 (by simp; omega))) fun p229 c229 Az w229 Hz m230 => ?_
   refine ⟨m230.to ⟨il, il, trivial⟩, ?_⟩
   have m233 := m230.freezeN 32 rfl
   have m234 := m233.freezeN 35 rfl
   have m235 := m234.freezeN 36 rfl
   refine so 23 ?_
   refine e_litR Hz m235 37 (mm := 1) rfl (.cons rfl rfl (.cons (m235.rd (i := 32) rfl) .nil) <| .cons rfl rfl (.cons (m235.rd (i := 35) rfl) .nil) <| .cons rfl rfl (.cons (m235.rd (i := 36) rfl) .nil) .nil) U59 fct36 rfl rfl rfl rfl rfl fun g232 Az w236 Hz m236 => ?_
   refine ⟨m236.to ⟨il, il, trivial⟩, ?_⟩
   have m237 := m236.freezeR 37 rfl
   refine so 24 ?_
   refine ecn Hz Tryz.func38 rfl m237 38 (pjoin_is (ls := [encs [vo, ch, cn, sz], encs [fr, to, fl], encs [(W.length : Int)]]) (S := hdB vo ch cn sz fr to fl W) ((m237.rd (i := 37) rfl).any) (by simp) (by simp [sumLen]; first | (have h1 := encs_len [vo, ch, cn, sz]; have h2 := encs_len [fr, to, fl]; have h3 := encs_len [(W.length : Int)]; simp at h1 h2 h3; omega) | (have h1 := encs_len [xs]; have h2 := encs_len [((xl.map itD).length : Int)]; simp at h1 h2; omega) | (have h1 := encs_len [xb]; have h2 := (enc_len (xd.length : Int)).1; simp at h1; omega)) (by first | (simp [hdB]; done) | (simp [itB]; done) | simp)) fun p238 c238 Az w238 Hz m239 => ?_
   refine ⟨m239.to ⟨il, il, trivial⟩, ?_⟩
   refine goA hP154 [25] 1 33554431 67108863 Hz (m239.to ⟨il, il, trivial⟩) (.assign rfl .nil) fun Az Hz => ?_
   refine wpAnyE_done (by kernel_rfl) ?_ _
   show K3 _ _
   exact hC3 _ _ ⟨_, _, _, Hz.only [1, 4], m239.ren [(1, 1), (9, 38), (11, 30)] (by decide)⟩
  ·
   refine e_litN Hz m173 32 (k := .i64) rfl rfl U32 fct33 rfl rfl rfl rfl fun g242 Az w243 Hz m243 => ?_
   refine ⟨fun _ => (m243.to ⟨il, il, trivial⟩), ?_⟩
   refine dtw 9 21 ?_ ?_
   ·
    have m244 := m243.freezeN 31 rfl
    refine ecn Hz Tryz.func39 rfl m244 33 (pnums_x [vo, ch, cn, sz] _ _ _ ((m244.rd (i := 31) rfl).any) (by simp) (b63 (by simp; omega))) fun p245 c245 Az w245 Hz m246 => ?_
    refine ⟨fun _ => (m246.to ⟨il, il, trivial⟩), ?_⟩
    refine dtw 17 21 ?_ ?_
    ·
     have m248 := m246.freezeN 32 rfl
     refine ecn Hz Tryz.func40 rfl m248 34 (pnuml_x [fr, to, fl] _ _ _ ((m248.rd (i := 32) rfl).any) (by simp) (b63 (by simp; omega))) fun p249 c249 Az w249 Hz m250 => ?_
     refine ⟨fun _ => (m250.to ⟨il, il, trivial⟩), ?_⟩
     refine so 21 ?_
     refine e_litN Hz m250 35 (k := .i64) rfl rfl U31 fct0 rfl rfl rfl rfl fun g252 Az w253 Hz m253 => ?_
     refine ⟨m253.to ⟨il, il, trivial⟩, ?_⟩
     have m254 := m253.freezeN 35 rfl
     refine so 22 ?_
     refine ecn Hz Tryz.func39 rfl m254 36 (pnums_x [(W.length : Int)] _ _ _ ((m254.rd (i := 35) rfl).any) (by simp) (b63 (by simp; omega))) fun p255 c255 Az w255 Hz m256 => ?_
     refine ⟨m256.to ⟨il, il, trivial⟩, ?_⟩
     have m259 := m256.freezeN 33 rfl
     have m260 := m259.freezeN 34 rfl
     have m261 := m260.freezeN 36 rfl
     refine so 23 ?_
     refine e_litR Hz m261 37 (mm := 1) rfl (.cons rfl rfl (.cons (m261.rd (i := 33) rfl) .nil) <| .cons rfl rfl (.cons (m261.rd (i := 34) rfl) .nil) <| .cons rfl rfl (.cons (m261.rd (i := 36) rfl) .nil) .nil) U59 fct36 rfl rfl rfl rfl rfl fun g258 Az w262 Hz m262 => ?_
     refine ⟨m262.to ⟨il, il, trivial⟩, ?_⟩
     have m263 := m262.freezeR 37 rfl
     refine so 24 ?_
     refine ecn Hz Tryz.func38 rfl m263 38 (pjoin_is (ls := [encs [vo, ch, cn, sz], encs [fr, to, fl], encs [(W.length : Int)]]) (S := hdB vo ch cn sz fr to fl W) ((m263.rd (i := 37) rfl).any) (by simp) (by simp [sumLen]; first | (have h1 := encs_len [vo, ch, cn, sz]; have h2 := encs_len [fr, to, fl]; have h3 := encs_len [(W.length : Int)]; simp at h1 h2 h3; omega) | (have h1 := encs_len [xs]; have h2 := encs_len [((xl.map itD).length : Int)]; simp at h1 h2; omega) | (have h1 := encs_len [xb]; have h2 := (enc_len (xd.length : Int)).1; simp at h1; omega)) (by first | (simp [hdB]; done) | (simp [itB]; done) | simp)) fun p264 c264 Az w264 Hz m265 => ?_
     refine ⟨m265.to ⟨il, il, trivial⟩, ?_⟩
     refine goA hP154 [25] 1 33554431 67108863 Hz (m265.to ⟨il, il, trivial⟩) (.assign rfl .nil) fun Az Hz => ?_
     refine wpAnyE_done (by kernel_rfl) ?_ _
     show K3 _ _
     exact hC3 _ _ ⟨_, _, _, Hz.only [1, 4], m265.ren [(1, 1), (9, 38), (11, 30)] (by decide)⟩
    refine e_litN Hz m246 34 (k := .i64) rfl rfl U31 fct0 rfl rfl rfl rfl fun g268 Az w269 Hz m269 => ?_
    refine ⟨fun _ => (m269.to ⟨il, il, trivial⟩), ?_⟩
    have m270 := m269.freezeN 32 rfl
    refine so 17 ?_
    refine ecn Hz Tryz.func40 rfl m270 35 (pnuml_x [fr, to, fl] _ _ _ ((m270.rd (i := 32) rfl).any) (by simp) (b63 (by simp; omega))) fun p271 c271 Az w271 Hz m272 => ?_
    refine ⟨m272.to ⟨il, il, trivial⟩, ?_⟩
    have m274 := m272.freezeN 34 rfl
    refine so 22 ?_
    refine ecn Hz Tryz.func39 rfl m274 36 (pnums_x [(W.length : Int)] _ _ _ ((m274.rd (i := 34) rfl).any) (by simp) (b63 (by simp; omega))) fun p275 c275 Az w275 Hz m276 => ?_
    refine ⟨m276.to ⟨il, il, trivial⟩, ?_⟩
    have m279 := m276.freezeN 33 rfl
    have m280 := m279.freezeN 35 rfl
    have m281 := m280.freezeN 36 rfl
    refine so 23 ?_
    refine e_litR Hz m281 37 (mm := 1) rfl (.cons rfl rfl (.cons (m281.rd (i := 33) rfl) .nil) <| .cons rfl rfl (.cons (m281.rd (i := 35) rfl) .nil) <| .cons rfl rfl (.cons (m281.rd (i := 36) rfl) .nil) .nil) U59 fct36 rfl rfl rfl rfl rfl fun g278 Az w282 Hz m282 => ?_
    refine ⟨m282.to ⟨il, il, trivial⟩, ?_⟩
    have m283 := m282.freezeR 37 rfl
    refine so 24 ?_
    refine ecn Hz Tryz.func38 rfl m283 38 (pjoin_is (ls := [encs [vo, ch, cn, sz], encs [fr, to, fl], encs [(W.length : Int)]]) (S := hdB vo ch cn sz fr to fl W) ((m283.rd (i := 37) rfl).any) (by simp) (by simp [sumLen]; first | (have h1 := encs_len [vo, ch, cn, sz]; have h2 := encs_len [fr, to, fl]; have h3 := encs_len [(W.length : Int)]; simp at h1 h2 h3; omega) | (have h1 := encs_len [xs]; have h2 := encs_len [((xl.map itD).length : Int)]; simp at h1 h2; omega) | (have h1 := encs_len [xb]; have h2 := (enc_len (xd.length : Int)).1; simp at h1; omega)) (by first | (simp [hdB]; done) | (simp [itB]; done) | simp)) fun p284 c284 Az w284 Hz m285 => ?_
    refine ⟨m285.to ⟨il, il, trivial⟩, ?_⟩
    refine goA hP154 [25] 1 33554431 67108863 Hz (m285.to ⟨il, il, trivial⟩) (.assign rfl .nil) fun Az Hz => ?_
    refine wpAnyE_done (by kernel_rfl) ?_ _
    show K3 _ _
    exact hC3 _ _ ⟨_, _, _, Hz.only [1, 4], m285.ren [(1, 1), (9, 38), (11, 30)] (by decide)⟩
   refine e_litN Hz m243 33 (k := .i64) rfl rfl U31 fct0 rfl rfl rfl rfl fun g288 Az w289 Hz m289 => ?_
   refine ⟨fun _ => (m289.to ⟨il, il, trivial⟩), ?_⟩
   have m290 := m289.freezeN 31 rfl
   refine so 9 ?_
   refine ecn Hz Tryz.func39 rfl m290 34 (pnums_x [vo, ch, cn, sz] _ _ _ ((m290.rd (i := 31) rfl).any) (by simp) (b63 (by simp; omega))) fun p291 c291 Az w291 Hz m292 => ?_
   refine ⟨m292.to ⟨il, il, trivial⟩, ?_⟩
   have m294 := m292.freezeN 32 rfl
   refine so 17 ?_
   refine ecn Hz Tryz.func40 rfl m294 35 (pnuml_x [fr, to, fl] _ _ _ ((m294.rd (i := 32) rfl).any) (by simp) (b63 (by simp; omega))) fun p295 c295 Az w295 Hz m296 => ?_
   refine ⟨m296.to ⟨il, il, trivial⟩, ?_⟩
   have m298 := m296.freezeN 33 rfl
   refine so 22 ?_
   refine ecn Hz Tryz.func39 rfl m298 36 (pnums_x [(W.length : Int)] _ _ _ ((m298.rd (i := 33) rfl).any) (by simp) (b63 (by simp; omega))) fun p299 c299 Az w299 Hz m300 => ?_
   refine ⟨m300.to ⟨il, il, trivial⟩, ?_⟩
   have m303 := m300.freezeN 34 rfl
   have m304 := m303.freezeN 35 rfl
   have m305 := m304.freezeN 36 rfl
   refine so 23 ?_
   refine e_litR Hz m305 37 (mm := 1) rfl (.cons rfl rfl (.cons (m305.rd (i := 34) rfl) .nil) <| .cons rfl rfl (.cons (m305.rd (i := 35) rfl) .nil) <| .cons rfl rfl (.cons (m305.rd (i := 36) rfl) .nil) .nil) U59 fct36 rfl rfl rfl rfl rfl fun g302 Az w306 Hz m306 => ?_
   refine ⟨m306.to ⟨il, il, trivial⟩, ?_⟩
   have m307 := m306.freezeR 37 rfl
   refine so 24 ?_
   refine ecn Hz Tryz.func38 rfl m307 38 (pjoin_is (ls := [encs [vo, ch, cn, sz], encs [fr, to, fl], encs [(W.length : Int)]]) (S := hdB vo ch cn sz fr to fl W) ((m307.rd (i := 37) rfl).any) (by simp) (by simp [sumLen]; first | (have h1 := encs_len [vo, ch, cn, sz]; have h2 := encs_len [fr, to, fl]; have h3 := encs_len [(W.length : Int)]; simp at h1 h2 h3; omega) | (have h1 := encs_len [xs]; have h2 := encs_len [((xl.map itD).length : Int)]; simp at h1 h2; omega) | (have h1 := encs_len [xb]; have h2 := (enc_len (xd.length : Int)).1; simp at h1; omega)) (by first | (simp [hdB]; done) | (simp [itB]; done) | simp)) fun p308 c308 Az w308 Hz m309 => ?_
   refine ⟨m309.to ⟨il, il, trivial⟩, ?_⟩
   refine goA hP154 [25] 1 33554431 67108863 Hz (m309.to ⟨il, il, trivial⟩) (.assign rfl .nil) fun Az Hz => ?_
   refine wpAnyE_done (by kernel_rfl) ?_ _
   show K3 _ _
   exact hC3 _ _ ⟨_, _, _, Hz.only [1, 4], m309.ren [(1, 1), (9, 38), (11, 30)] (by decide)⟩
  refine e_litN Hz m173 32 (k := .i64) rfl rfl U31 fct0 rfl rfl rfl rfl fun g312 Az w313 Hz m313 => ?_
  refine ⟨fun _ => (m313.to ⟨il, il, trivial⟩), ?_⟩
  refine dtw 9 16 ?_ ?_
  ·
   have m314 := m313.freezeN 31 rfl
   refine ecn Hz Tryz.func39 rfl m314 33 (pnums_x [vo, ch, cn, sz] _ _ _ ((m314.rd (i := 31) rfl).any) (by simp) (b63 (by simp; omega))) fun p315 c315 Az w315 Hz m316 => ?_
   refine ⟨fun _ => (m316.to ⟨il, il, trivial⟩), ?_⟩
   refine so 16 ?_
   refine e_litN Hz m316 34 (k := .i64) rfl rfl U32 fct33 rfl rfl rfl rfl fun g318 Az w319 Hz m319 => ?_
   refine ⟨m319.to ⟨il, il, trivial⟩, ?_⟩
   have m320 := m319.freezeN 34 rfl
   refine so 17 ?_
   refine ecn Hz Tryz.func40 rfl m320 35 (pnuml_x [fr, to, fl] _ _ _ ((m320.rd (i := 34) rfl).any) (by simp) (b63 (by simp; omega))) fun p321 c321 Az w321 Hz m322 => ?_
   refine ⟨m322.to ⟨il, il, trivial⟩, ?_⟩
   have m324 := m322.freezeN 32 rfl
   refine so 22 ?_
   refine ecn Hz Tryz.func39 rfl m324 36 (pnums_x [(W.length : Int)] _ _ _ ((m324.rd (i := 32) rfl).any) (by simp) (b63 (by simp; omega))) fun p325 c325 Az w325 Hz m326 => ?_
   refine ⟨m326.to ⟨il, il, trivial⟩, ?_⟩
   have m329 := m326.freezeN 33 rfl
   have m330 := m329.freezeN 35 rfl
   have m331 := m330.freezeN 36 rfl
   refine so 23 ?_
   refine e_litR Hz m331 37 (mm := 1) rfl (.cons rfl rfl (.cons (m331.rd (i := 33) rfl) .nil) <| .cons rfl rfl (.cons (m331.rd (i := 35) rfl) .nil) <| .cons rfl rfl (.cons (m331.rd (i := 36) rfl) .nil) .nil) U59 fct36 rfl rfl rfl rfl rfl fun g328 Az w332 Hz m332 => ?_
   refine ⟨m332.to ⟨il, il, trivial⟩, ?_⟩
   have m333 := m332.freezeR 37 rfl
   refine so 24 ?_
   refine ecn Hz Tryz.func38 rfl m333 38 (pjoin_is (ls := [encs [vo, ch, cn, sz], encs [fr, to, fl], encs [(W.length : Int)]]) (S := hdB vo ch cn sz fr to fl W) ((m333.rd (i := 37) rfl).any) (by simp) (by simp [sumLen]; first | (have h1 := encs_len [vo, ch, cn, sz]; have h2 := encs_len [fr, to, fl]; have h3 := encs_len [(W.length : Int)]; simp at h1 h2 h3; omega) | (have h1 := encs_len [xs]; have h2 := encs_len [((xl.map itD).length : Int)]; simp at h1 h2; omega) | (have h1 := encs_len [xb]; have h2 := (enc_len (xd.length : Int)).1; simp at h1; omega)) (by first | (simp [hdB]; done) | (simp [itB]; done) | simp)) fun p334 c334 Az w334 Hz m335 => ?_
   refine ⟨m335.to ⟨il, il, trivial⟩, ?_⟩
   refine goA hP154 [25] 1 33554431 67108863 Hz (m335.to ⟨il, il, trivial⟩) (.assign rfl .nil) fun Az Hz => ?_
   refine wpAnyE_done (by kernel_rfl) ?_ _
   show K3 _ _
   exact hC3 _ _ ⟨_, _, _, Hz.only [1, 4], m335.ren [(1, 1), (9, 38), (11, 30)] (by decide)⟩
  refine e_litN Hz m313 33 (k := .i64) rfl rfl U32 fct33 rfl rfl rfl rfl fun g338 Az w339 Hz m339 => ?_
  refine ⟨fun _ => (m339.to ⟨il, il, trivial⟩), ?_⟩
  have m340 := m339.freezeN 31 rfl
  refine so 9 ?_
  refine ecn Hz Tryz.func39 rfl m340 34 (pnums_x [vo, ch, cn, sz] _ _ _ ((m340.rd (i := 31) rfl).any) (by simp) (b63 (by simp; omega))) fun p341 c341 Az w341 Hz m342 => ?_
  refine ⟨m342.to ⟨il, il, trivial⟩, ?_⟩
  have m344 := m342.freezeN 33 rfl
  refine so 17 ?_
  refine ecn Hz Tryz.func40 rfl m344 35 (pnuml_x [fr, to, fl] _ _ _ ((m344.rd (i := 33) rfl).any) (by simp) (b63 (by simp; omega))) fun p345 c345 Az w345 Hz m346 => ?_
  refine ⟨m346.to ⟨il, il, trivial⟩, ?_⟩
  have m348 := m346.freezeN 32 rfl
  refine so 22 ?_
  refine ecn Hz Tryz.func39 rfl m348 36 (pnums_x [(W.length : Int)] _ _ _ ((m348.rd (i := 32) rfl).any) (by simp) (b63 (by simp; omega))) fun p349 c349 Az w349 Hz m350 => ?_
  refine ⟨m350.to ⟨il, il, trivial⟩, ?_⟩
  have m353 := m350.freezeN 34 rfl
  have m354 := m353.freezeN 35 rfl
  have m355 := m354.freezeN 36 rfl
  refine so 23 ?_
  refine e_litR Hz m355 37 (mm := 1) rfl (.cons rfl rfl (.cons (m355.rd (i := 34) rfl) .nil) <| .cons rfl rfl (.cons (m355.rd (i := 35) rfl) .nil) <| .cons rfl rfl (.cons (m355.rd (i := 36) rfl) .nil) .nil) U59 fct36 rfl rfl rfl rfl rfl fun g352 Az w356 Hz m356 => ?_
  refine ⟨m356.to ⟨il, il, trivial⟩, ?_⟩
  have m357 := m356.freezeR 37 rfl
  refine so 24 ?_
  refine ecn Hz Tryz.func38 rfl m357 38 (pjoin_is (ls := [encs [vo, ch, cn, sz], encs [fr, to, fl], encs [(W.length : Int)]]) (S := hdB vo ch cn sz fr to fl W) ((m357.rd (i := 37) rfl).any) (by simp) (by simp [sumLen]; first | (have h1 := encs_len [vo, ch, cn, sz]; have h2 := encs_len [fr, to, fl]; have h3 := encs_len [(W.length : Int)]; simp at h1 h2 h3; omega) | (have h1 := encs_len [xs]; have h2 := encs_len [((xl.map itD).length : Int)]; simp at h1 h2; omega) | (have h1 := encs_len [xb]; have h2 := (enc_len (xd.length : Int)).1; simp at h1; omega)) (by first | (simp [hdB]; done) | (simp [itB]; done) | simp)) fun p358 c358 Az w358 Hz m359 => ?_
  refine ⟨m359.to ⟨il, il, trivial⟩, ?_⟩
  refine goA hP154 [25] 1 33554431 67108863 Hz (m359.to ⟨il, il, trivial⟩) (.assign rfl .nil) fun Az Hz => ?_
  refine wpAnyE_done (by kernel_rfl) ?_ _
  show K3 _ _
  exact hC3 _ _ ⟨_, _, _, Hz.only [1, 4], m359.ren [(1, 1), (9, 38), (11, 30)] (by decide)⟩
 ·
  refine e_litN Hz m154 31 (k := .i64) rfl rfl U32 fct33 rfl rfl rfl rfl fun g362 Az w363 Hz m363 => ?_
  refine ⟨fun _ => (m363.to ⟨il, il, trivial⟩), ?_⟩
  refine dtw 8 21 ?_ ?_
  ·
   refine e_litN Hz m363 32 (k := .i64) rfl rfl U31 fct0 rfl rfl rfl rfl fun g364 Az w365 Hz m365 => ?_
   refine ⟨fun _ => (m365.to ⟨il, il, trivial⟩), ?_⟩
   refine dtw 9 21 ?_ ?_
   ·
    have m366 := m365.freezeN 32 rfl
    refine ecn Hz Tryz.func39 rfl m366 33 (pnums_x [vo, ch, cn, sz] _ _ _ ((m366.rd (i := 32) rfl).any) (by simp) (b63 (by simp; omega))) fun p367 c367 Az w367 Hz m368 => ?_
    refine ⟨fun _ => (m368.to ⟨il, il, trivial⟩), ?_⟩
    refine dtw 17 21 ?_ ?_
    ·
     have m370 := m368.freezeN 31 rfl
     refine ecn Hz Tryz.func40 rfl m370 34 (pnuml_x [fr, to, fl] _ _ _ ((m370.rd (i := 31) rfl).any) (by simp) (b63 (by simp; omega))) fun p371 c371 Az w371 Hz m372 => ?_
     refine ⟨fun _ => (m372.to ⟨il, il, trivial⟩), ?_⟩
     refine so 21 ?_
     refine e_litN Hz m372 35 (k := .i64) rfl rfl U31 fct0 rfl rfl rfl rfl fun g374 Az w375 Hz m375 => ?_
     refine ⟨m375.to ⟨il, il, trivial⟩, ?_⟩
     have m376 := m375.freezeN 35 rfl
     refine so 22 ?_
     refine ecn Hz Tryz.func39 rfl m376 36 (pnums_x [(W.length : Int)] _ _ _ ((m376.rd (i := 35) rfl).any) (by simp) (b63 (by simp; omega))) fun p377 c377 Az w377 Hz m378 => ?_
     refine ⟨m378.to ⟨il, il, trivial⟩, ?_⟩
     have m381 := m378.freezeN 33 rfl
     have m382 := m381.freezeN 34 rfl
     have m383 := m382.freezeN 36 rfl
     refine so 23 ?_
     refine e_litR Hz m383 37 (mm := 1) rfl (.cons rfl rfl (.cons (m383.rd (i := 33) rfl) .nil) <| .cons rfl rfl (.cons (m383.rd (i := 34) rfl) .nil) <| .cons rfl rfl (.cons (m383.rd (i := 36) rfl) .nil) .nil) U59 fct36 rfl rfl rfl rfl rfl fun g380 Az w384 Hz m384 => ?_
     refine ⟨m384.to ⟨il, il, trivial⟩, ?_⟩
     have m385 := m384.freezeR 37 rfl
     refine so 24 ?_
     refine ecn Hz Tryz.func38 rfl m385 38 (pjoin_is (ls := [encs [vo, ch, cn, sz], encs [fr, to, fl], encs [(W.length : Int)]]) (S := hdB vo ch cn sz fr to fl W) ((m385.rd (i := 37) rfl).any) (by simp) (by simp [sumLen]; first | (have h1 := encs_len [vo, ch, cn, sz]; have h2 := encs_len [fr, to, fl]; have h3 := encs_len [(W.length : Int)]; simp at h1 h2 h3; omega) | (have h1 := encs_len [xs]; have h2 := encs_len [((xl.map itD).length : Int)]; simp at h1 h2; omega) | (have h1 := encs_len [xb]; have h2 := (enc_len (xd.length : Int)).1; simp at h1; omega)) (by first | (simp [hdB]; done) | (simp [itB]; done) | simp)) fun p386 c386 Az w386 Hz m387 => ?_
     refine ⟨m387.to ⟨il, il, trivial⟩, ?_⟩
     refine goA hP154 [25] 1 33554431 67108863 Hz (m387.to ⟨il, il, trivial⟩) (.assign rfl .nil) fun Az Hz => ?_
     refine wpAnyE_done (by kernel_rfl) ?_ _
     show K3 _ _
     exact hC3 _ _ ⟨_, _, _, Hz.only [1, 4], m387.ren [(1, 1), (9, 38), (11, 30)] (by decide)⟩
    refine e_litN Hz m368 34 (k := .i64) rfl rfl U31 fct0 rfl rfl rfl rfl fun g390 Az w391 Hz m391 => ?_
    refine ⟨fun _ => (m391.to ⟨il, il, trivial⟩), ?_⟩
    have m392 := m391.freezeN 31 rfl
    refine so 17 ?_
    refine ecn Hz Tryz.func40 rfl m392 35 (pnuml_x [fr, to, fl] _ _ _ ((m392.rd (i := 31) rfl).any) (by simp) (b63 (by simp; omega))) fun p393 c393 Az w393 Hz m394 => ?_
    refine ⟨m394.to ⟨il, il, trivial⟩, ?_⟩
    have m396 := m394.freezeN 34 rfl
    refine so 22 ?_
    refine ecn Hz Tryz.func39 rfl m396 36 (pnums_x [(W.length : Int)] _ _ _ ((m396.rd (i := 34) rfl).any) (by simp) (b63 (by simp; omega))) fun p397 c397 Az w397 Hz m398 => ?_
    refine ⟨m398.to ⟨il, il, trivial⟩, ?_⟩
    have m401 := m398.freezeN 33 rfl
    have m402 := m401.freezeN 35 rfl
    have m403 := m402.freezeN 36 rfl
    refine so 23 ?_
    refine e_litR Hz m403 37 (mm := 1) rfl (.cons rfl rfl (.cons (m403.rd (i := 33) rfl) .nil) <| .cons rfl rfl (.cons (m403.rd (i := 35) rfl) .nil) <| .cons rfl rfl (.cons (m403.rd (i := 36) rfl) .nil) .nil) U59 fct36 rfl rfl rfl rfl rfl fun g400 Az w404 Hz m404 => ?_
    refine ⟨m404.to ⟨il, il, trivial⟩, ?_⟩
    have m405 := m404.freezeR 37 rfl
    refine so 24 ?_
    refine ecn Hz Tryz.func38 rfl m405 38 (pjoin_is (ls := [encs [vo, ch, cn, sz], encs [fr, to, fl], encs [(W.length : Int)]]) (S := hdB vo ch cn sz fr to fl W) ((m405.rd (i := 37) rfl).any) (by simp) (by simp [sumLen]; first | (have h1 := encs_len [vo, ch, cn, sz]; have h2 := encs_len [fr, to, fl]; have h3 := encs_len [(W.length : Int)]; simp at h1 h2 h3; omega) | (have h1 := encs_len [xs]; have h2 := encs_len [((xl.map itD).length : Int)]; simp at h1 h2; omega) | (have h1 := encs_len [xb]; have h2 := (enc_len (xd.length : Int)).1; simp at h1; omega)) (by first | (simp [hdB]; done) | (simp [itB]; done) | simp)) fun p406 c406 Az w406 Hz m407 => ?_
    refine ⟨m407.to ⟨il, il, trivial⟩, ?_⟩
    refine goA hP154 [25] 1 33554431 67108863 Hz (m407.to ⟨il, il, trivial⟩) (.assign rfl .nil) fun Az Hz => ?_
    refine wpAnyE_done (by kernel_rfl) ?_ _
    show K3 _ _
    exact hC3 _ _ ⟨_, _, _, Hz.only [1, 4], m407.ren [(1, 1), (9, 38), (11, 30)] (by decide)⟩
   refine e_litN Hz m365 33 (k := .i64) rfl rfl U31 fct0 rfl rfl rfl rfl fun g410 Az w411 Hz m411 => ?_
   refine ⟨fun _ => (m411.to ⟨il, il, trivial⟩), ?_⟩
   have m412 := m411.freezeN 32 rfl
   refine so 9 ?_
   refine ecn Hz Tryz.func39 rfl m412 34 (pnums_x [vo, ch, cn, sz] _ _ _ ((m412.rd (i := 32) rfl).any) (by simp) (b63 (by simp; omega))) fun p413 c413 Az w413 Hz m414 => ?_
   refine ⟨m414.to ⟨il, il, trivial⟩, ?_⟩
   have m416 := m414.freezeN 31 rfl
   refine so 17 ?_
   refine ecn Hz Tryz.func40 rfl m416 35 (pnuml_x [fr, to, fl] _ _ _ ((m416.rd (i := 31) rfl).any) (by simp) (b63 (by simp; omega))) fun p417 c417 Az w417 Hz m418 => ?_
   refine ⟨m418.to ⟨il, il, trivial⟩, ?_⟩
   have m420 := m418.freezeN 33 rfl
   refine so 22 ?_
   refine ecn Hz Tryz.func39 rfl m420 36 (pnums_x [(W.length : Int)] _ _ _ ((m420.rd (i := 33) rfl).any) (by simp) (b63 (by simp; omega))) fun p421 c421 Az w421 Hz m422 => ?_
   refine ⟨m422.to ⟨il, il, trivial⟩, ?_⟩
   have m425 := m422.freezeN 34 rfl
   have m426 := m425.freezeN 35 rfl
   have m427 := m426.freezeN 36 rfl
   refine so 23 ?_
   refine e_litR Hz m427 37 (mm := 1) rfl (.cons rfl rfl (.cons (m427.rd (i := 34) rfl) .nil) <| .cons rfl rfl (.cons (m427.rd (i := 35) rfl) .nil) <| .cons rfl rfl (.cons (m427.rd (i := 36) rfl) .nil) .nil) U59 fct36 rfl rfl rfl rfl rfl fun g424 Az w428 Hz m428 => ?_
   refine ⟨m428.to ⟨il, il, trivial⟩, ?_⟩
   have m429 := m428.freezeR 37 rfl
   refine so 24 ?_
   refine ecn Hz Tryz.func38 rfl m429 38 (pjoin_is (ls := [encs [vo, ch, cn, sz], encs [fr, to, fl], encs [(W.length : Int)]]) (S := hdB vo ch cn sz fr to fl W) ((m429.rd (i := 37) rfl).any) (by simp) (by simp [sumLen]; first | (have h1 := encs_len [vo, ch, cn, sz]; have h2 := encs_len [fr, to, fl]; have h3 := encs_len [(W.length : Int)]; simp at h1 h2 h3; omega) | (have h1 := encs_len [xs]; have h2 := encs_len [((xl.map itD).length : Int)]; simp at h1 h2; omega) | (have h1 := encs_len [xb]; have h2 := (enc_len (xd.length : Int)).1; simp at h1; omega)) (by first | (simp [hdB]; done) | (simp [itB]; done) | simp)) fun p430 c430 Az w430 Hz m431 => ?_
   refine ⟨m431.to ⟨il, il, trivial⟩, ?_⟩
   refine goA hP154 [25] 1 33554431 67108863 Hz (m431.to ⟨il, il, trivial⟩) (.assign rfl .nil) fun Az Hz => ?_
   refine wpAnyE_done (by kernel_rfl) ?_ _
   show K3 _ _
   exact hC3 _ _ ⟨_, _, _, Hz.only [1, 4], m431.ren [(1, 1), (9, 38), (11, 30)] (by decide)⟩
  refine e_litN Hz m363 32 (k := .i64) rfl rfl U31 fct0 rfl rfl rfl rfl fun g434 Az w435 Hz m435 => ?_
  refine ⟨fun _ => (m435.to ⟨il, il, trivial⟩), ?_⟩
  refine so 8 ?_
  refine e_litN Hz m435 33 (k := .i64) rfl rfl U31 fct0 rfl rfl rfl rfl fun g436 Az w437 Hz m437 => ?_
  refine ⟨m437.to ⟨il, il, trivial⟩, ?_⟩
  have m438 := m437.freezeN 33 rfl
  refine so 9 ?_
  refine ecn Hz Tryz.func39 rfl m438 34 (pnums_x [vo, ch, cn, sz] _ _ _ ((m438.rd (i := 33) rfl).any) (by simp) (b63 (by simp; omega))) fun p439 c439 Az w439 Hz m440 => ?_
  refine ⟨m440.to ⟨il, il, trivial⟩, ?_⟩
  have m442 := m440.freezeN 31 rfl
  refine so 17 ?_
  refine ecn Hz Tryz.func40 rfl m442 35 (pnuml_x [fr, to, fl] _ _ _ ((m442.rd (i := 31) rfl).any) (by simp) (b63 (by simp; omega))) fun p443 c443 Az w443 Hz m444 => ?_
  refine ⟨m444.to ⟨il, il, trivial⟩, ?_⟩
  have m446 := m444.freezeN 32 rfl
  refine so 22 ?_
  refine ecn Hz Tryz.func39 rfl m446 36 (pnums_x [(W.length : Int)] _ _ _ ((m446.rd (i := 32) rfl).any) (by simp) (b63 (by simp; omega))) fun p447 c447 Az w447 Hz m448 => ?_
  refine ⟨m448.to ⟨il, il, trivial⟩, ?_⟩
  have m451 := m448.freezeN 34 rfl
  have m452 := m451.freezeN 35 rfl
  have m453 := m452.freezeN 36 rfl
  refine so 23 ?_
  refine e_litR Hz m453 37 (mm := 1) rfl (.cons rfl rfl (.cons (m453.rd (i := 34) rfl) .nil) <| .cons rfl rfl (.cons (m453.rd (i := 35) rfl) .nil) <| .cons rfl rfl (.cons (m453.rd (i := 36) rfl) .nil) .nil) U59 fct36 rfl rfl rfl rfl rfl fun g450 Az w454 Hz m454 => ?_
  refine ⟨m454.to ⟨il, il, trivial⟩, ?_⟩
  have m455 := m454.freezeR 37 rfl
  refine so 24 ?_
  refine ecn Hz Tryz.func38 rfl m455 38 (pjoin_is (ls := [encs [vo, ch, cn, sz], encs [fr, to, fl], encs [(W.length : Int)]]) (S := hdB vo ch cn sz fr to fl W) ((m455.rd (i := 37) rfl).any) (by simp) (by simp [sumLen]; first | (have h1 := encs_len [vo, ch, cn, sz]; have h2 := encs_len [fr, to, fl]; have h3 := encs_len [(W.length : Int)]; simp at h1 h2 h3; omega) | (have h1 := encs_len [xs]; have h2 := encs_len [((xl.map itD).length : Int)]; simp at h1 h2; omega) | (have h1 := encs_len [xb]; have h2 := (enc_len (xd.length : Int)).1; simp at h1; omega)) (by first | (simp [hdB]; done) | (simp [itB]; done) | simp)) fun p456 c456 Az w456 Hz m457 => ?_
  refine ⟨m457.to ⟨il, il, trivial⟩, ?_⟩
  refine goA hP154 [25] 1 33554431 67108863 Hz (m457.to ⟨il, il, trivial⟩) (.assign rfl .nil) fun Az Hz => ?_
  refine wpAnyE_done (by kernel_rfl) ?_ _
  show K3 _ _
  exact hC3 _ _ ⟨_, _, _, Hz.only [1, 4], m457.ren [(1, 1), (9, 38), (11, 30)] (by decide)⟩
 refine e_litN Hz m154 31 (k := .i64) rfl rfl U31 fct0 rfl rfl rfl rfl fun g460 Az w461 Hz m461 => ?_
 refine ⟨fun _ => (m461.to ⟨il, il, trivial⟩), ?_⟩
 refine dtw 8 16 ?_ ?_
 ·
  refine e_litN Hz m461 32 (k := .i64) rfl rfl U31 fct0 rfl rfl rfl rfl fun g462 Az w463 Hz m463 => ?_
  refine ⟨fun _ => (m463.to ⟨il, il, trivial⟩), ?_⟩
  refine dtw 9 16 ?_ ?_
  ·
   have m464 := m463.freezeN 32 rfl
   refine ecn Hz Tryz.func39 rfl m464 33 (pnums_x [vo, ch, cn, sz] _ _ _ ((m464.rd (i := 32) rfl).any) (by simp) (b63 (by simp; omega))) fun p465 c465 Az w465 Hz m466 => ?_
   refine ⟨fun _ => (m466.to ⟨il, il, trivial⟩), ?_⟩
   refine so 16 ?_
   refine e_litN Hz m466 34 (k := .i64) rfl rfl U32 fct33 rfl rfl rfl rfl fun g468 Az w469 Hz m469 => ?_
   refine ⟨m469.to ⟨il, il, trivial⟩, ?_⟩
   have m470 := m469.freezeN 34 rfl
   refine so 17 ?_
   refine ecn Hz Tryz.func40 rfl m470 35 (pnuml_x [fr, to, fl] _ _ _ ((m470.rd (i := 34) rfl).any) (by simp) (b63 (by simp; omega))) fun p471 c471 Az w471 Hz m472 => ?_
   refine ⟨m472.to ⟨il, il, trivial⟩, ?_⟩
   have m474 := m472.freezeN 31 rfl
   refine so 22 ?_
   refine ecn Hz Tryz.func39 rfl m474 36 (pnums_x [(W.length : Int)] _ _ _ ((m474.rd (i := 31) rfl).any) (by simp) (b63 (by simp; omega))) fun p475 c475 Az w475 Hz m476 => ?_
   refine ⟨m476.to ⟨il, il, trivial⟩, ?_⟩
   have m479 := m476.freezeN 33 rfl
   have m480 := m479.freezeN 35 rfl
   have m481 := m480.freezeN 36 rfl
   refine so 23 ?_
   refine e_litR Hz m481 37 (mm := 1) rfl (.cons rfl rfl (.cons (m481.rd (i := 33) rfl) .nil) <| .cons rfl rfl (.cons (m481.rd (i := 35) rfl) .nil) <| .cons rfl rfl (.cons (m481.rd (i := 36) rfl) .nil) .nil) U59 fct36 rfl rfl rfl rfl rfl fun g478 Az w482 Hz m482 => ?_
   refine ⟨m482.to ⟨il, il, trivial⟩, ?_⟩
   have m483 := m482.freezeR 37 rfl
   refine so 24 ?_
   refine ecn Hz Tryz.func38 rfl m483 38 (pjoin_is (ls := [encs [vo, ch, cn, sz], encs [fr, to, fl], encs [(W.length : Int)]]) (S := hdB vo ch cn sz fr to fl W) ((m483.rd (i := 37) rfl).any) (by simp) (by simp [sumLen]; first | (have h1 := encs_len [vo, ch, cn, sz]; have h2 := encs_len [fr, to, fl]; have h3 := encs_len [(W.length : Int)]; simp at h1 h2 h3; omega) | (have h1 := encs_len [xs]; have h2 := encs_len [((xl.map itD).length : Int)]; simp at h1 h2; omega) | (have h1 := encs_len [xb]; have h2 := (enc_len (xd.length : Int)).1; simp at h1; omega)) (by first | (simp [hdB]; done) | (simp [itB]; done) | simp)) fun p484 c484 Az w484 Hz m485 => ?_
   refine ⟨m485.to ⟨il, il, trivial⟩, ?_⟩
   refine goA hP154 [25] 1 33554431 67108863 Hz (m485.to ⟨il, il, trivial⟩) (.assign rfl .nil) fun Az Hz => ?_
   refine wpAnyE_done (by kernel_rfl) ?_ _
   show K3 _ _
   exact hC3 _ _ ⟨_, _, _, Hz.only [1, 4], m485.ren [(1, 1), (9, 38), (11, 30)] (by decide)⟩
  refine e_litN Hz m463 33 (k := .i64) rfl rfl U32 fct33 rfl rfl rfl rfl fun g488 Az w489 Hz m489 => ?_
  refine ⟨fun _ => (m489.to ⟨il, il, trivial⟩), ?_⟩
  have m490 := m489.freezeN 32 rfl
  refine so 9 ?_
  refine ecn Hz Tryz.func39 rfl m490 34 (pnums_x [vo, ch, cn, sz] _ _ _ ((m490.rd (i := 32) rfl).any) (by simp) (b63 (by simp; omega))) fun p491 c491 Az w491 Hz m492 => ?_
  refine ⟨m492.to ⟨il, il, trivial⟩, ?_⟩
  have m494 := m492.freezeN 33 rfl
  refine so 17 ?_
  refine ecn Hz Tryz.func40 rfl m494 35 (pnuml_x [fr, to, fl] _ _ _ ((m494.rd (i := 33) rfl).any) (by simp) (b63 (by simp; omega))) fun p495 c495 Az w495 Hz m496 => ?_
  refine ⟨m496.to ⟨il, il, trivial⟩, ?_⟩
  have m498 := m496.freezeN 31 rfl
  refine so 22 ?_
  refine ecn Hz Tryz.func39 rfl m498 36 (pnums_x [(W.length : Int)] _ _ _ ((m498.rd (i := 31) rfl).any) (by simp) (b63 (by simp; omega))) fun p499 c499 Az w499 Hz m500 => ?_
  refine ⟨m500.to ⟨il, il, trivial⟩, ?_⟩
  have m503 := m500.freezeN 34 rfl
  have m504 := m503.freezeN 35 rfl
  have m505 := m504.freezeN 36 rfl
  refine so 23 ?_
  refine e_litR Hz m505 37 (mm := 1) rfl (.cons rfl rfl (.cons (m505.rd (i := 34) rfl) .nil) <| .cons rfl rfl (.cons (m505.rd (i := 35) rfl) .nil) <| .cons rfl rfl (.cons (m505.rd (i := 36) rfl) .nil) .nil) U59 fct36 rfl rfl rfl rfl rfl fun g502 Az w506 Hz m506 => ?_
  refine ⟨m506.to ⟨il, il, trivial⟩, ?_⟩
  have m507 := m506.freezeR 37 rfl
  refine so 24 ?_
  refine ecn Hz Tryz.func38 rfl m507 38 (pjoin_is (ls := [encs [vo, ch, cn, sz], encs [fr, to, fl], encs [(W.length : Int)]]) (S := hdB vo ch cn sz fr to fl W) ((m507.rd (i := 37) rfl).any) (by simp) (by simp [sumLen]; first | (have h1 := encs_len [vo, ch, cn, sz]; have h2 := encs_len [fr, to, fl]; have h3 := encs_len [(W.length : Int)]; simp at h1 h2 h3; omega) | (have h1 := encs_len [xs]; have h2 := encs_len [((xl.map itD).length : Int)]; simp at h1 h2; omega) | (have h1 := encs_len [xb]; have h2 := (enc_len (xd.length : Int)).1; simp at h1; omega)) (by first | (simp [hdB]; done) | (simp [itB]; done) | simp)) fun p508 c508 Az w508 Hz m509 => ?_
  refine ⟨m509.to ⟨il, il, trivial⟩, ?_⟩
  refine goA hP154 [25] 1 33554431 67108863 Hz (m509.to ⟨il, il, trivial⟩) (.assign rfl .nil) fun Az Hz => ?_
  refine wpAnyE_done (by kernel_rfl) ?_ _
  show K3 _ _
  exact hC3 _ _ ⟨_, _, _, Hz.only [1, 4], m509.ren [(1, 1), (9, 38), (11, 30)] (by decide)⟩
 refine e_litN Hz m461 32 (k := .i64) rfl rfl U32 fct33 rfl rfl rfl rfl fun g512 Az w513 Hz m513 => ?_
 refine ⟨fun _ => (m513.to ⟨il, il, trivial⟩), ?_⟩
 refine so 8 ?_
 refine e_litN Hz m513 33 (k := .i64) rfl rfl U31 fct0 rfl rfl rfl rfl fun g514 Az w515 Hz m515 => ?_
 refine ⟨m515.to ⟨il, il, trivial⟩, ?_⟩
 have m516 := m515.freezeN 33 rfl
 refine so 9 ?_
 refine ecn Hz Tryz.func39 rfl m516 34 (pnums_x [vo, ch, cn, sz] _ _ _ ((m516.rd (i := 33) rfl).any) (by simp) (b63 (by simp; omega))) fun p517 c517 Az w517 Hz m518 => ?_
 refine ⟨m518.to ⟨il, il, trivial⟩, ?_⟩
 have m520 := m518.freezeN 32 rfl
 refine so 17 ?_
 refine ecn Hz Tryz.func40 rfl m520 35 (pnuml_x [fr, to, fl] _ _ _ ((m520.rd (i := 32) rfl).any) (by simp) (b63 (by simp; omega))) fun p521 c521 Az w521 Hz m522 => ?_
 refine ⟨m522.to ⟨il, il, trivial⟩, ?_⟩
 have m524 := m522.freezeN 31 rfl
 refine so 22 ?_
 refine ecn Hz Tryz.func39 rfl m524 36 (pnums_x [(W.length : Int)] _ _ _ ((m524.rd (i := 31) rfl).any) (by simp) (b63 (by simp; omega))) fun p525 c525 Az w525 Hz m526 => ?_
 refine ⟨m526.to ⟨il, il, trivial⟩, ?_⟩
 have m529 := m526.freezeN 34 rfl
 have m530 := m529.freezeN 35 rfl
 have m531 := m530.freezeN 36 rfl
 refine so 23 ?_
 refine e_litR Hz m531 37 (mm := 1) rfl (.cons rfl rfl (.cons (m531.rd (i := 34) rfl) .nil) <| .cons rfl rfl (.cons (m531.rd (i := 35) rfl) .nil) <| .cons rfl rfl (.cons (m531.rd (i := 36) rfl) .nil) .nil) U59 fct36 rfl rfl rfl rfl rfl fun g528 Az w532 Hz m532 => ?_
 refine ⟨m532.to ⟨il, il, trivial⟩, ?_⟩
 have m533 := m532.freezeR 37 rfl
 refine so 24 ?_
 refine ecn Hz Tryz.func38 rfl m533 38 (pjoin_is (ls := [encs [vo, ch, cn, sz], encs [fr, to, fl], encs [(W.length : Int)]]) (S := hdB vo ch cn sz fr to fl W) ((m533.rd (i := 37) rfl).any) (by simp) (by simp [sumLen]; first | (have h1 := encs_len [vo, ch, cn, sz]; have h2 := encs_len [fr, to, fl]; have h3 := encs_len [(W.length : Int)]; simp at h1 h2 h3; omega) | (have h1 := encs_len [xs]; have h2 := encs_len [((xl.map itD).length : Int)]; simp at h1 h2; omega) | (have h1 := encs_len [xb]; have h2 := (enc_len (xd.length : Int)).1; simp at h1; omega)) (by first | (simp [hdB]; done) | (simp [itB]; done) | simp)) fun p534 c534 Az w534 Hz m535 => ?_
 refine ⟨m535.to ⟨il, il, trivial⟩, ?_⟩
 refine goA hP154 [25] 1 33554431 67108863 Hz (m535.to ⟨il, il, trivial⟩) (.assign rfl .nil) fun Az Hz => ?_
 refine wpAnyE_done (by kernel_rfl) ?_ _
 show K3 _ _
 exact hC3 _ _ ⟨_, _, _, Hz.only [1, 4], m535.ren [(1, 1), (9, 38), (11, 30)] (by decide)⟩
end Go.Proofs.YteglmahnkfgelaaGreat.K
