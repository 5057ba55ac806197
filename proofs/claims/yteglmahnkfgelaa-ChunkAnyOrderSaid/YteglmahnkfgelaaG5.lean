/- General laws of walks: Vol39, Pack1, Pack2, Pack3, Pack4, Pack5, RegionB, PackG, Gen, Gen2, Codec, VX1, VX2, Str1, Str2, Ab24, Str4m, Str5y, Str5, Str6. -/
import Derived.Test.YteglmahnkfgelaaG4
import Derived.Test.YteglmahnkfgelaaG1
import Derived.Laws.Bits64
import Derived.RegionTactic
import Derived.ChangeAlike
import Derived.Lib.SlBytesConst
import Derived.Deep.Matrix
import Derived.Test.YteglmahnkfgelaaG3
import Derived.Test.YteglmahnkfgelaaG2
section
namespace Go.Proofs.Yteglmahnkfgelaa.K
open Go.ChangeShapes Go.WideShapes Go.ChangeAt Go.RowKit
set_option linter.unusedVariables false
set_option linter.unusedSimpArgs false
theorem fl31rpu : flatS Try.prog 31 [.int .i64 0, .int .i64 0, .int .i64 0, .int .i64 0, .int .i64 0, .int .i64 0, .int .i64 0, .slice none 0 0] = true := by kernel_rfl
theorem fl50rpu : flatS Try.prog 50 [.int .i64 0, .slice none 0 0] = true := by kernel_rfl
theorem fl53rpu : flatS Try.prog 53 [.int .i64 0, .slice none 0 0] = true := by kernel_rfl
set_option maxRecDepth 100000
set_option maxHeartbeats 4000000
theorem rlen_m (vo bl sz pe to ne fl : Int) (hi : Bool) (pp pn pw : Option Addr) (np cp nn9 cn9 : Nat) (ws : List PWr) (cw : Nat) (w0 : World) :
   Calls Try.prog 9 #[.agg #[.int .i64 vo, .int .i64 bl, .int .i64 sz, .int .i64 pe, .slice pp np cp, .int .i64 to, .int .i64 ne, .bool hi, .int .i64 fl, .slice pn nn9 cn9, .slice pw (ws.map wrD).length cw]] w0 fun e w' => e = .returned (.int .i64 (ws.length : Int)) ∧ Below w0.heap.size w0 w' := by
 have h := rlen_any vo bl sz pe to ne fl hi pp pn pw np cp nn9 cn9 (ws.map wrD).length cw w0
 rw [List.length_map] at h
 rw [List.length_map]
 exact h
theorem rcount_yes (vo bl sz pe to ne fl : Int) (hi : Bool) (pp pn pw : Option Addr) (cp : Nat) (place : List Int) (nn9 cn9 nw cw : Nat) (ch fi cnt : Int) (w0 : World) (hch : 0 ≤ ch ∧ ch < place.length) (hpe : 1 ≤ pe) (hfi : ch * pe = fi) (hfb : 0 ≤ fi ∧ fi ≤ 1000000) (hblb : 0 ≤ bl ∧ bl ≤ 1000000) (hcnt : min pe (bl - fi) = cnt) :
   Calls Try.prog 27 #[.agg #[.int .i64 vo, .int .i64 bl, .int .i64 sz, .int .i64 pe, .slice pp place.length cp, .int .i64 to, .int .i64 ne, .bool hi, .int .i64 fl, .slice pn nn9 cn9, .slice pw nw cw], .int .i64 ch] w0 fun e w' => e = .returned (.int .i64 cnt) ∧ Below w0.heap.size w0 w' := by
 refine ent2 Try.func27 rfl Try.ntmps27 fun Az Hz => ?_
 have m0 := MemOk.start (fun _ => False) w0
 refine zsr fun K0 hK0 => ?_
 refine plz (e_box Hz m0 20 (cs := [_, _, _, _, _, _, _, _, _, _, _]) rfl rfl rfl fun g1 Az w2 Hz m2 _ _ => ?_)
 refine gz hK0 Hz (.assign rfl .nil) fun Az Hz => ?_
 refine wsk fun K1 hK1 => ?_
 refine zsr fun K2 hK2 => ?_
 refine goCh Hz (.move rfl <| .lss rfl rfl <| .move rfl .nil) fun Az Hz => ?_
 refine bc Hz 7 ?_ ?_
 · intro hb _; exact absurd hb (by simp; omega)
 clear Hz; intro _ Hz
 refine goCh Hz (.moveZ rfl <| .faZ 4 rfl U28 <| .loadB1Z m2 (i := 20) rfl rfl rfl U24 rfl <| .lenZ rfl U24 <| .geqZ rfl rfl <| .pickF rfl rfl <| .move rfl .nil) fun Az Hz => ?_
 refine bc Hz 14 ?_ ?_
 · intro hb _; exact absurd hb (by simp; omega)
 clear Hz; intro _ Hz
 refine gz hK2 Hz (.faZ 3 rfl U28 <| .loadB1Z m2 (i := 20) rfl rfl rfl U3 rfl <| .lssZ rfl rfl <| .pickF rfl rfl <| .nil) fun Az Hz => ?_
 refine bc Hz 18 ?_ ?_
 · intro hb _; exact absurd hb (by simp; omega)
 clear Hz; intro _ Hz
 refine wcf Hz ?_
 refine zss (hK1 _ _ ?_)
 replace Hz := Hz.oz [1, 2, 4]
 refine regS Hz (.fa 3 rfl U28 <| .lb m2 20 U3 rfl rfl rfl <| .fa 1 rfl U28 <| .lb m2 20 U3 rfl rfl rfl <| .move rfl <| .fa 3 rfl U28 <| .lb m2 20 U3 rfl rfl rfl <| .mul rfl rfl (r := fi) (by rw [hfi]; exact IntWalk.i64_in _ (by omega)) <| .sub rfl rfl (r := bl - fi) (IntWalk.i64_in _ (by omega)) <| .c rfl (fun _ h_ => y_min h_ rfl rfl (r := cnt) hcnt) <| .assign rfl .nil) fun Az Hz => ?_
 refine rt1 Hz ?_
 exact ⟨rfl, m2.below⟩
theorem rpush_any (X : Cx) (vo bl sz pe to ne fl : Int) (hi : Bool) (pp pn pw : Option Addr) (cp nn9 cn9 cw : Nat) (place : List Int) (ws : List PWr) (ch fi cnt : Int) (mk tq : Nat) (w0 : World) (hch : 0 ≤ ch ∧ ch < place.length) (hpe : 1 ≤ pe) (hfi : ch * pe = fi) (hfb : 0 ≤ fi ∧ fi ≤ 1000000) (hblb : 0 ≤ bl ∧ bl ≤ 1000000) (hcnt : min pe (bl - fi) = cnt) (hc1 : 1 ≤ cnt) (hl : ws.length ≤ 1000000) (hok : WrsOk ws) (hib : ∀ e ∈ ws, ∀ x ∈ e.2, 0 ≤ x.1 ∧ x.1 < bl) (hmk : mk ≤ ws.length) (htq : min ((mk : Int) + 4) ws.length = tq) (m0 : MemOk X w0 [(3, .dat (.slice pw (ws.map wrD).length cw) (.l 2 (ws.map wrD)))] w0) :
   Calls Try.prog 7 #[.agg #[.int .i64 vo, .int .i64 bl, .int .i64 sz, .int .i64 pe, .slice pp place.length cp, .int .i64 to, .int .i64 ne, .bool hi, .int .i64 fl, .slice pn nn9 cn9, .slice pw (ws.map wrD).length cw], .int .i64 ch, .int .i64 (mk : Int)] w0 fun e w' => ∃ p c, e = .returned (.tuple #[.agg #[.int .i64 vo, .int .i64 ch, .int .i64 cnt, .int .i64 sz, .int .i64 (mk : Int), .int .i64 (tq : Int), .int .i64 (min fl tq), .slice p ((pushL fi cnt ((ws.take tq).drop mk)).map wrD).length c], .bool true]) ∧ MemOk X w0 [(3, .dat (.slice pw (ws.map wrD).length cw) (.l 2 (ws.map wrD))), (9, .dat (.slice p ((pushL fi cnt ((ws.take tq).drop mk)).map wrD).length c) (.l 2 ((pushL fi cnt ((ws.take tq).drop mk)).map wrD)))] w' := by
 refine ent3 Try.func7 rfl Try.ntmps7 fun Az Hz => ?_
 obtain ⟨W2, hW2⟩ : ∃ x, (ws.take tq).drop mk = x := ⟨_, rfl⟩
 have hW2l : W2.length = tq - mk := by rw [← hW2, List.length_drop, List.length_take]; omega
 refine zsr fun K0 hK0 => ?_
 refine plz (e_box Hz m0 70 (cs := [_, _, _, _, _, _, _, _, _, _, _]) rfl rfl rfl fun g1 Az w2 Hz m2 _ _ => ?_)
 refine plz (e_alloc Hz m2 71 fct5 rfl fun g3 Az w4 Hz m4 _ _ => ?_)
 refine gz hK0 Hz (.assign rfl .nil) fun Az Hz => ?_
 refine zsr fun K1 hK1 => ?_
 refine goCh Hz (.loadBR m4 (i := 70) rfl rfl U28 rfl fct17 (by simp) (by dsimp only [List.drop, List.take] <;> rfl) <| .move rfl .nil) fun Az Hz => ?_
 refine plz (ecb Hz Try.func27 rfl m4 (rcount_yes _ _ _ _ _ _ _ _ _ _ _ _ place _ _ _ _ _ fi cnt _ hch hpe hfi hfb hblb hcnt) fun Az w10 Hz m11 => ?_)
 refine gz hK1 Hz (.assign rfl .nil) fun Az Hz => ?_
 refine wsk fun K2 hK2 => ?_
 refine zsr fun K3 hK3 => ?_
 refine goCh Hz (.move rfl <| .lss rfl rfl <| .move rfl .nil) fun Az Hz => ?_
 refine bc Hz 20 ?_ ?_
 · intro hb _; exact absurd hb (by first | (simp; done) | (simp; omega))
 clear Hz; intro _ Hz
 refine goCh Hz (.moveZ rfl <| .lssZ rfl rfl <| .pickF rfl rfl <| .move rfl .nil) fun Az Hz => ?_
 refine bc Hz 24 ?_ ?_
 · intro hb _; exact absurd hb (by first | (simp; done) | (simp; omega))
 clear Hz; intro _ Hz
 refine goCh Hz (.moveZ rfl <| .loadBRZ m11 (i := 70) rfl rfl U28 rfl fct17 (by simp) (by dsimp only [List.drop, List.take] <;> rfl) .nil) fun Az Hz => ?_
 refine stz Hz (ecb Hz Try.func9 rfl m11 (rlen_m _ _ _ _ _ _ _ _ _ _ _ _ _ _ _ _ _ _) fun Az w28 Hz m29 => ?_)
 refine gz hK3 Hz (.gtrZ rfl rfl <| .pickF rfl rfl <| .nil) fun Az Hz => ?_
 refine bc Hz 29 ?_ ?_
 · intro hb _; exact absurd hb (by first | (simp; done) | (simp; omega))
 clear Hz; intro _ Hz
 refine wcf Hz ?_
 refine zss (hK2 _ _ ?_)
 refine wsk fun K4 hK4 => ?_
 replace Hz := Hz.oz [1, 2, 3, 6, 7, 8]
 have m35 := m29.oz [3, 70, 71]
 refine region_p 15 (B := [(70, _)]) (m35.to ⟨il, trivial⟩) m35 (by kernel_rfl) (fun w36 hP36 m36 => ?_); clear m35
 refine goR hP36 [0, 1, 2, 3, 4, 5, 6, 7, 8, 9] [1, 5, 9] 10 0 1023 Hz (m36.to ⟨il, trivial⟩) (.fa 0 rfl U28 <| .lb hh 70 U3 rfl rfl rfl <| .move rfl <| .move rfl <| .fa 2 rfl U28 <| .lb hh 70 U3 rfl rfl rfl <| .move rfl <| .move rfl <| .add rfl rfl (r := (mk : Int) + 4) (IntWalk.i64_in _ (by omega)) <| .loadBR hh (i := 70) rfl rfl U28 rfl fct17 (by simp) (by dsimp only [List.drop, List.take] <;> rfl) .nil) fun Az Hz => ?_
 refine dtw 10 13 ?_ ?_
 ·
  refine ecb Hz Try.func9 rfl m36 (rlen_m _ _ _ _ _ _ _ _ _ _ _ _ _ _ _ _ _ _) fun Az w47 Hz m48 => ?_
  refine ⟨fun _ => (m48.to ⟨il, trivial⟩), ?_⟩
  refine goA hP36 [11, 12] 2 2047 8191 Hz (m48.to ⟨il, trivial⟩) (.p (fun _ _ h_ => y_min h_ rfl rfl (r := (tq : Int)) htq) <| .build rfl fct5 fl31rpu rfl (by dsimp only [setL, List.set] <;> rfl) .nil) fun Az Hz => ?_
  refine so 13 ?_
  refine e_alloc Hz m48 72 fct5 rfl fun g52 Az w53 Hz m53 _ _ => ?_
  refine ⟨m53.to ⟨il, trivial⟩, ?_⟩
  refine so 14 ?_
  refine stw Hz m53 72 fct3 fun w54 m54 _ => ?_
  refine ⟨m54.to ⟨il, trivial⟩, ?_⟩
  refine wpAnyE_done (by kernel_rfl) ?_ _
  refine hK4 _ _ ?_
  replace Hz := Hz.oz [1, 3, 6, 7, 8, 31, 9]
  refine zsr fun K5 hK5 => ?_
  refine goCh Hz (.fa 8 rfl U28 <| .lb m54 70 U2 rfl rfl rfl <| .fa 5 rfl U31 <| .lb m54 72 U2 rfl rfl rfl <| .c rfl (fun _ h_ => y_min h_ rfl rfl rfl) <| .fa 6 rfl U31 .nil) fun Az Hz => ?_
  refine plz (st1 Hz m54 72 fct9 fun w68 m68 _ => ?_)
  refine znl (hK5 _ _ ?_)
  refine wsk fun K6 hK6 => ?_
  replace Hz := Hz.oz [1, 3, 6, 7, 8, 31, 9]
  refine regS Hz (.fa 4 rfl U31 <| .lb m68 72 U2 rfl rfl rfl <| .assign rfl .nil) fun Az Hz => ?_
  refine wp_block ?_
  refine wp_loop_ghost (fun g a w => ∃ (k B3 B6 B9 : Nat) (p : Option Addr) (c : Nat), mk + k ≤ tq ∧ g = tq - mk - k ∧ Has 112 [(1, .int .i64 ch), (3, .pointer (some ⟨B3, 0, none⟩)), (6, .pointer (some ⟨B6, 0, none⟩)), (8, .int .i64 cnt), (9, .pointer (some ⟨B9, 0, none⟩)), (10, .int .i64 ((mk + k : Nat) : Int))] a ∧ MemOk X w0 [(1, .box B3 28 [.int .i64 vo, .int .i64 bl, .int .i64 sz, .int .i64 pe, .slice pp place.length cp, .int .i64 to, .int .i64 ne, .bool hi, .int .i64 fl, .slice pn nn9 cn9, .slice pw (ws.map wrD).length cw]), (6, .box B6 31 [.int .i64 0, .int .i64 0, .int .i64 0, .int .i64 0, .int .i64 0, .int .i64 0, .int .i64 0, .slice none 0 0]), (9, .box B9 31 [.int .i64 vo, .int .i64 ch, .int .i64 cnt, .int .i64 sz, .int .i64 mk, .int .i64 tq, .int .i64 (min fl tq), .slice p ((pushL fi cnt (W2.take k)).map wrD).length c]), (10, .row (.slice p ((pushL fi cnt (W2.take k)).map wrD).length c) 53 2 ((pushL fi cnt (W2.take k)).map wrD)), (3, .dat (.slice pw (ws.map wrD).length cw) (.l 2 (ws.map wrD)))] w) (tq - mk) ?_ ?_
  · have mz := m68.nilR 10 53 2
    exact ⟨0, _, _, _, _, _, by omega, rfl, Hz.only [1, 3, 6, 8, 9, 10], mz.ren [(1, 70), (6, 71), (9, 72), (10, 10), (3, 3)] (by decide)⟩
  clear Hz m68
  rintro g Az w73 ⟨k, B3, B6, B9, p, c, hkl, hg, Hz, m73⟩
  refine wsk fun K7 hK7 => ?_
  refine regS Hz (.move rfl <| .fa 5 rfl U31 <| .lb m73 9 U2 rfl rfl rfl <| .lss rfl rfl .nil) fun Az Hz => ?_
  refine bc Hz 55 ?_ ?_
  ·
   intro hb78 Hz; try simp only [QQ, Qax] at hb78
   have hk : k < W2.length := by omega
   obtain ⟨⟨xs, xl⟩, hes2⟩ : ∃ e, W2[k]? = some e := ⟨_, List.getElem?_eq_getElem hk⟩
   have hes : ws[mk + k]? = some (xs, xl) := by rw [← hW2, List.getElem?_drop, List.getElem?_take] at hes2; split at hes2; (exact hes2); (cases hes2)
   have hok2 := hok _ (List.mem_of_getElem? hes)
   dsimp only at hok2
   have hib2 := hib _ (List.mem_of_getElem? hes)
   dsimp only at hib2
   refine wct Hz ?_
   refine zss (hK7 _ _ ?_)
   refine wsk fun K8 hK8 => ?_
   refine wp_block ?_
   refine regS Hz (.assign rfl .nil) fun Az Hz => ?_
   refine zsr fun K9 hK9 => ?_
   refine goCh Hz (.fa 10 rfl U28 <| .lb m73 1 U26 rfl rfl rfl <| .move rfl .nil) fun Az Hz => ?_
   obtain ⟨b87, o87, vs87, hp87, hR87, ho87, m87⟩ := m73.openR (i := 3) rfl ((mk + k)) (r := [.v (.int .i64 xs), .l 2 (xl.map itD)]) (wrD_get hes) 100 rfl
   revert Hz
   cases hp87; clear m73 ho87
   rcases hR87 with _ | ⟨hd87_0, _ | ⟨hd87_1, _ | _⟩⟩
   obtain rfl := hd87_0.v_out
   clear hd87_0
   obtain ⟨p88, c88, hv88, hc88⟩ := hd87_1.l_shape; subst hv88
   intro Hz
   have m88 := m87.dat 101 rfl (hd87_1.cast (fun _ h => (free_add rfl h))); clear m87 hd87_1
   refine goCh Hz (.c rfl (fun _ h_ => y_idx h_ rfl rfl U26 fct12 ((mk + k)) rfl (by rw [List.length_map]; omega)) <| .loadCR m88 (i := 100) rfl rfl U53 rfl fct12 .nil) fun Az Hz => ?_
   refine plz (e_alloc Hz m88 102 fct8 rfl fun g91 Az w92 Hz m92 _ _ => ?_)
   refine plz (stw Hz m92 102 fct12 fun w93 m93 _ => ?_)
   refine znl (hK9 _ _ ?_)
   refine wsk fun K10 hK10 => ?_
   replace Hz := Hz.oz [1, 3, 6, 8, 9, 10, 11, 12]
   refine regS Hz (.assign rfl .nil) fun Az Hz => ?_
   refine wp_block ?_
   refine wp_loop_ghost (fun g a w => ∃ (j B3 B6 B9 B12 : Nat) (p p2 px : Option Addr) (c c2 cx9 : Nat), j ≤ xl.length ∧ g = xl.length - j ∧ Has 112 [(1, .int .i64 ch), (3, .pointer (some ⟨B3, 0, none⟩)), (6, .pointer (some ⟨B6, 0, none⟩)), (8, .int .i64 cnt), (9, .pointer (some ⟨B9, 0, none⟩)), (10, .int .i64 ((mk + k : Nat) : Int)), (11, .slice p2 ((itemsL fi cnt (xl.take j)).map itD).length c2), (12, .pointer (some ⟨B12, 0, none⟩)), (13, .int .i64 j)] a ∧ MemOk X w0 [(1, .box B3 28 [.int .i64 vo, .int .i64 bl, .int .i64 sz, .int .i64 pe, .slice pp place.length cp, .int .i64 to, .int .i64 ne, .bool hi, .int .i64 fl, .slice pn nn9 cn9, .slice (some ⟨b87, o87, none⟩) (ws.map wrD).length cw]), (6, .box B6 31 [.int .i64 0, .int .i64 0, .int .i64 0, .int .i64 0, .int .i64 0, .int .i64 0, .int .i64 0, .slice none 0 0]), (9, .box B9 31 [.int .i64 vo, .int .i64 ch, .int .i64 cnt, .int .i64 sz, .int .i64 mk, .int .i64 tq, .int .i64 (min fl tq), .slice p ((pushL fi cnt (W2.take k)).map wrD).length c]), (10, .row (.slice p ((pushL fi cnt (W2.take k)).map wrD).length c) 53 2 ((pushL fi cnt (W2.take k)).map wrD)), (3, .dat (.slice (some ⟨b87, o87, none⟩) (ws.map wrD).length cw) (.l 2 (ws.map wrD))), (12, .box B12 53 [.int .i64 xs, .slice px (xl.map itD).length cx9]), (13, .dat (.slice px (xl.map itD).length cx9) (.l 2 (xl.map itD))), (14, .row (.slice p2 ((itemsL fi cnt (xl.take j)).map itD).length c2) 50 2 ((itemsL fi cnt (xl.take j)).map itD))] w) (xl.length) ?_ ?_
   · have mz := m93.nilR 14 50 2
     exact ⟨0, _, _, _, _, _, _, _, _, _, _, Nat.zero_le _, rfl, Hz.only [1, 3, 6, 8, 9, 10, 11, 12, 13], mz.ren [(1, 1), (6, 6), (9, 9), (10, 10), (3, 3), (12, 102), (13, 101), (14, 14)] (by decide)⟩
   clear Hz m93
   rintro g Az w96 ⟨j, B3, B6, B9, B12, p, p2, px, c, c2, cx9, hjl, hg2, Hz, m96⟩
   refine wsk fun K11 hK11 => ?_
   refine regS Hz (.move rfl <| .fa 1 rfl U53 <| .lb m96 12 U51 rfl rfl rfl <| .len rfl U51 <| .lss rfl rfl .nil) fun Az Hz => ?_
   refine bc Hz 67 ?_ ?_
   ·
    intro hb102 Hz; try simp only [QQ, Qax] at hb102
    rw [List.length_map] at hb102
    have hj : j < xl.length := by omega
    obtain ⟨⟨xb, xd⟩, hxs⟩ : ∃ e, xl[j]? = some e := ⟨_, List.getElem?_eq_getElem hj⟩
    have hxb := hib2 _ (List.mem_of_getElem? hxs)
    dsimp only at hxb
    have hed := hok2.2 _ (List.mem_of_getElem? hxs)
    dsimp only at hed
    refine wct Hz ?_
    refine zss (hK11 _ _ ?_)
    refine wsk fun K12 hK12 => ?_
    refine wp_block ?_
    refine wsk fun K13 hK13 => ?_
    obtain ⟨b103, o103, vs103, hp103, hR103, ho103, m103⟩ := m96.openR (i := 13) rfl (j) (r := [.v (.int .i64 xb), .ns .u8 xd]) (itD_get hxs) 200 rfl
    revert Hz
    cases hp103; clear m96 ho103
    rcases hR103 with _ | ⟨hd103_0, _ | ⟨hd103_1, _ | _⟩⟩
    obtain rfl := hd103_0.v_out
    clear hd103_0
    obtain ⟨p104, c104, hv104, hc104⟩ := hd103_1.ns_shape; subst hv104
    intro Hz
    have m104 := m103.dat 201 rfl (hd103_1.cast (fun _ h => (free_add rfl h))); clear m103 hd103_1
    have m105 := m104.oz [1, 3, 6, 9, 10, 12, 13, 14, 200, 201]
    refine region_p 12 (B := [(1, _), (3, _), (6, _), (9, _), (10, _), (12, _), (13, _), (14, _), (200, _), (201, _)]) (m105.to ⟨il, il, il, il, il, il, il, il, il, il, trivial⟩) m105 (by kernel_rfl) (fun w106 hP106 m106 => ?_); clear m105
    refine goR hP106 [0, 1, 2, 3, 4, 5, 6, 7, 8, 9, 10, 11] [1, 5, 8] 12 0 4095 Hz (m106.to ⟨il, il, il, il, il, il, il, il, il, il, trivial⟩) (.fa 1 rfl U53 <| .lb hh 12 U51 rfl rfl rfl <| .move rfl <| .p (fun _ _ h_ => y_idx h_ rfl rfl U51 fct31 (j) rfl (by simpa using hj)) <| .fieldAddrQ 0 rfl U50 rfl (s := 0) (by kernel_rfl) rfl <| .loadC0 hh (i := 200) rfl rfl U3 rfl <| .move rfl <| .fa 3 rfl U28 <| .lb hh 1 U3 rfl rfl rfl <| .mul rfl rfl (r := fi) (by rw [hfi]; exact IntWalk.i64_in _ (by omega)) <| .sub rfl rfl (r := xb - fi) (IntWalk.i64_in _ (by omega)) <| .assign rfl .nil) fun Az Hz => ?_
    refine wpAnyE_done (by kernel_rfl) ?_ _
    refine hK13 _ _ ?_
    replace Hz := Hz.oz [1, 3, 6, 8, 9, 10, 11, 12, 13, 14]
    refine zsr fun K14 hK14 => ?_
    refine goCh Hz (.move rfl <| .geq rfl rfl <| .move rfl .nil) fun Az Hz => ?_
    refine bc Hz 83 ?_ ?_
    ·
     intro hb126 Hz; try simp only [QQ, Qax] at hb126
     refine gz hK14 Hz (.moveZ rfl <| .moveZ rfl <| .lssZ rfl rfl <| .pickT rfl rfl <| .nil) fun Az Hz => ?_
     refine bc Hz 87 ?_ ?_
     ·
      intro hb131 Hz; try simp only [QQ, Qax] at hb131
      refine wct Hz ?_
      refine wp_region_lit ?_
      refine goCh Hz (.move rfl <| .move rfl <| .fa 1 rfl U53 <| .lb m106 12 U51 rfl rfl rfl <| .move rfl .nil) fun Az Hz => ?_
      obtain ⟨b137, o137, vs137, hp137, hR137, ho137, m137⟩ := m106.openR (i := 13) rfl (j) (r := [.v (.int .i64 xb), .ns .u8 xd]) (itD_get hxs) 202 rfl
      revert Hz
      cases hp137; clear m106 ho137
      rcases hR137 with _ | ⟨hd137_0, _ | ⟨hd137_1, _ | _⟩⟩
      obtain rfl := hd137_0.v_out
      clear hd137_0
      obtain ⟨p138, c138, hv138, hc138⟩ := hd137_1.ns_shape; subst hv138
      intro Hz
      have m138 := m137.dat 203 rfl (hd137_1.cast (fun _ h => (free_add rfl h))); clear m137 hd137_1
      refine goCh Hz (.c rfl (fun _ h_ => y_idx h_ rfl rfl U51 fct31 (j) rfl (by simpa using hj)) <| .fieldAddrQ 1 rfl U50 rfl (s := 0) (by kernel_rfl) rfl <| .loadC1 m138 (i := 202) (q := 1) rfl rfl rfl U22 rfl <| .build rfl fct7 fl50rpu rfl (by dsimp only [setL, List.set] <;> rfl) .nil) fun Az Hz => ?_
      refine plz (e_litR Hz m138 204 (mm := 2) rfl (.cons rfl rfl (.cons (.v _) (.cons (m138.rd (i := 203) rfl) .nil)) .nil) U51 fct1 rfl rfl rfl rfl rfl fun g143 Az w144 Hz m144 => ?_)
      have m146 := m144.freezeR 204 rfl
      refine plz (e_appR Hz m146 14 rfl rfl rfl (m146.rd (i := 204) rfl) U51 fct1 rfl rfl (by decide) (by have := itemsL_len fi cnt (xl.take j); rw [List.length_take] at this; simp; omega) rfl fun p145 c145 Az w147 Hz m147 => ?_)
      refine gz hK12 Hz (.assign rfl .nil) fun Az Hz => ?_
      replace Hz := Hz.oz [1, 3, 6, 8, 9, 10, 11, 12, 13, 83, 87]
      refine wp_region_lit ?_
      refine goCh Hz (.move rfl <| .inc (j + 1) <| .assign rfl .nil) fun Az Hz => ?_
      refine wpList_nil ?_
      show ∃ n', n' < _ ∧ _
      have hE : (itemsL fi cnt (xl.take j)).map itD ++ [[D.v (.int .i64 (xb - fi)), .ns .u8 xd]] = (itemsL fi cnt (xl.take (j + 1))).map itD := by rw [itemsL_yes hxs (by omega), List.map_append]; rfl
      rw [hE] at m147 Hz
      exact ⟨xl.length - (j + 1), by omega, j + 1, _, _, _, _, _, _, _, _, _, _, by omega, rfl, Hz.only [1, 3, 6, 8, 9, 10, 11, 12, 13], m147.ren [(1, 1), (6, 6), (9, 9), (10, 10), (3, 3), (12, 12), (13, 13), (14, 14)] (by decide)⟩
     intro hb131 Hz; try simp only [QQ, Qax] at hb131
     refine wcf Hz ?_
     refine zss (hK12 _ _ ?_)
     replace Hz := Hz.oz [1, 3, 6, 8, 9, 10, 11, 12, 13, 83, 87]
     refine wp_region_lit ?_
     refine goCh Hz (.move rfl <| .inc (j + 1) <| .assign rfl .nil) fun Az Hz => ?_
     refine wpList_nil ?_
     show ∃ n', n' < _ ∧ _
     have hE : (itemsL fi cnt (xl.take j)) = itemsL fi cnt (xl.take (j + 1)) := (itemsL_no hxs (by omega)).symm
     rw [hE] at m106 Hz
     exact ⟨xl.length - (j + 1), by omega, j + 1, _, _, _, _, _, _, _, _, _, _, by omega, rfl, Hz.only [1, 3, 6, 8, 9, 10, 11, 12, 13], m106.ren [(1, 1), (6, 6), (9, 9), (10, 10), (3, 3), (12, 12), (13, 13), (14, 14)] (by decide)⟩
    intro hb126 Hz; try simp only [QQ, Qax] at hb126
    refine gz hK14 Hz (.sk <| .sk <| .sk <| .pickF rfl rfl <| .nil) fun Az Hz => ?_
    refine wcf Hz ?_
    refine zss (hK12 _ _ ?_)
    replace Hz := Hz.oz [1, 3, 6, 8, 9, 10, 11, 12, 13, 83, 87]
    refine wp_region_lit ?_
    refine goCh Hz (.move rfl <| .inc (j + 1) <| .assign rfl .nil) fun Az Hz => ?_
    refine wpList_nil ?_
    show ∃ n', n' < _ ∧ _
    have hE : (itemsL fi cnt (xl.take j)) = itemsL fi cnt (xl.take (j + 1)) := (itemsL_no hxs (by omega)).symm
    rw [hE] at m106 Hz
    exact ⟨xl.length - (j + 1), by omega, j + 1, _, _, _, _, _, _, _, _, _, _, by omega, rfl, Hz.only [1, 3, 6, 8, 9, 10, 11, 12, 13], m106.ren [(1, 1), (6, 6), (9, 9), (10, 10), (3, 3), (12, 12), (13, 13), (14, 14)] (by decide)⟩
   intro hb102 Hz; try simp only [QQ, Qax] at hb102
   rw [List.length_map] at hb102
   revert Hz
   obtain rfl : j = xl.length := by omega
   intro Hz
   rw [List.take_length] at m96 Hz
   refine wcf Hz ?_
   refine wp_exit ?_
   refine hK10 _ _ ?_
   refine regS Hz (.move rfl <| .len rfl U51 <| .gtr rfl rfl .nil) fun Az Hz => ?_
   refine bc Hz 101 ?_ ?_
   ·
    intro hb168 Hz; try simp only [QQ, Qax] at hb168
    refine wct Hz ?_
    replace Hz := Hz.oz [1, 3, 6, 8, 9, 10, 11, 12, 13, 101]
    refine wp_region_lit ?_
    refine goCh Hz (.fa 7 rfl U31 <| .lb m96 9 U26 rfl rfl rfl <| .fa 0 rfl U53 <| .lb m96 12 U2 rfl rfl rfl <| .move rfl <| .build rfl fct8 fl53rpu rfl (by dsimp only [setL, List.set] <;> rfl) .nil) fun Az Hz => ?_
    have m177 := m96.freezeR 14 rfl
    refine plz (e_litR Hz m177 200 (mm := 2) rfl (.cons rfl rfl (.cons (.v _) (.cons (m177.rd (i := 14) rfl) .nil)) .nil) U26 fct2 rfl rfl rfl rfl rfl fun g176 Az w178 Hz m178 => ?_)
    have m180 := m178.freezeR 200 rfl
    refine plz (e_appR Hz m180 10 rfl rfl rfl (m180.rd (i := 200) rfl) U26 fct2 rfl rfl (by decide) (by have := push_len fi cnt (W2.take k); rw [List.length_take] at this; simp; omega) rfl fun p179 c179 Az w181 Hz m181 => ?_)
    refine goCh Hz (.fieldAddr (off := 7) rfl U31 rfl (s := 0) (by kernel_rfl) rfl .nil) fun Az Hz => ?_
    refine plz (st1 Hz m181 9 fct10 fun w183 m183 _ => ?_)
    refine znl (hK8 _ _ ?_)
    replace Hz := Hz.oz [1, 3, 6, 8, 9, 10, 11, 12, 13, 101]
    refine wp_region_lit ?_
    refine goCh Hz (.move rfl <| .add rfl rfl (r := ((mk + (k + 1) : Nat) : Int)) (by rw [IntWalk.i64_in _ (by omega)]; omega) <| .assign rfl .nil) fun Az Hz => ?_
    refine wpList_nil ?_
    show ∃ n', n' < _ ∧ _
    have hE : (pushL fi cnt (W2.take k)).map wrD ++ [[D.v (.int .i64 xs), .l 2 ((itemsL fi cnt xl).map itD)]] = (pushL fi cnt (W2.take (k + 1))).map wrD := by rw [push_yes hes2 (by have h9 := hb168; rw [List.length_map] at h9; omega), List.map_append]; rfl
    rw [hE] at m183
    exact ⟨tq - mk - (k + 1), by omega, k + 1, _, _, _, _, _, by omega, rfl, Hz.only [1, 3, 6, 8, 9, 10], m183.ren [(1, 1), (6, 6), (9, 9), (10, 10), (3, 3)] (by decide)⟩
   intro hb168 Hz; try simp only [QQ, Qax] at hb168
   refine wcf Hz ?_
   refine zss (hK8 _ _ ?_)
   replace Hz := Hz.oz [1, 3, 6, 8, 9, 10, 11, 12, 13, 101]
   refine wp_region_lit ?_
   refine goCh Hz (.move rfl <| .add rfl rfl (r := ((mk + (k + 1) : Nat) : Int)) (by rw [IntWalk.i64_in _ (by omega)]; omega) <| .assign rfl .nil) fun Az Hz => ?_
   refine wpList_nil ?_
   show ∃ n', n' < _ ∧ _
   have hE : (pushL fi cnt (W2.take k)) = pushL fi cnt (W2.take (k + 1)) := (push_no hes2 (by have h9 := hb168; rw [List.length_map] at h9; omega)).symm
   rw [hE] at m96
   exact ⟨tq - mk - (k + 1), by omega, k + 1, _, _, _, _, _, by omega, rfl, Hz.only [1, 3, 6, 8, 9, 10], m96.ren [(1, 1), (6, 6), (9, 9), (10, 10), (3, 3)] (by decide)⟩
  intro hb78 Hz; try simp only [QQ, Qax] at hb78
  revert Hz
  obtain rfl : k = W2.length := by omega
  intro Hz
  refine wcf Hz ?_
  refine wp_exit ?_
  refine hK6 _ _ ?_
  refine zsr fun K15 hK15 => ?_
  refine goCh Hz (.loadBR m73 (i := 9) rfl rfl U31 rfl fct3 (by simp) (by dsimp only [List.drop, List.take] <;> rfl) .nil) fun Az Hz => ?_
  refine plz (stw Hz m73 6 fct3 fun w194 m194 _ => ?_)
  refine gz hK15 Hz (.assign rfl .nil) fun Az Hz => ?_
  refine rtd (retCT (fn := Try.f7) Hz m194 (i := 6) rfl rfl rfl rfl U31 rfl fct3 ?_)
  rw [List.take_length] at *
  have m196 := m194.freezeR 10 rfl
  rw [hW2]
  exact ⟨_, _, rfl, m196.ren [(3, 3), (9, 10)] (by decide)⟩
 refine e_alloc Hz m36 72 fct5 rfl fun g197 Az w198 Hz m198 _ _ => ?_
 refine ⟨fun _ => (m198.to ⟨il, trivial⟩), ?_⟩
 refine so 10 ?_
 refine ecb Hz Try.func9 rfl m198 (rlen_m _ _ _ _ _ _ _ _ _ _ _ _ _ _ _ _ _ _) fun Az w199 Hz m200 => ?_
 refine ⟨m200.to ⟨il, trivial⟩, ?_⟩
 refine goA hP36 [11, 12] 2 10239 16383 Hz (m200.to ⟨il, trivial⟩) (.p (fun _ _ h_ => y_min h_ rfl rfl (r := (tq : Int)) htq) <| .build rfl fct5 fl31rpu rfl (by dsimp only [setL, List.set] <;> rfl) .nil) fun Az Hz => ?_
 refine so 14 ?_
 refine stw Hz m200 72 fct3 fun w204 m204 _ => ?_
 refine ⟨m204.to ⟨il, trivial⟩, ?_⟩
 refine wpAnyE_done (by kernel_rfl) ?_ _
 refine hK4 _ _ ?_
 replace Hz := Hz.oz [1, 3, 6, 7, 8, 31, 9]
 refine zsr fun K16 hK16 => ?_
 refine goCh Hz (.fa 8 rfl U28 <| .lb m204 70 U2 rfl rfl rfl <| .fa 5 rfl U31 <| .lb m204 72 U2 rfl rfl rfl <| .c rfl (fun _ h_ => y_min h_ rfl rfl rfl) <| .fa 6 rfl U31 .nil) fun Az Hz => ?_
 refine plz (st1 Hz m204 72 fct9 fun w218 m218 _ => ?_)
 refine znl (hK16 _ _ ?_)
 refine wsk fun K17 hK17 => ?_
 replace Hz := Hz.oz [1, 3, 6, 7, 8, 31, 9]
 refine regS Hz (.fa 4 rfl U31 <| .lb m218 72 U2 rfl rfl rfl <| .assign rfl .nil) fun Az Hz => ?_
 refine wp_block ?_
 refine wp_loop_ghost (fun g a w => ∃ (k B3 B6 B9 : Nat) (p : Option Addr) (c : Nat), mk + k ≤ tq ∧ g = tq - mk - k ∧ Has 112 [(1, .int .i64 ch), (3, .pointer (some ⟨B3, 0, none⟩)), (6, .pointer (some ⟨B6, 0, none⟩)), (8, .int .i64 cnt), (9, .pointer (some ⟨B9, 0, none⟩)), (10, .int .i64 ((mk + k : Nat) : Int))] a ∧ MemOk X w0 [(1, .box B3 28 [.int .i64 vo, .int .i64 bl, .int .i64 sz, .int .i64 pe, .slice pp place.length cp, .int .i64 to, .int .i64 ne, .bool hi, .int .i64 fl, .slice pn nn9 cn9, .slice pw (ws.map wrD).length cw]), (6, .box B6 31 [.int .i64 0, .int .i64 0, .int .i64 0, .int .i64 0, .int .i64 0, .int .i64 0, .int .i64 0, .slice none 0 0]), (9, .box B9 31 [.int .i64 vo, .int .i64 ch, .int .i64 cnt, .int .i64 sz, .int .i64 mk, .int .i64 tq, .int .i64 (min fl tq), .slice p ((pushL fi cnt (W2.take k)).map wrD).length c]), (10, .row (.slice p ((pushL fi cnt (W2.take k)).map wrD).length c) 53 2 ((pushL fi cnt (W2.take k)).map wrD)), (3, .dat (.slice pw (ws.map wrD).length cw) (.l 2 (ws.map wrD)))] w) (tq - mk) ?_ ?_
 · have mz := m218.nilR 10 53 2
   exact ⟨0, _, _, _, _, _, by omega, rfl, Hz.only [1, 3, 6, 8, 9, 10], mz.ren [(1, 70), (6, 71), (9, 72), (10, 10), (3, 3)] (by decide)⟩
 clear Hz m218
 rintro g Az w223 ⟨k, B3, B6, B9, p, c, hkl, hg, Hz, m223⟩
 refine wsk fun K18 hK18 => ?_
 refine regS Hz (.move rfl <| .fa 5 rfl U31 <| .lb m223 9 U2 rfl rfl rfl <| .lss rfl rfl .nil) fun Az Hz => ?_
 refine bc Hz 55 ?_ ?_
 ·
  intro hb228 Hz; try simp only [QQ, Qax] at hb228
  have hk : k < W2.length := by omega
  obtain ⟨⟨xs, xl⟩, hes2⟩ : ∃ e, W2[k]? = some e := ⟨_, List.getElem?_eq_getElem hk⟩
  have hes : ws[mk + k]? = some (xs, xl) := by rw [← hW2, List.getElem?_drop, List.getElem?_take] at hes2; split at hes2; (exact hes2); (cases hes2)
  have hok2 := hok _ (List.mem_of_getElem? hes)
  dsimp only at hok2
  have hib2 := hib _ (List.mem_of_getElem? hes)
  dsimp only at hib2
  refine wct Hz ?_
  refine zss (hK18 _ _ ?_)
  refine wsk fun K19 hK19 => ?_
  refine wp_block ?_
  refine regS Hz (.assign rfl .nil) fun Az Hz => ?_
  refine zsr fun K20 hK20 => ?_
  refine goCh Hz (.fa 10 rfl U28 <| .lb m223 1 U26 rfl rfl rfl <| .move rfl .nil) fun Az Hz => ?_
  obtain ⟨b237, o237, vs237, hp237, hR237, ho237, m237⟩ := m223.openR (i := 3) rfl ((mk + k)) (r := [.v (.int .i64 xs), .l 2 (xl.map itD)]) (wrD_get hes) 100 rfl
  revert Hz
  cases hp237; clear m223 ho237
  rcases hR237 with _ | ⟨hd237_0, _ | ⟨hd237_1, _ | _⟩⟩
  obtain rfl := hd237_0.v_out
  clear hd237_0
  obtain ⟨p238, c238, hv238, hc238⟩ := hd237_1.l_shape; subst hv238
  intro Hz
  have m238 := m237.dat 101 rfl (hd237_1.cast (fun _ h => (free_add rfl h))); clear m237 hd237_1
  refine goCh Hz (.c rfl (fun _ h_ => y_idx h_ rfl rfl U26 fct12 ((mk + k)) rfl (by rw [List.length_map]; omega)) <| .loadCR m238 (i := 100) rfl rfl U53 rfl fct12 .nil) fun Az Hz => ?_
  refine plz (e_alloc Hz m238 102 fct8 rfl fun g241 Az w242 Hz m242 _ _ => ?_)
  refine plz (stw Hz m242 102 fct12 fun w243 m243 _ => ?_)
  refine znl (hK20 _ _ ?_)
  refine wsk fun K21 hK21 => ?_
  replace Hz := Hz.oz [1, 3, 6, 8, 9, 10, 11, 12]
  refine regS Hz (.assign rfl .nil) fun Az Hz => ?_
  refine wp_block ?_
  refine wp_loop_ghost (fun g a w => ∃ (j B3 B6 B9 B12 : Nat) (p p2 px : Option Addr) (c c2 cx9 : Nat), j ≤ xl.length ∧ g = xl.length - j ∧ Has 112 [(1, .int .i64 ch), (3, .pointer (some ⟨B3, 0, none⟩)), (6, .pointer (some ⟨B6, 0, none⟩)), (8, .int .i64 cnt), (9, .pointer (some ⟨B9, 0, none⟩)), (10, .int .i64 ((mk + k : Nat) : Int)), (11, .slice p2 ((itemsL fi cnt (xl.take j)).map itD).length c2), (12, .pointer (some ⟨B12, 0, none⟩)), (13, .int .i64 j)] a ∧ MemOk X w0 [(1, .box B3 28 [.int .i64 vo, .int .i64 bl, .int .i64 sz, .int .i64 pe, .slice pp place.length cp, .int .i64 to, .int .i64 ne, .bool hi, .int .i64 fl, .slice pn nn9 cn9, .slice (some ⟨b237, o237, none⟩) (ws.map wrD).length cw]), (6, .box B6 31 [.int .i64 0, .int .i64 0, .int .i64 0, .int .i64 0, .int .i64 0, .int .i64 0, .int .i64 0, .slice none 0 0]), (9, .box B9 31 [.int .i64 vo, .int .i64 ch, .int .i64 cnt, .int .i64 sz, .int .i64 mk, .int .i64 tq, .int .i64 (min fl tq), .slice p ((pushL fi cnt (W2.take k)).map wrD).length c]), (10, .row (.slice p ((pushL fi cnt (W2.take k)).map wrD).length c) 53 2 ((pushL fi cnt (W2.take k)).map wrD)), (3, .dat (.slice (some ⟨b237, o237, none⟩) (ws.map wrD).length cw) (.l 2 (ws.map wrD))), (12, .box B12 53 [.int .i64 xs, .slice px (xl.map itD).length cx9]), (13, .dat (.slice px (xl.map itD).length cx9) (.l 2 (xl.map itD))), (14, .row (.slice p2 ((itemsL fi cnt (xl.take j)).map itD).length c2) 50 2 ((itemsL fi cnt (xl.take j)).map itD))] w) (xl.length) ?_ ?_
  · have mz := m243.nilR 14 50 2
    exact ⟨0, _, _, _, _, _, _, _, _, _, _, Nat.zero_le _, rfl, Hz.only [1, 3, 6, 8, 9, 10, 11, 12, 13], mz.ren [(1, 1), (6, 6), (9, 9), (10, 10), (3, 3), (12, 102), (13, 101), (14, 14)] (by decide)⟩
  clear Hz m243
  rintro g Az w246 ⟨j, B3, B6, B9, B12, p, p2, px, c, c2, cx9, hjl, hg2, Hz, m246⟩
  refine wsk fun K22 hK22 => ?_
  refine regS Hz (.move rfl <| .fa 1 rfl U53 <| .lb m246 12 U51 rfl rfl rfl <| .len rfl U51 <| .lss rfl rfl .nil) fun Az Hz => ?_
  refine bc Hz 67 ?_ ?_
  ·
   intro hb252 Hz; try simp only [QQ, Qax] at hb252
   rw [List.length_map] at hb252
   have hj : j < xl.length := by omega
   obtain ⟨⟨xb, xd⟩, hxs⟩ : ∃ e, xl[j]? = some e := ⟨_, List.getElem?_eq_getElem hj⟩
   have hxb := hib2 _ (List.mem_of_getElem? hxs)
   dsimp only at hxb
   have hed := hok2.2 _ (List.mem_of_getElem? hxs)
   dsimp only at hed
   refine wct Hz ?_
   refine zss (hK22 _ _ ?_)
   refine wsk fun K23 hK23 => ?_
   refine wp_block ?_
   refine wsk fun K24 hK24 => ?_
   obtain ⟨b253, o253, vs253, hp253, hR253, ho253, m253⟩ := m246.openR (i := 13) rfl (j) (r := [.v (.int .i64 xb), .ns .u8 xd]) (itD_get hxs) 200 rfl
   revert Hz
   cases hp253; clear m246 ho253
   rcases hR253 with _ | ⟨hd253_0, _ | ⟨hd253_1, _ | _⟩⟩
   obtain rfl := hd253_0.v_out
   clear hd253_0
   obtain ⟨p254, c254, hv254, hc254⟩ := hd253_1.ns_shape; subst hv254
   intro Hz
   have m254 := m253.dat 201 rfl (hd253_1.cast (fun _ h => (free_add rfl h))); clear m253 hd253_1
   have m255 := m254.oz [1, 3, 6, 9, 10, 12, 13, 14, 200, 201]
   refine region_p 12 (B := [(1, _), (3, _), (6, _), (9, _), (10, _), (12, _), (13, _), (14, _), (200, _), (201, _)]) (m255.to ⟨il, il, il, il, il, il, il, il, il, il, trivial⟩) m255 (by kernel_rfl) (fun w256 hP256 m256 => ?_); clear m255
   refine goR hP256 [0, 1, 2, 3, 4, 5, 6, 7, 8, 9, 10, 11] [1, 5, 8] 12 0 4095 Hz (m256.to ⟨il, il, il, il, il, il, il, il, il, il, trivial⟩) (.fa 1 rfl U53 <| .lb hh 12 U51 rfl rfl rfl <| .move rfl <| .p (fun _ _ h_ => y_idx h_ rfl rfl U51 fct31 (j) rfl (by simpa using hj)) <| .fieldAddrQ 0 rfl U50 rfl (s := 0) (by kernel_rfl) rfl <| .loadC0 hh (i := 200) rfl rfl U3 rfl <| .move rfl <| .fa 3 rfl U28 <| .lb hh 1 U3 rfl rfl rfl <| .mul rfl rfl (r := fi) (by rw [hfi]; exact IntWalk.i64_in _ (by omega)) <| .sub rfl rfl (r := xb - fi) (IntWalk.i64_in _ (by omega)) <| .assign rfl .nil) fun Az Hz => ?_
   refine wpAnyE_done (by kernel_rfl) ?_ _
   refine hK24 _ _ ?_
   replace Hz := Hz.oz [1, 3, 6, 8, 9, 10, 11, 12, 13, 14]
   refine zsr fun K25 hK25 => ?_
   refine goCh Hz (.move rfl <| .geq rfl rfl <| .move rfl .nil) fun Az Hz => ?_
   refine bc Hz 83 ?_ ?_
   ·
    intro hb276 Hz; try simp only [QQ, Qax] at hb276
    refine gz hK25 Hz (.moveZ rfl <| .moveZ rfl <| .lssZ rfl rfl <| .pickT rfl rfl <| .nil) fun Az Hz => ?_
    refine bc Hz 87 ?_ ?_
    ·
     intro hb281 Hz; try simp only [QQ, Qax] at hb281
     refine wct Hz ?_
     refine wp_region_lit ?_
     refine goCh Hz (.move rfl <| .move rfl <| .fa 1 rfl U53 <| .lb m256 12 U51 rfl rfl rfl <| .move rfl .nil) fun Az Hz => ?_
     obtain ⟨b287, o287, vs287, hp287, hR287, ho287, m287⟩ := m256.openR (i := 13) rfl (j) (r := [.v (.int .i64 xb), .ns .u8 xd]) (itD_get hxs) 202 rfl
     revert Hz
     cases hp287; clear m256 ho287
     rcases hR287 with _ | ⟨hd287_0, _ | ⟨hd287_1, _ | _⟩⟩
     obtain rfl := hd287_0.v_out
     clear hd287_0
     obtain ⟨p288, c288, hv288, hc288⟩ := hd287_1.ns_shape; subst hv288
     intro Hz
     have m288 := m287.dat 203 rfl (hd287_1.cast (fun _ h => (free_add rfl h))); clear m287 hd287_1
     refine goCh Hz (.c rfl (fun _ h_ => y_idx h_ rfl rfl U51 fct31 (j) rfl (by simpa using hj)) <| .fieldAddrQ 1 rfl U50 rfl (s := 0) (by kernel_rfl) rfl <| .loadC1 m288 (i := 202) (q := 1) rfl rfl rfl U22 rfl <| .build rfl fct7 fl50rpu rfl (by dsimp only [setL, List.set] <;> rfl) .nil) fun Az Hz => ?_
     refine plz (e_litR Hz m288 204 (mm := 2) rfl (.cons rfl rfl (.cons (.v _) (.cons (m288.rd (i := 203) rfl) .nil)) .nil) U51 fct1 rfl rfl rfl rfl rfl fun g293 Az w294 Hz m294 => ?_)
     have m296 := m294.freezeR 204 rfl
     refine plz (e_appR Hz m296 14 rfl rfl rfl (m296.rd (i := 204) rfl) U51 fct1 rfl rfl (by decide) (by have := itemsL_len fi cnt (xl.take j); rw [List.length_take] at this; simp; omega) rfl fun p295 c295 Az w297 Hz m297 => ?_)
     refine gz hK23 Hz (.assign rfl .nil) fun Az Hz => ?_
     replace Hz := Hz.oz [1, 3, 6, 8, 9, 10, 11, 12, 13, 83, 87]
     refine wp_region_lit ?_
     refine goCh Hz (.move rfl <| .inc (j + 1) <| .assign rfl .nil) fun Az Hz => ?_
     refine wpList_nil ?_
     show ∃ n', n' < _ ∧ _
     have hE : (itemsL fi cnt (xl.take j)).map itD ++ [[D.v (.int .i64 (xb - fi)), .ns .u8 xd]] = (itemsL fi cnt (xl.take (j + 1))).map itD := by rw [itemsL_yes hxs (by omega), List.map_append]; rfl
     rw [hE] at m297 Hz
     exact ⟨xl.length - (j + 1), by omega, j + 1, _, _, _, _, _, _, _, _, _, _, by omega, rfl, Hz.only [1, 3, 6, 8, 9, 10, 11, 12, 13], m297.ren [(1, 1), (6, 6), (9, 9), (10, 10), (3, 3), (12, 12), (13, 13), (14, 14)] (by decide)⟩
    intro hb281 Hz; try simp only [QQ, Qax] at hb281
    refine wcf Hz ?_
    refine zss (hK23 _ _ ?_)
    replace Hz := Hz.oz [1, 3, 6, 8, 9, 10, 11, 12, 13, 83, 87]
    refine wp_region_lit ?_
    refine goCh Hz (.move rfl <| .inc (j + 1) <| .assign rfl .nil) fun Az Hz => ?_
    refine wpList_nil ?_
    show ∃ n', n' < _ ∧ _
    have hE : (itemsL fi cnt (xl.take j)) = itemsL fi cnt (xl.take (j + 1)) := (itemsL_no hxs (by omega)).symm
    rw [hE] at m256 Hz
    exact ⟨xl.length - (j + 1), by omega, j + 1, _, _, _, _, _, _, _, _, _, _, by omega, rfl, Hz.only [1, 3, 6, 8, 9, 10, 11, 12, 13], m256.ren [(1, 1), (6, 6), (9, 9), (10, 10), (3, 3), (12, 12), (13, 13), (14, 14)] (by decide)⟩
   intro hb276 Hz; try simp only [QQ, Qax] at hb276
   refine gz hK25 Hz (.sk <| .sk <| .sk <| .pickF rfl rfl <| .nil) fun Az Hz => ?_
   refine wcf Hz ?_
   refine zss (hK23 _ _ ?_)
   replace Hz := Hz.oz [1, 3, 6, 8, 9, 10, 11, 12, 13, 83, 87]
   refine wp_region_lit ?_
   refine goCh Hz (.move rfl <| .inc (j + 1) <| .assign rfl .nil) fun Az Hz => ?_
   refine wpList_nil ?_
   show ∃ n', n' < _ ∧ _
   have hE : (itemsL fi cnt (xl.take j)) = itemsL fi cnt (xl.take (j + 1)) := (itemsL_no hxs (by omega)).symm
   rw [hE] at m256 Hz
   exact ⟨xl.length - (j + 1), by omega, j + 1, _, _, _, _, _, _, _, _, _, _, by omega, rfl, Hz.only [1, 3, 6, 8, 9, 10, 11, 12, 13], m256.ren [(1, 1), (6, 6), (9, 9), (10, 10), (3, 3), (12, 12), (13, 13), (14, 14)] (by decide)⟩
  intro hb252 Hz; try simp only [QQ, Qax] at hb252
  rw [List.length_map] at hb252
  revert Hz
  obtain rfl : j = xl.length := by omega
  intro Hz
  rw [List.take_length] at m246 Hz
  refine wcf Hz ?_
  refine wp_exit ?_
  refine hK21 _ _ ?_
  refine regS Hz (.move rfl <| .len rfl U51 <| .gtr rfl rfl .nil) fun Az Hz => ?_
  refine bc Hz 101 ?_ ?_
  ·
   intro hb318 Hz; try simp only [QQ, Qax] at hb318
   refine wct Hz ?_
   replace Hz := Hz.oz [1, 3, 6, 8, 9, 10, 11, 12, 13, 101]
   refine wp_region_lit ?_
   refine goCh Hz (.fa 7 rfl U31 <| .lb m246 9 U26 rfl rfl rfl <| .fa 0 rfl U53 <| .lb m246 12 U2 rfl rfl rfl <| .move rfl <| .build rfl fct8 fl53rpu rfl (by dsimp only [setL, List.set] <;> rfl) .nil) fun Az Hz => ?_
   have m327 := m246.freezeR 14 rfl
   refine plz (e_litR Hz m327 200 (mm := 2) rfl (.cons rfl rfl (.cons (.v _) (.cons (m327.rd (i := 14) rfl) .nil)) .nil) U26 fct2 rfl rfl rfl rfl rfl fun g326 Az w328 Hz m328 => ?_)
   have m330 := m328.freezeR 200 rfl
   refine plz (e_appR Hz m330 10 rfl rfl rfl (m330.rd (i := 200) rfl) U26 fct2 rfl rfl (by decide) (by have := push_len fi cnt (W2.take k); rw [List.length_take] at this; simp; omega) rfl fun p329 c329 Az w331 Hz m331 => ?_)
   refine goCh Hz (.fieldAddr (off := 7) rfl U31 rfl (s := 0) (by kernel_rfl) rfl .nil) fun Az Hz => ?_
   refine plz (st1 Hz m331 9 fct10 fun w333 m333 _ => ?_)
   refine znl (hK19 _ _ ?_)
   replace Hz := Hz.oz [1, 3, 6, 8, 9, 10, 11, 12, 13, 101]
   refine wp_region_lit ?_
   refine goCh Hz (.move rfl <| .add rfl rfl (r := ((mk + (k + 1) : Nat) : Int)) (by rw [IntWalk.i64_in _ (by omega)]; omega) <| .assign rfl .nil) fun Az Hz => ?_
   refine wpList_nil ?_
   show ∃ n', n' < _ ∧ _
   have hE : (pushL fi cnt (W2.take k)).map wrD ++ [[D.v (.int .i64 xs), .l 2 ((itemsL fi cnt xl).map itD)]] = (pushL fi cnt (W2.take (k + 1))).map wrD := by rw [push_yes hes2 (by have h9 := hb318; rw [List.length_map] at h9; omega), List.map_append]; rfl
   rw [hE] at m333
   exact ⟨tq - mk - (k + 1), by omega, k + 1, _, _, _, _, _, by omega, rfl, Hz.only [1, 3, 6, 8, 9, 10], m333.ren [(1, 1), (6, 6), (9, 9), (10, 10), (3, 3)] (by decide)⟩
  intro hb318 Hz; try simp only [QQ, Qax] at hb318
  refine wcf Hz ?_
  refine zss (hK19 _ _ ?_)
  replace Hz := Hz.oz [1, 3, 6, 8, 9, 10, 11, 12, 13, 101]
  refine wp_region_lit ?_
  refine goCh Hz (.move rfl <| .add rfl rfl (r := ((mk + (k + 1) : Nat) : Int)) (by rw [IntWalk.i64_in _ (by omega)]; omega) <| .assign rfl .nil) fun Az Hz => ?_
  refine wpList_nil ?_
  show ∃ n', n' < _ ∧ _
  have hE : (pushL fi cnt (W2.take k)) = pushL fi cnt (W2.take (k + 1)) := (push_no hes2 (by have h9 := hb318; rw [List.length_map] at h9; omega)).symm
  rw [hE] at m246
  exact ⟨tq - mk - (k + 1), by omega, k + 1, _, _, _, _, _, by omega, rfl, Hz.only [1, 3, 6, 8, 9, 10], m246.ren [(1, 1), (6, 6), (9, 9), (10, 10), (3, 3)] (by decide)⟩
 intro hb228 Hz; try simp only [QQ, Qax] at hb228
 revert Hz
 obtain rfl : k = W2.length := by omega
 intro Hz
 refine wcf Hz ?_
 refine wp_exit ?_
 refine hK17 _ _ ?_
 refine zsr fun K26 hK26 => ?_
 refine goCh Hz (.loadBR m223 (i := 9) rfl rfl U31 rfl fct3 (by simp) (by dsimp only [List.drop, List.take] <;> rfl) .nil) fun Az Hz => ?_
 refine plz (stw Hz m223 6 fct3 fun w344 m344 _ => ?_)
 refine gz hK26 Hz (.assign rfl .nil) fun Az Hz => ?_
 refine rtd (retCT (fn := Try.f7) Hz m344 (i := 6) rfl rfl rfl rfl U31 rfl fct3 ?_)
 rw [List.take_length] at *
 have m346 := m344.freezeR 10 rfl
 rw [hW2]
 exact ⟨_, _, rfl, m346.ren [(3, 3), (9, 10)] (by decide)⟩
theorem rstate_any (X : Cx) (vo bl sz pe to ne fl : Int) (hi : Bool) (pp pn pw : Option Addr) (np cp nn9 cn9 cw : Nat) (ws : List PWr) (t n z : Nat) (w0 : World) (hX : ∀ b, b ∉ X.bad) (hl : ws.length ≤ 1000000) (hok : WrsOk ws) (hib : ∀ e ∈ ws, ∀ x ∈ e.2, 0 ≤ x.1 ∧ x.1 < (n : Int)) (hn : n ≤ 256) (hz : z ≤ 32) (ht0 : fl ≤ t) (ht1 : t ≤ ws.length) (m0 : MemOk X w0 [(3, .dat (.slice pw (ws.map wrD).length cw) (.l 2 (ws.map wrD)))] w0) :
   Calls Try.prog 12 #[.agg #[.int .i64 vo, .int .i64 (n : Int), .int .i64 (z : Int), .int .i64 pe, .slice pp np cp, .int .i64 to, .int .i64 ne, .bool hi, .int .i64 fl, .slice pn nn9 cn9, .slice pw (ws.map wrD).length cw], .int .i64 (t : Int)] w0 fun e w' => ∃ p c, e = .returned (.tuple #[.slice p (((ws.take t).foldl stW (List.replicate n (List.replicate z 0))).map bD).length c, .int .i64 0]) ∧ MemOk X w0 [(3, .dat (.slice pw (ws.map wrD).length cw) (.l 2 (ws.map wrD))), (9, .dat (.slice p (((ws.take t).foldl stW (List.replicate n (List.replicate z 0))).map bD).length c) (.l 1 (((ws.take t).foldl stW (List.replicate n (List.replicate z 0))).map bD)))] w' := by
 refine ent2 Try.func12 rfl Try.ntmps12 fun Az Hz => ?_
 refine zsr fun K0 hK0 => ?_
 refine plz (e_box Hz m0 70 (cs := [_, _, _, _, _, _, _, _, _, _, _]) rfl rfl rfl fun g1 Az w2 Hz m2 _ _ => ?_)
 refine gz hK0 Hz (.assign rfl <| .assign rfl <| .nil) fun Az Hz => ?_
 refine wsk fun K1 hK1 => ?_
 refine regS Hz (.move rfl <| .fa 8 rfl U28 <| .lb m2 70 U2 rfl rfl rfl <| .lss rfl rfl .nil) fun Az Hz => ?_
 refine bc Hz 14 ?_ ?_
 · intro hb _; exact absurd hb (by simp; omega)
 clear Hz; intro _ Hz
 refine wcf Hz ?_
 refine zss (hK1 _ _ ?_)
 refine wsk fun K2 hK2 => ?_
 refine zsr fun K3 hK3 => ?_
 refine goCh Hz (.move rfl <| .loadBR m2 (i := 70) rfl rfl U28 rfl fct17 (by simp) (by dsimp only [List.drop, List.take] <;> rfl) .nil) fun Az Hz => ?_
 refine plz (ecb Hz Try.func9 rfl m2 (rlen_m _ _ _ _ _ _ _ _ _ _ _ _ _ _ _ _ _ _) fun Az w14 Hz m15 => ?_)
 refine gz hK3 Hz (.gtr rfl rfl .nil) fun Az Hz => ?_
 refine bc Hz 18 ?_ ?_
 · intro hb _; exact absurd hb (by simp; omega)
 clear Hz; intro _ Hz
 refine wcf Hz ?_
 refine zss (hK2 _ _ ?_)
 replace Hz := Hz.oz [1, 2, 4, 5]
 refine regS Hz (.assign rfl .nil) fun Az Hz => ?_
 refine wsk fun K4 hK4 => ?_
 refine regS Hz (.assign rfl .nil) fun Az Hz => ?_
 refine wp_block ?_
 refine wp_loop_ghost (fun g a w => ∃ (k B2 : Nat) (p : Option Addr) (c : Nat), k ≤ n ∧ g = n - k ∧ Has 63 [(1, .int .i64 (t : Int)), (2, .pointer (some ⟨B2, 0, none⟩)), (6, .slice p ((List.replicate k (List.replicate z 0)).map bD).length c), (7, .int .i64 k)] a ∧ MemOk X w0 [(1, .box B2 28 [.int .i64 vo, .int .i64 (n : Int), .int .i64 (z : Int), .int .i64 pe, .slice pp np cp, .int .i64 to, .int .i64 ne, .bool hi, .int .i64 fl, .slice pn nn9 cn9, .slice pw (ws.map wrD).length cw]), (3, .dat (.slice pw (ws.map wrD).length cw) (.l 2 (ws.map wrD))), (9, .row (.slice p ((List.replicate k (List.replicate z 0)).map bD).length c) 22 1 ((List.replicate k (List.replicate z 0)).map bD))] w) (n) ?_ ?_
 · have mz := m15.nilR 9 22 1
   exact ⟨0, _, _, _, Nat.zero_le _, rfl, Hz.only [1, 2, 6, 7], mz.ren [(1, 70), (3, 3), (9, 9)] (by decide)⟩
 clear Hz m15
 rintro g Az w22 ⟨k, B2, p, c, hkl, hg, Hz, m22⟩
 refine wsk fun K5 hK5 => ?_
 refine regS Hz (.move rfl <| .fa 1 rfl U28 <| .lb m22 1 U3 rfl rfl rfl <| .lss rfl rfl .nil) fun Az Hz => ?_
 refine bc Hz 22 ?_ ?_
 ·
  intro hb27 Hz; try simp only [QQ, Qax] at hb27
  have hk9 : k < n := by omega
  refine wct Hz ?_
  refine zss (hK5 _ _ ?_)
  refine wsk fun K6 hK6 => ?_
  refine wp_block ?_
  refine wp_region_lit ?_
  refine goCh Hz (.move rfl <| .fa 2 rfl U28 <| .lb m22 1 U3 rfl rfl rfl .nil) fun Az Hz => ?_
  refine plz (e_makeN Hz m22 100 (z) rfl rfl rfl rfl U22 fct0 (by decide) (by omega) rfl fun p31 c31 Az w32 Hz m32 => ?_)
  have m34 := m32.freezeN 100 rfl
  refine plz (e_litR Hz m34 101 (mm := 1) rfl (.cons rfl rfl (.cons (m34.rd (i := 100) rfl) .nil) .nil) U41 fct24 rfl rfl rfl rfl rfl fun g33 Az w35 Hz m35 => ?_)
  have m37 := m35.freezeR 101 rfl
  refine plz (e_appR Hz m37 9 rfl rfl rfl (m37.rd (i := 101) rfl) U41 fct24 rfl rfl (by decide) (by simp; omega) rfl fun p36 c36 Az w38 Hz m38 => ?_)
  refine gz hK6 Hz (.assign rfl .nil) fun Az Hz => ?_
  replace Hz := Hz.oz [1, 2, 6, 7]
  refine wp_region_lit ?_
  refine goCh Hz (.move rfl <| .inc (k + 1) <| .assign rfl .nil) fun Az Hz => ?_
  refine wpList_nil ?_
  show ∃ n', n' < _ ∧ _
  have hE : (List.replicate k (List.replicate z 0)).map bD ++ [[D.ns .u8 (List.replicate z 0)]] = (List.replicate (k + 1) (List.replicate z 0)).map bD := by rw [List.replicate_succ', List.map_append]; rfl
  rw [hE] at m38 Hz
  exact ⟨n - (k + 1), by omega, k + 1, _, _, _, by omega, rfl, Hz.only [1, 2, 6, 7], m38.ren [(1, 1), (3, 3), (9, 9)] (by decide)⟩
 intro hb27 Hz; try simp only [QQ, Qax] at hb27
 have hkn : k = n := by omega
 rw [hkn] at m22 Hz
 refine wcf Hz ?_
 refine wp_exit ?_
 refine hK4 _ _ ?_
 refine wsk fun K7 hK7 => ?_
 refine regS Hz (.assign rfl .nil) fun Az Hz => ?_
 refine wp_block ?_
 have m45 := m22.rowS 9 rfl
 refine wp_loop_ghost (fun g a w => ∃ (k B2 : Nat) (L : List (List Int)) (p : Option Addr) (c : Nat), k ≤ t ∧ g = t - k ∧ L = (ws.take k).foldl stW (List.replicate n (List.replicate z 0)) ∧ L.length = n ∧ Has 63 [(1, .int .i64 (t : Int)), (2, .pointer (some ⟨B2, 0, none⟩)), (6, .slice p (L.map bD).length c), (8, .int .i64 k)] a ∧ MemOk X w0 [(1, .box B2 28 [.int .i64 vo, .int .i64 (n : Int), .int .i64 (z : Int), .int .i64 pe, .slice pp np cp, .int .i64 to, .int .i64 ne, .bool hi, .int .i64 fl, .slice pn nn9 cn9, .slice pw (ws.map wrD).length cw]), (3, .dat (.slice pw (ws.map wrD).length cw) (.l 2 (ws.map wrD))), (9, .seg (.slice p (L.map bD).length c) 22 1 (L.map bD))] w) (t) ?_ ?_
 · exact ⟨0, _, _, _, _, Nat.zero_le _, rfl, rfl, List.length_replicate .., Hz.only [1, 2, 6, 8], m45.ren [(1, 1), (3, 3), (9, 9)] (by decide)⟩
 clear Hz m45
 rintro g Az w46 ⟨k, B2, L, p, c, hkl, hg, hL, hLn, Hz, m46⟩
 refine wsk fun K8 hK8 => ?_
 refine regS Hz (.move rfl <| .move rfl <| .lss rfl rfl .nil) fun Az Hz => ?_
 refine bc Hz 33 ?_ ?_
 ·
  intro hb50 Hz; try simp only [QQ, Qax] at hb50
  have hk : k < ws.length := by omega
  obtain ⟨⟨xs, xl⟩, hes⟩ : ∃ e, ws[k]? = some e := ⟨_, List.getElem?_eq_getElem hk⟩
  have hok2 := hok _ (List.mem_of_getElem? hes)
  dsimp only at hok2
  have hib2 := hib _ (List.mem_of_getElem? hes)
  dsimp only at hib2
  refine wct Hz ?_
  refine zss (hK8 _ _ ?_)
  refine wsk fun K9 hK9 => ?_
  refine wp_block ?_
  refine zsr fun K10 hK10 => ?_
  refine goCh Hz (.fa 10 rfl U28 <| .lb m46 1 U26 rfl rfl rfl <| .move rfl .nil) fun Az Hz => ?_
  obtain ⟨b58, o58, vs58, hp58, hR58, ho58, m58⟩ := m46.openR (i := 3) rfl (k) (r := [.v (.int .i64 xs), .l 2 (xl.map itD)]) (wrD_get hes) 200 rfl
  revert Hz
  cases hp58; clear m46 ho58
  rcases hR58 with _ | ⟨hd58_0, _ | ⟨hd58_1, _ | _⟩⟩
  obtain rfl := hd58_0.v_out
  clear hd58_0
  obtain ⟨p59, c59, hv59, hc59⟩ := hd58_1.l_shape; subst hv59
  intro Hz
  have m59 := m58.dat 201 rfl (hd58_1.cast (fun _ h => (free_add rfl h))); clear m58 hd58_1
  refine goCh Hz (.c rfl (fun _ h_ => y_idx h_ rfl rfl U26 fct12 (k) rfl (by rw [List.length_map]; omega)) <| .loadCR m59 (i := 200) rfl rfl U53 rfl fct12 .nil) fun Az Hz => ?_
  refine plz (e_alloc Hz m59 202 fct8 rfl fun g62 Az w63 Hz m63 _ _ => ?_)
  refine plz (stw Hz m63 202 fct12 fun w64 m64 _ => ?_)
  refine znl (hK10 _ _ ?_)
  replace Hz := Hz.oz [1, 2, 6, 8, 9]
  refine regS Hz (.assign rfl .nil) fun Az Hz => ?_
  refine wp_block ?_
  refine wp_loop_ghost (fun g a w => ∃ (j B2 B9 : Nat) (L2 : List (List Int)) (p px : Option Addr) (c cx9 : Nat), j ≤ xl.length ∧ g = xl.length - j ∧ L2 = (xl.take j).foldl stStep L ∧ L2.length = n ∧ Has 63 [(1, .int .i64 (t : Int)), (2, .pointer (some ⟨B2, 0, none⟩)), (6, .slice p (L2.map bD).length c), (8, .int .i64 k), (9, .pointer (some ⟨B9, 0, none⟩)), (10, .int .i64 j)] a ∧ MemOk X w0 [(1, .box B2 28 [.int .i64 vo, .int .i64 (n : Int), .int .i64 (z : Int), .int .i64 pe, .slice pp np cp, .int .i64 to, .int .i64 ne, .bool hi, .int .i64 fl, .slice pn nn9 cn9, .slice (some ⟨b58, o58, none⟩) (ws.map wrD).length cw]), (3, .dat (.slice (some ⟨b58, o58, none⟩) (ws.map wrD).length cw) (.l 2 (ws.map wrD))), (9, .seg (.slice p (L2.map bD).length c) 22 1 (L2.map bD)), (12, .box B9 53 [.int .i64 xs, .slice px (xl.map itD).length cx9]), (13, .dat (.slice px (xl.map itD).length cx9) (.l 2 (xl.map itD)))] w) (xl.length) ?_ ?_
  · exact ⟨0, _, _, L, _, _, _, _, Nat.zero_le _, rfl, rfl, hLn, Hz.only [1, 2, 6, 8, 9, 10], m64.ren [(1, 1), (3, 3), (9, 9), (12, 202), (13, 201)] (by decide)⟩
  clear Hz m64
  rintro g Az w67 ⟨j, B2, B9, L2, p, px, c, cx9, hjl, hg2, hL2, hL2n, Hz, m67⟩
  refine wsk fun K11 hK11 => ?_
  refine regS Hz (.move rfl <| .fa 1 rfl U53 <| .lb m67 12 U51 rfl rfl rfl <| .len rfl U51 <| .lss rfl rfl .nil) fun Az Hz => ?_
  refine bc Hz 45 ?_ ?_
  ·
   intro hb73 Hz; try simp only [QQ, Qax] at hb73
   rw [List.length_map] at hb73
   have hj : j < xl.length := by omega
   obtain ⟨⟨xb, xd⟩, hxs⟩ : ∃ e, xl[j]? = some e := ⟨_, List.getElem?_eq_getElem hj⟩
   have hxb := hib2 _ (List.mem_of_getElem? hxs)
   dsimp only at hxb
   refine wct Hz ?_
   refine zss (hK11 _ _ ?_)
   refine wsk fun K12 hK12 => ?_
   refine wp_block ?_
   obtain ⟨b74, o74, vs74, hp74, hR74, ho74, m74⟩ := m67.openR (i := 13) rfl (j) (r := [.v (.int .i64 xb), .ns .u8 xd]) (itD_get hxs) 300 rfl
   revert Hz
   cases hp74; clear m67 ho74
   rcases hR74 with _ | ⟨hd74_0, _ | ⟨hd74_1, _ | _⟩⟩
   obtain rfl := hd74_0.v_out
   clear hd74_0
   obtain ⟨p75, c75, hv75, hc75⟩ := hd74_1.ns_shape; subst hv75
   intro Hz
   have m75 := m74.dat 301 rfl (hd74_1.cast (fun _ h => (free_add rfl h))); clear m74 hd74_1
   obtain ⟨b76, o76, vs76, hp76, hR76, ho76, m76⟩ := m75.openR (i := 13) rfl (j) (r := [.v (.int .i64 xb), .ns .u8 xd]) (itD_get hxs) 302 rfl
   revert Hz
   cases hp76; clear m75 ho76
   rcases hR76 with _ | ⟨hd76_0, _ | ⟨hd76_1, _ | _⟩⟩
   obtain rfl := hd76_0.v_out
   clear hd76_0
   obtain ⟨p77, c77, hv77, hc77⟩ := hd76_1.ns_shape; subst hv77
   intro Hz
   have m77 := m76.dat 303 rfl (hd76_1.cast (fun _ h => (free_add rfl h))); clear m76 hd76_1
   obtain ⟨gs78, os78, vs78, hp78, hl78, hR78, hrg78⟩ := m77.openS (i := 9) rfl (xb.toNat) (r := [.ns .u8 (L2.getD xb.toNat [])]) (bD_get (by omega))
   revert Hz
   cases hp78; clear hl78 hR78 hrg78 vs78
   intro Hz
   have m79 := m77.oz [1, 3, 9, 12, 13, 300, 301, 302, 303]
   refine region_p 14 (B := [(1, _), (3, _), (9, _), (12, _), (13, _), (300, _), (301, _), (302, _), (303, _)]) (m79.to ⟨il, il, il, il, il, il, il, il, il, trivial⟩) m79 (by kernel_rfl) (fun w80 hP80 m80 => ?_); clear m79
   refine goR hP80 [0, 1, 2, 3, 4, 5, 6, 7, 8, 9, 10, 11, 12, 13] [2, 6, 8, 12] 14 0 16383 Hz (m80.to ⟨il, il, il, il, il, il, il, il, il, trivial⟩) (.move rfl <| .fa 1 rfl U53 <| .lb hh 12 U51 rfl rfl rfl <| .move rfl <| .p (fun _ _ h_ => y_idx h_ rfl rfl U51 fct31 (j) rfl (by simpa using hj)) <| .fieldAddrQ 0 rfl U50 rfl (s := 0) (by kernel_rfl) rfl <| .loadC0 hh (i := 300) rfl rfl U3 rfl <| .fa 1 rfl U53 <| .lb hh 12 U51 rfl rfl rfl <| .move rfl <| .p (fun _ _ h_ => y_idx h_ rfl rfl U51 fct31 (j) rfl (by simpa using hj)) <| .fieldAddrQ 1 rfl U50 rfl (s := 0) (by kernel_rfl) rfl <| .loadC1 hh (i := 302) (q := 1) rfl rfl rfl U22 rfl <| .p (fun _ _ h_ => y_idx h_ rfl rfl U41 fct16 (xb.toNat) (Int.toNat_of_nonneg (by omega)).symm (by rw [List.length_map]; omega)) .nil) fun Az Hz => ?_
   refine se 14 ?_
   refine e_storeSD Hz m80 9 rfl (xb.toNat) (r := [.ns .u8 (L2.getD xb.toNat [])]) (bD_get (by omega)) (q := 0) rfl rfl rfl rfl rfl fct16 (m80.rd (i := 303) rfl) fun w95 m95 => ?_
   have hset : (L2.map bD).set xb.toNat ([D.ns .u8 (L2.getD xb.toNat [])].set 0 (D.ns .u8 xd)) = (L2.set xb.toNat xd).map bD := by rw [List.map_set]; rfl
   rw [hset] at m95
   rw [show (List.map bD L2).length = (List.map bD (L2.set xb.toNat xd)).length from by simp] at Hz m95
   refine wpAnyE_done (by kernel_rfl) ?_ _
   refine hK12 _ _ ?_
   replace Hz := Hz.oz [1, 2, 6, 8, 9, 10]
   refine wp_region_lit ?_
   refine goCh Hz (.move rfl <| .inc (j + 1) <| .assign rfl .nil) fun Az Hz => ?_
   refine wpList_nil ?_
   show ∃ n', n' < _ ∧ _
   exact ⟨xl.length - (j + 1), by omega, j + 1, _, _, L2.set xb.toNat xd, _, _, _, _, by omega, rfl, stx_yes hxs hL2 (by omega), by rw [List.length_set]; exact hL2n, Hz.only [1, 2, 6, 8, 9, 10], m95.ren [(1, 1), (3, 3), (9, 9), (12, 12), (13, 13)] (by decide)⟩
  intro hb73 Hz; try simp only [QQ, Qax] at hb73
  rw [List.length_map] at hb73
  revert Hz
  obtain rfl : j = xl.length := by omega
  intro Hz
  rw [List.take_length] at hL2
  refine wcf Hz ?_
  refine wp_exit ?_
  refine hK9 _ _ ?_
  refine wp_region_lit ?_
  refine goCh Hz (.move rfl <| .inc (k + 1) <| .assign rfl .nil) fun Az Hz => ?_
  refine wpList_nil ?_
  show ∃ n', n' < _ ∧ _
  exact ⟨t - (k + 1), by omega, k + 1, _, L2, _, _, by omega, rfl, st_snoc hes hL hL2, hL2n, Hz.only [1, 2, 6, 8], m67.ren [(1, 1), (3, 3), (9, 9)] (by decide)⟩
 intro hb50 Hz; try simp only [QQ, Qax] at hb50
 revert Hz
 obtain rfl : k = t := by omega
 intro Hz
 refine wcf Hz ?_
 refine wp_exit ?_
 refine hK7 _ _ ?_
 refine regS Hz (.move rfl <| .assign rfl <| .assign rfl .nil) fun Az Hz => ?_
 refine rt2 Hz ?_
 have mf106 := m46.freezeS 9 rfl hX
 exact ⟨_, _, by rw [← hL], by rw [← hL]; exact mf106.ren [(3, 3), (9, 9)] (by decide)⟩
end Go.Proofs.Yteglmahnkfgelaa.K
end
section
namespace Go.Proofs.Yteglmahnkfgelaa.K
open Go.ChangeShapes Go.WideShapes Go.ChangeAt Go.RowKit
set_option linter.unusedVariables false
def encF : Nat → Nat → List Int
 | 0, n => [(n : Int)]
 | f + 1, n => if n < 128 then [(n : Int)] else ((n % 128 + 128 : Nat) : Int) :: encF f (n / 128)
def enc (n : Int) : List Int := encF 9 n.toNat
def encs (l : List Int) : List Int := l.flatMap enc
theorem or128 (y : Nat) : bits .or .u8 ((y : Int) % 256) 128 = ((y % 128 + 128 : Nat) : Int) := by
 have h : ∀ z : Fin 256, bits .or .u8 ((z.val : Nat) : Int) 128 = ((z.val % 128 + 128 : Nat) : Int) := by decide +kernel
 have := h ⟨y % 256, by omega⟩
 simp only at this
 rw [show ((y : Int) % 256) = ((y % 256 : Nat) : Int) by omega, this]
 omega
theorem encF_len : ∀ (f n : Nat), (encF f n).length ≤ f + 1 ∧ 1 ≤ (encF f n).length
 | 0, n => by simp [encF]
 | f + 1, n => by
   unfold encF
   have := encF_len f (n / 128)
   split <;> simp <;> omega
theorem enc_len (n : Int) : (enc n).length ≤ 10 ∧ 1 ≤ (enc n).length := encF_len 9 _
theorem encs_len : ∀ l : List Int, (encs l).length ≤ 10 * l.length
 | [] => by simp [encs]
 | a :: l => by
   have h1 := (enc_len a).1
   have h2 := encs_len l
   simp only [encs, List.flatMap_cons, List.length_append, List.length_cons] at h2 ⊢
   omega
theorem encs_snoc (l : List Int) (k : Nat) (h : k < l.length) : encs (l.take (k + 1)) = encs (l.take k) ++ enc (l.getD k 0) := by
 rw [List.take_succ_eq_append_getElem h]
 simp only [encs, List.flatMap_append, List.flatMap_cons, List.flatMap_nil, List.append_nil, List.getD, List.getElem?_eq_getElem h, Option.getD_some]
theorem len_take_le (l : List Int) (k : Nat) : (l.take k).length ≤ k := List.length_take_le _ _
set_option maxRecDepth 100000 in
set_option maxHeartbeats 2000000 in
theorem put_any (v : Value) (ns : List Int) (w : World) (hv : IsNums .u64 w v ns) (hb : ∀ j, j < ns.length → 0 ≤ ns.getD j 0 ∧ ns.getD j 0 ≤ 18446744073709551615) (hl : ns.length ≤ 1000) :
   Calls Try.prog 72 #[v] w fun e w' => ∃ u, e = .returned u ∧ w'.ownsRow w.heap.size 5 1 u (encs ns).length ((encs ns).map (Value.int .u8)) ∧ Below w.heap.size w w' := by
 obtain ⟨p, c, rfl, h⟩ := hv
 have H := Lib.hid h
 have HB := Lib.hid hb
 clear h hb
 go_enter Try.func72, Try.ntmps72
 go_wp2
 go_loopw [3, 8] (fun u i wr => ∃ k : Nat, k ≤ ns.length ∧ i = .int .i64 k ∧ wr.ownsRow w.heap.size 5 1 u (encs (ns.take k)).length ((encs (ns.take k)).map (Value.int .u8)) ∧ Below w.heap.size w wr) (fun _ i _ => ns.length - (intOf i).toNat)
 case atStart => exact ⟨0, Nat.zero_le _, rfl, World.ownsRow_nil _ _ _ _, Below.refl _ _⟩
 case round =>
   obtain ⟨k, hk, rfl, hown, hbel⟩ := hrel
   by_cases hlt : k < ns.length
   · obtain h0 | ⟨b, off, rfl, hblk, hcell⟩ := H.out
     · omega
     have hc : wr.cell? ⟨b, off + k, none⟩ = some (.int .u64 (ns.getD k 0)) := by rw [hbel.cell hblk]; exact hcell k hlt
     obtain ⟨x0, x1⟩ := HB.out k hlt
     obtain ⟨x, hx⟩ : ∃ x : Nat, ns.getD k 0 = (x : Int) := ⟨(ns.getD k 0).toNat, by omega⟩
     rw [hx] at hc x0 x1
     have HX := Lib.hid hx
     clear hcell hx
     have hlen := encs_len (ns.take k)
     have hlt2 := len_take_le ns k
     generalize hN : (encs (ns.take k)).length = N at hown hlen
     have HN := Lib.hid hN
     clear hN
     have hbz := hbel.size
     obtain ⟨wo, rfl⟩ : ∃ wo : World, wo = wr := ⟨_, rfl⟩
     go_wp2
     go_loopw [3, 5] (fun u y wr => ∃ (f n : Nat) (dn : List Int), y = .int .u64 (n : Int) ∧ n < 128 ^ (f + 1) ∧ (n : Int) ≤ 18446744073709551615 ∧ dn ++ encF f n = enc x ∧ wr.ownsRow w.heap.size 5 1 u (N + dn.length) ((encs (ns.take k) ++ dn).map (Value.int .u8)) ∧ Below w.heap.size w wr) (fun _ y _ => (intOf y).toNat)
     case atStart => exact ⟨9, x, [], rfl, by omega, by omega, rfl, by simpa using hown, hbel⟩
     case round =>
       obtain ⟨f, n, dn, rfl, hn1, hn2, hdn, hown2, hbel2⟩ := hrel
       have hdl : dn.length ≤ 10 := by
         have h1 := (enc_len x).1
         rw [← hdn] at h1
         simp at h1; omega
       have hsz2 := hbel2.size
       have HD := Lib.hid hdn
       have HP := Lib.hid hn1
       clear hdn hn1
       have ho := or128 n
       by_cases hge : 128 ≤ n
       · go_wp2_with (at_builtin; refine wpList_app1 rfl _ _ 22 rfl w.heap.size 5 .u8 1 Try.underlying22 info_u8 (by omega) _ _ _ rfl hown2 _ 1 rfl (by omega) hsz2 ?_; intro v' w' hown' hb')
         rcases f with _ | f
         · exfalso; have := HP.out; omega
         go_roundw
         case rel =>
           refine ⟨f, n / 128, dn ++ [((n % 128 + 128 : Nat) : Int)], by simp, ?_, by omega, ?_, ?_, hbel2.trans hb'⟩
           · have := HP.out
             rw [Nat.pow_succ] at this
             exact Nat.div_lt_of_lt_mul (by rw [Nat.mul_comm]; exact this)
           · rw [← HD.out, encF, if_neg (by omega)]; simp
           rw [show N + (dn ++ [((n % 128 + 128 : Nat) : Int)]).length = N + dn.length + 1 by simp; omega]
           simpa using hown'
         case measure => simp [intOf]; omega
       have hen : encF f n = [(n : Int)] := by cases f <;> simp [encF]; omega
       have HE := Lib.hid hen
       clear hen ho
       go_wp2_with (at_builtin; refine wpList_app1 rfl _ _ 22 rfl w.heap.size 5 .u8 1 Try.underlying22 info_u8 (by omega) _ _ _ rfl hown2 _ 1 rfl (by omega) hsz2 ?_; intro v' w' hown' hb')
       have hd2 := HD.out
       rw [HE.out] at hd2
       go_roundw
       case rel =>
         refine ⟨k + 1, by omega, by go_num, ?_, hbel2.trans hb'⟩
         rw [encs_snoc _ _ hlt, HX.out, ← hd2, List.length_append, HN.out, List.length_append]
         rw [show N + (dn.length + [(n : Int)].length) = N + dn.length + 1 by simp; omega]
         simpa using hown'
       case measure => simp [intOf]; omega
   obtain rfl : k = ns.length := by omega
   rw [List.take_length] at hown
   go_wp2
   go_ret
   exact ⟨_, rfl, hown, hbel⟩
end Go.Proofs.Yteglmahnkfgelaa.K
end
section
namespace Go.Proofs.Yteglmahnkfgelaa.K
open Go.ChangeShapes Go.WideShapes Go.ChangeAt Go.RowKit
set_option linter.unusedVariables false
set_option maxRecDepth 100000 in
set_option maxHeartbeats 2000000 in
theorem grow_nil (n : Nat) (w : World) (hn : n ≤ 1000000) :
   Calls Try.prog 71 #[.slice none 0 0, .int .i64 n] w fun e w' => ∃ u, e = .returned u ∧ w'.ownsRow w.heap.size 5 1 u 0 [] ∧ Below w.heap.size w w' := by
 by_cases h0 : n = 0
 · subst h0
   go_enter Try.func71, Try.ntmps71
   go_wp2
   go_ret
   exact ⟨_, rfl, World.ownsRow_nil _ _ _ _, Below.refl _ _⟩
 obtain ⟨i0, hi, hz0, hz1, hz2⟩ := info_parts info_u8
 have hbn : n * i0.bytes ≤ 140737488355328 := by rw [hz2]; omega
 have hrz : ∀ ty, (Builtin.append_ #[22, 3] ty #[.slice none 0 0, .int .i64 (n : Int)]).run Try.prog w =
     .ok (.slice (some ⟨w.heap.size, 0, none⟩) n (grownCap w n 0 5)) (w.drew.alloc (.cells (#[] ++ Builtin.zeroCells (Value.int .u8 0).cells n ++ Builtin.zeroCells (Value.int .u8 0).cells (grownCap w n 0 5 - n)) 5)) := fun ty => by
   have h := Lib.run_append_grow_zeros w 22 3 ty 5 i0 (.int .u8 0) .i64 .i64 Try.underlying22 Try.underlying3 hi hz0 none 0 0 [] (run_firstCells_none w.drew i0.size 0 0 0) n (by omega) (by omega) (by omega) (by omega) (by omega)
     (by rw [Nat.zero_add]; exact growslice_fits (by omega) hbn)
   rw [Nat.zero_add] at h
   exact h
 have hG := grownCap_ge w n 0 5
 have hM := grownCap_le_maxLen w n 0 5 (by unfold maxLen; omega)
 generalize grownCap w n 0 5 = G at hrz hG hM
 have hown : (w.drew.alloc (.cells (#[] ++ Builtin.zeroCells (Value.int .u8 0).cells n ++ Builtin.zeroCells (Value.int .u8 0).cells (G - n)) 5)).ownsRow w.heap.size 5 1 (.slice (some ⟨w.heap.size, 0, none⟩) 0 G) 0 [] := by
   refine World.ownsRow_made w.drew _ G (Nat.le_refl _) hM ?_
   have h1 : (Value.int .u8 0).cells.size = 1 := rfl
   simp [size_zeroCells, h1]
   omega
 have hbel : Below w.heap.size w (w.drew.alloc (.cells (#[] ++ Builtin.zeroCells (Value.int .u8 0).cells n ++ Builtin.zeroCells (Value.int .u8 0).cells (G - n)) 5)) := ((Below.refl _ w).drew).alloc (Nat.le_refl _) _
 generalize (w.drew.alloc (.cells (#[] ++ Builtin.zeroCells (Value.int .u8 0).cells n ++ Builtin.zeroCells (Value.int .u8 0).cells (G - n)) 5)) = W' at hrz hown hbel
 have HO := Lib.hid hown
 have HB := Lib.hid hbel
 clear hown hbel hi hz0 hz1 hz2
 unfold maxLen at hM
 go_enter Try.func71, Try.ntmps71
 go_wp2_with (at_builtin; refine Lib.wpList_append_run _ rfl _ _ _ _ rfl _ _ rfl rfl _ _ (hrz _) ?_)
 all_goals (go_ret; exact ⟨_, rfl, HO.out, HB.out⟩)
def IsLists (w : World) (v : Value) (ls : List (List Int)) : Prop :=
 ∃ a c, v = .slice a ls.length c ∧ (ls.length = 0 ∨ ∃ b off, a = some ⟨b, off, none⟩ ∧ b < w.heap.size ∧ ∀ j, j < ls.length → ∃ u, w.cell? ⟨b, off + j, none⟩ = some u ∧ IsNums .u8 w u (ls.getD j []))
def sumLen (ls : List (List Int)) : Nat := ls.flatten.length
theorem flatten_snoc (ls : List (List Int)) (k : Nat) (h : k < ls.length) : (ls.take (k + 1)).flatten = (ls.take k).flatten ++ ls.getD k [] := by
 rw [List.take_succ_eq_append_getElem h]; simp only [List.flatten_append, List.flatten_cons, List.flatten_nil, List.append_nil, List.getD, List.getElem?_eq_getElem h, Option.getD_some]
theorem sumLen_snoc (ls : List (List Int)) (k : Nat) (h : k < ls.length) : sumLen (ls.take (k + 1)) = sumLen (ls.take k) + (ls.getD k []).length := by
 unfold sumLen; rw [flatten_snoc _ _ h, List.length_append]
theorem sumLen_take (ls : List (List Int)) (k : Nat) : sumLen (ls.take k) ≤ sumLen ls := by
 have : ls.flatten = (ls.take k).flatten ++ (ls.drop k).flatten := by rw [← List.flatten_append, List.take_append_drop]
 unfold sumLen; rw [this]; simp
set_option maxRecDepth 100000 in
set_option maxHeartbeats 2000000 in
theorem join_any (v : Value) (ls : List (List Int)) (w : World) (hv : IsLists w v ls) (hl : ls.length ≤ 1000) (hs : sumLen ls ≤ 1000000) :
   Calls Try.prog 38 #[v] w fun e w' => ∃ u, e = .returned u ∧ w'.ownsRow w.heap.size 5 1 u ls.flatten.length (ls.flatten.map (Value.int .u8)) ∧ Below w.heap.size w w' := by
 obtain ⟨p, c, rfl, h⟩ := hv
 have H := Lib.hid h
 clear h
 go_enter Try.func38, Try.ntmps38
 go_wp2
 go_loop [3, 11] (fun n i => ∃ k : Nat, k ≤ ls.length ∧ i = .int .i64 k ∧ n = .int .i64 (sumLen (ls.take k) : Nat)) (fun _ i => ls.length - (intOf i).toNat)
 case atStart => exact ⟨0, Nat.zero_le _, rfl, rfl⟩
 case round =>
   obtain ⟨k, hk, rfl, rfl⟩ := hrel
   have hst := sumLen_take ls k
   obtain ⟨S0, hS0⟩ : ∃ S, sumLen (ls.take k) = S := ⟨_, rfl⟩
   by_cases hlt : k < ls.length
   · obtain h0 | ⟨b, off, rfl, hblk, hcell⟩ := H.out
     · omega
     obtain ⟨u, hc, pu, cu, rfl, -⟩ := hcell k hlt
     have hsn := sumLen_snoc ls k hlt
     obtain ⟨L, hL⟩ : ∃ L, (ls.getD k []).length = L := ⟨_, rfl⟩
     rw [hL] at hsn hc
     have hst2 := sumLen_take ls (k + 1)
     rw [hsn] at hst2
     rw [hS0] at hst hsn hst2 ⊢
     have HS := Lib.hid hsn
     have H0 := Lib.hid hS0
     have H1 := Lib.hid hL
     clear hsn hS0 hcell hL
     go_wp2
     go_round
     case rel => exact ⟨k + 1, by omega, by go_num, by rw [HS.out, Int.natCast_add]⟩
     case measure => simp [intOf]; omega
   obtain rfl : k = ls.length := by omega
   rw [List.take_length] at hst ⊢
   clear hS0
   go_wp2_with fail
   refine (grow_nil (sumLen ls) w hs).mono ?_
   rintro e w1 ⟨u, rfl, hown, hb⟩
   go_wp2
   go_loopw [6, 24] (fun u i wr => ∃ k : Nat, k ≤ ls.length ∧ i = .int .i64 k ∧ wr.ownsRow w.heap.size 5 1 u (sumLen (ls.take k)) ((ls.take k).flatten.map (Value.int .u8)) ∧ Below w.heap.size w wr) (fun _ i _ => ls.length - (intOf i).toNat)
   case atStart => exact ⟨0, Nat.zero_le _, rfl, by simpa [sumLen] using hown, hb⟩
   case round =>
     obtain ⟨k, hk, rfl, hown, hbel⟩ := hrel
     have hst := sumLen_take ls k
     by_cases hlt : k < ls.length
     · obtain h0 | ⟨b, off, rfl, hblk, hcell⟩ := H.out
       · omega
       obtain ⟨u, hc0, hu⟩ := hcell k hlt
       have hc : wr.cell? ⟨b, off + k, none⟩ = some u := by rw [hbel.cell hblk]; exact hc0
       have hu2 : IsNums .u8 wr u (ls.getD k []) := hu.below hbel (Nat.le_refl _)
       have HS := Lib.hid (sumLen_snoc ls k hlt)
       have HF := Lib.hid (flatten_snoc ls k hlt)
       have hst2 := sumLen_take ls (k + 1)
       rw [HS.out] at hst2
       have hsz := hbel.size
       have HU := Lib.hid hu2
       obtain ⟨S0, hS0⟩ : ∃ S, sumLen (ls.take k) = S := ⟨_, rfl⟩
       rw [hS0] at hst hst2 hown
       have H0 := Lib.hid hS0
       obtain ⟨L, hL⟩ : ∃ L, (ls.getD k []).length = L := ⟨_, rfl⟩
       rw [hL] at hst2
       have H1 := Lib.hid hL
       clear hcell hc0 hu hu2 hS0 hL
       go_wp2_with (at_builtin; refine wpList_appN rfl _ _ 22 rfl w.heap.size 5 .u8 1 Try.underlying22 info_u8 (by omega) _ _ _ rfl hown _ _ rfl HU.out (by rw [H1.out]; omega) hsz ?_; intro v' w' hown' hb')
       go_roundw
       case rel => exact ⟨k + 1, by omega, by go_num, by rw [HS.out, HF.out, H0.out, List.map_append]; exact hown', hbel.trans hb'⟩
       case measure => simp [intOf]; omega
     obtain rfl : k = ls.length := by omega
     rw [List.take_length] at hown
     go_wp2
     go_ret
     exact ⟨_, rfl, hown, hbel⟩
end Go.Proofs.Yteglmahnkfgelaa.K
end
section
namespace Go.Proofs.Yteglmahnkfgelaa.K
open Go.ChangeShapes Go.WideShapes Go.ChangeAt Go.RowKit
set_option linter.unusedVariables false
def NumsLt (N : Nat) (k : IntKind) (w : World) (v : Value) (zs : List Int) : Prop :=
 ∃ a c, v = .slice a zs.length c ∧ zs.length ≤ c ∧ c ≤ 9223372036854775807 ∧ (zs.length = 0 ∨ ∃ b off, a = some ⟨b, off, none⟩ ∧ b < N ∧ ∀ j, j < zs.length → w.cell? ⟨b, off + j, none⟩ = some (.int k (zs.getD j 0)))
theorem NumsLt.below {N : Nat} {k : IntKind} {w w' : World} {v : Value} {zs : List Int} (h : NumsLt N k w v zs) (hb : Below N w w') : NumsLt N k w' v zs := by
 obtain ⟨a, c, rfl, hc1, hc2, h | ⟨b, off, rfl, h1, h2⟩⟩ := h
 · exact ⟨a, c, rfl, hc1, hc2, .inl h⟩
 refine ⟨_, c, rfl, hc1, hc2, .inr ⟨b, off, rfl, h1, fun j hj => ?_⟩⟩
 rw [hb.cell (by show b < N; omega)]
 exact h2 j hj
theorem NumsLt.nums {N : Nat} {k : IntKind} {w : World} {v : Value} {zs : List Int} (h : NumsLt N k w v zs) (hN : N ≤ w.heap.size) : IsNums k w v zs := by
 obtain ⟨a, c, rfl, hc1, hc2, h | ⟨b, off, rfl, h1, h2⟩⟩ := h
 · exact ⟨a, c, rfl, .inl h⟩
 exact ⟨_, c, rfl, .inr ⟨b, off, rfl, by omega, h2⟩⟩
inductive Dec where
 | ok (n : Nat) (k : Nat)
 | err (e : Int)
def dec : Nat → Nat → List Int → Dec
 | _, _, [] => .err 21
 | acc, i, b :: r => if (i = 9 ∧ 1 < b) ∨ (0 < i ∧ b = 0) then .err 20 else
     if b < 128 then .ok (acc + (b % 128).toNat * 2 ^ (7 * i)) (i + 1) else dec (acc + (b % 128).toNat * 2 ^ (7 * i)) (i + 1) r
theorem andNot128 (b : Int) (h0 : 0 ≤ b) (h1 : b ≤ 255) : bits .andNot .u8 b 128 = b % 128 := by
 have h : ∀ z : Fin 256, bits .andNot .u8 ((z.val : Nat) : Int) 128 = ((z.val : Nat) : Int) % 128 := by decide +kernel
 have := h ⟨b.toNat, by omega⟩
 simp only at this
 rw [show ((b.toNat : Nat) : Int) = b by omega] at this
 exact this
theorem or_shift (acc k : Nat) (x : Int) (hacc : acc < 2 ^ (7 * k)) (hk : k ≤ 9) (x0 : 0 ≤ x) (hx : x ≤ 255) (h9 : k = 9 → x ≤ 1) :
   bits .or .u64 (acc : Int) (IntKind.u64.wrap (x % 128 * 2 ^ (7 * k))) = ((acc + (x % 128).toNat * 2 ^ (7 * k) : Nat) : Int) := by
 obtain ⟨y, hy⟩ : ∃ y : Nat, x % 128 = y := ⟨(x % 128).toNat, by omega⟩
 have hy1 : y < 128 := by omega
 have hy9 : k = 9 → y ≤ 1 := fun h => by have := h9 h; omega
 rw [hy]
 have hb : y * 2 ^ (7 * k) < 2 ^ 64 := by
   by_cases e : k = 9
   · subst e
     have := hy9 rfl
     have : y * 2 ^ (7 * 9) ≤ 1 * 2 ^ (7 * 9) := Nat.mul_le_mul_right _ this
     exact Nat.lt_of_le_of_lt this (by decide)
   have h1 : 2 ^ (7 * k) ≤ 2 ^ 56 := Nat.pow_le_pow_right (by decide) (by omega)
   have h2 : y * 2 ^ (7 * k) ≤ 127 * 2 ^ 56 := Nat.mul_le_mul (by omega) h1
   exact Nat.lt_of_le_of_lt h2 (by decide)
 have ha : acc < 2 ^ 64 := Nat.lt_of_lt_of_le hacc (Nat.pow_le_pow_right (by decide) (by omega))
 have hcast : ((y : Int) * 2 ^ (7 * k)) = ((y * 2 ^ (7 * k) : Nat) : Int) := by simp
 have hw : ∀ n : Int, 0 ≤ n → n < 2 ^ 64 → IntKind.u64.wrap n = n := fun n h0 h1 => by rw [IntKind.wrap_u64]; omega
 rw [hcast, hw _ (by omega) (by have : ((y * 2 ^ (7 * k) : Nat) : Int) < ((2 ^ 64 : Nat) : Int) := Int.ofNat_lt.2 hb; simpa using this)]
 have h := (bits_nat .u64 64 (by decide) hw acc (y * 2 ^ (7 * k)) ha hb).2
 rw [h]
 have h2 : 2 ^ (7 * k) * y + acc = 2 ^ (7 * k) * y ||| acc := Nat.two_pow_add_eq_or_of_lt hacc y
 rw [Nat.or_comm, Nat.mul_comm y, ← h2, Int.toNat_natCast, Nat.mul_comm, Nat.add_comm]
theorem acc_bound (acc k : Nat) (x : Int) (hacc : acc < 2 ^ (7 * k)) : acc + (x % 128).toNat * 2 ^ (7 * k) < 2 ^ (7 * (k + 1)) := by
 have h1 : (x % 128).toNat ≤ 127 := by omega
 have h2 : (x % 128).toNat * 2 ^ (7 * k) ≤ 127 * 2 ^ (7 * k) := Nat.mul_le_mul_right _ h1
 rw [show 7 * (k + 1) = 7 * k + 7 by omega, Nat.pow_add]
 omega
def IsReader (w : World) (B : Nat) (v : Value) (bs : List Int) (e : Int) : Prop :=
 w.cell? ⟨B, 0, none⟩ = some v ∧ w.cell? ⟨B, 1, none⟩ = some (.int .i64 e) ∧ w.frozen? ⟨B, 0, none⟩ = false ∧ w.frozen? ⟨B, 1, none⟩ = false ∧ NumsLt B .u8 w v bs ∧ ∀ x ∈ bs, 0 ≤ x ∧ x ≤ 255
theorem reader_shift {w : World} {B b off c k c' : Nat} {bs : List Int} {e : Int} {v : Value} {a' : Option Addr} (h0 : w.cell? ⟨B, 0, none⟩ = some v) (h1 : w.cell? ⟨B, 1, none⟩ = some (.int .i64 e)) (h2 : w.frozen? ⟨B, 0, none⟩ = false) (h3 : w.frozen? ⟨B, 1, none⟩ = false)
   (hblk : b < B) (hcell : ∀ j, j < bs.length → w.cell? ⟨b, off + j, none⟩ = some (.int .u8 (bs.getD j 0))) (hbs : ∀ x ∈ bs, 0 ≤ x ∧ x ≤ 255) (hk : k ≤ bs.length) (hc1 : bs.length - k ≤ c') (hc2 : c' ≤ 9223372036854775807) (ha : bs.length - k = 0 ∨ a' = some ⟨b, off + k, none⟩) :
   IsReader (w.setCell ⟨B, 0, none⟩ (.slice a' (bs.length - k) c')) B (.slice a' (bs.length - k) c') (bs.drop k) e := by
 refine ⟨World.cell?_setCell_same _ _ _ h0, ?_, by rw [World.frozen?_setCell]; exact h2, by rw [World.frozen?_setCell]; exact h3, ?_, fun x hx => hbs x (List.mem_of_mem_drop hx)⟩
 · rw [World.cell?_setCell_other _ _ _ _ (by simp)]; exact h1
 have hl : (bs.drop k).length = bs.length - k := by simp
 refine NumsLt.below (w := w) ⟨a', c', by rw [hl], by omega, hc2, ?_⟩ ((Below.refl B w).setCell (p := ⟨B, 0, none⟩) (Nat.le_refl _) _)
 rcases ha with ha | ha
 · left; omega
 right
 refine ⟨b, off + k, ha, hblk, fun j hj => ?_⟩
 have := hcell (k + j) (by omega)
 rw [show off + k + j = off + (k + j) by omega, this]
 simp [List.getD]
def decPost (w : World) (B : Nat) (bs : List Int) (e : Int) : Dec → Ending → World → Prop
 | .ok n k, en, w' => en = .returned (.tuple #[.int .u64 n, .int .i64 0]) ∧ ∃ v', w' = w.setCell ⟨B, 0, none⟩ v' ∧ IsReader w' B v' (bs.drop k) e
 | .err er, en, w' => en = .returned (.tuple #[.int .u64 0, .int .i64 er]) ∧ w' = w
end Go.Proofs.Yteglmahnkfgelaa.K
end
section
namespace Go.Proofs.Yteglmahnkfgelaa.K
open Go.ChangeShapes Go.WideShapes Go.ChangeAt Go.RowKit
set_option linter.unusedVariables false
def Only (B : Nat) (w w' : World) : Prop := w.grownBy w' (some B)
theorem Only.refl (B : Nat) (w : World) : Only B w w := ⟨rfl, rfl, rfl, Nat.le_refl _, fun _ _ _ => rfl⟩
theorem Only.trans {B : Nat} {a b c : World} (h : Only B a b) (k : Only B b c) : Only B a c :=
 ⟨k.os.trans h.os, k.tape.trans h.tape, k.output.trans h.output, Nat.le_trans h.size k.size, fun i hi hne => (k.block i (Nat.lt_of_lt_of_le hi h.size) hne).trans (h.block i hi hne)⟩
theorem Only.set (B : Nat) (w : World) (o : Nat) (v : Value) : Only B w (w.setCell ⟨B, o, none⟩ v) :=
 ⟨rfl, rfl, rfl, by simp [World.setCell], fun k _ hne => Below.heap_setCell _ _ _ _ (fun e => hne (by rw [e]))⟩
theorem Only.ofBelow {B : Nat} {w w' : World} (h : Below w.heap.size w w') : Only B w w' := ⟨h.os, h.tape, h.output, h.size, fun k hk _ => h.block k hk⟩
theorem Only.below {B N : Nat} {w w' : World} (h : Only B w w') (hB : N ≤ B) (hN : N ≤ w.heap.size) : Below N w w' :=
 ⟨h.os, h.tape, h.output, h.size, fun k hk => h.block k (by omega) (fun e => by cases e; omega)⟩
theorem Only.drew (B : Nat) (w : World) : Only B w w.drew := ⟨rfl, rfl, rfl, Nat.le_refl _, fun _ _ _ => rfl⟩
theorem IsReader.lt {w : World} {B : Nat} {v : Value} {bs : List Int} {e : Int} (h : IsReader w B v bs e) : B < w.heap.size := World.block_lt_of_cell? w ⟨B, 0, none⟩ h.1
theorem IsReader.kept {w w' : World} {B B2 : Nat} {v : Value} {bs : List Int} {e : Int} (h : IsReader w B v bs e) (ho : Only B2 w w') (hB : B < B2) : IsReader w' B v bs e := by
 have hlt := h.lt
 obtain ⟨h0, h1, h2, h3, h4, h5⟩ := h
 have hb : w'.heap[B]? = w.heap[B]? := ho.block B hlt (fun e => by cases e; omega)
 exact ⟨by rw [World.cell?_of_block (w := w) hb]; exact h0, by rw [World.cell?_of_block (w := w) hb]; exact h1, by rw [World.frozen?_of_block (w := w) hb]; exact h2, by rw [World.frozen?_of_block (w := w) hb]; exact h3, h4.below (ho.below (by omega) (by omega)), h5⟩
theorem IsReader.later {w w' : World} {B : Nat} {v : Value} {bs : List Int} {e : Int} (h : IsReader w B v bs e) (hb : Below w.heap.size w w') : IsReader w' B v bs e := by
 have hlt := h.lt
 obtain ⟨h0, h1, h2, h3, h4, h5⟩ := h
 exact ⟨by rw [hb.cell (by exact hlt)]; exact h0, by rw [hb.cell (by exact hlt)]; exact h1, by rw [hb.frozen (by exact hlt)]; exact h2, by rw [hb.frozen (by exact hlt)]; exact h3, h4.below (hb.mono (by omega)), h5⟩
theorem dec_err : ∀ (bs : List Int) (acc i : Nat) (er : Int), dec acc i bs = .err er → er = 20 ∨ er = 21
 | [], acc, i, er, h => by rw [dec] at h; cases h; exact .inr rfl
 | b :: r, acc, i, er, h => by
   rw [dec] at h
   split at h
   · cases h; exact .inl rfl
   split at h
   · cases h
   exact dec_err r _ _ er h
def numR (bs : List Int) (e most : Int) : Int × List Int × Int :=
 if e = 0 then match dec 0 0 bs with
   | .err er => (0, [], er)
   | .ok n k => if most < n then (0, [], 22) else (n, bs.drop k, 0)
 else (0, bs, e)
end Go.Proofs.Yteglmahnkfgelaa.K
end
section
namespace Go.Proofs.Yteglmahnkfgelaa.K
open Go.ChangeShapes Go.WideShapes Go.ChangeAt Go.RowKit
set_option linter.unusedVariables false
def lumpR (bs : List Int) (e most : Int) : List Int × List Int × Int :=
 if (numR bs e (max most 0)).2.2 = 0 then
   if ((numR bs e (max most 0)).2.1.length : Int) < (numR bs e (max most 0)).1 then ([], [], 21)
   else ((numR bs e (max most 0)).2.1.take (numR bs e (max most 0)).1.toNat, (numR bs e (max most 0)).2.1.drop (numR bs e (max most 0)).1.toNat, 0)
 else ([], (numR bs e (max most 0)).2.1, (numR bs e (max most 0)).2.2)
theorem IsLists.lit (w : World) (us : List Value) (ls : List (List Int)) (N : Nat) (T : TypeId) (n c : Nat) (hN : N = w.heap.size) (hn : n = us.length) (hl : us.length = ls.length) (h : ∀ j, j < us.length → IsNums .u8 w (us.getD j default) (ls.getD j [])) :
   IsLists (w.alloc (.cells us.toArray T)) (.slice (some ⟨N, 0, none⟩) n c) ls := by
 subst hN; subst hn
 refine ⟨_, c, by rw [hl], .inr ⟨_, 0, rfl, by simp, fun j hj => ?_⟩⟩
 refine ⟨us.getD j default, ?_, (h j (by omega)).alloc _⟩
 unfold World.cell? World.alloc
 simp [List.getD, show j < us.length by omega]
theorem IsLists.one (w : World) (u : Value) (bs : List Int) (N : Nat) (T : TypeId) (hN : N = w.heap.size) (h : IsNums .u8 w u bs) : IsLists (w.alloc (.cells #[u] T)) (.slice (some ⟨N, 0, none⟩) 1 1) [bs] :=
 IsLists.lit w [u] [bs] N T 1 1 hN rfl rfl (fun j hj => by
   rcases j with _ | j
   · exact h
   simp at hj)
theorem NumsLt.ofOwn {k : IntKind} {w : World} {B : Nat} {e : TypeId} {v : Value} {n : Nat} {zs : List Int} (h : w.ownsRow B e 1 v n (zs.map (Value.int k))) : NumsLt w.heap.size k w v zs := by
 have hn : n = zs.length := by have := h.1; simpa using this.symm
 subst hn
 rcases h.2 with ⟨rfl, h0⟩ | ⟨g, cap, cur, rfl, hg, hb, h1, h2, h3, h4⟩
 · obtain rfl := List.length_eq_zero_iff.1 h0
   exact ⟨none, 0, rfl, Nat.le_refl _, by omega, .inl rfl⟩
 refine ⟨_, cap, rfl, h1, h2, .inr ⟨g, 0, rfl, (Array.getElem?_eq_some_iff.1 hb).1, fun j hj => ?_⟩⟩
 have := h.cellAt j (by omega)
 rw [Nat.zero_add, this]
 simp [hj, List.getD]
theorem NumsLt.take {N : Nat} {k : IntKind} {w : World} {a : Option Addr} {len c : Nat} {zs : List Int} (h : NumsLt N k w (.slice a len c) zs) (n : Nat) (hn : n ≤ zs.length) : NumsLt N k w (.slice a n c) (zs.take n) := by
 obtain ⟨a', c', e, h1, h2, h3⟩ := h
 injection e with e1 e2 e3
 subst e1; subst e3
 refine ⟨a, c, by simp [hn], by simp; omega, h2, ?_⟩
 rcases h3 with h3 | ⟨b, off, rfl, hb, hc⟩
 · left; simp; omega
 right
 refine ⟨b, off, rfl, hb, fun j hj => ?_⟩
 simp at hj
 rw [hc j (by omega)]
 simp only [List.getD, List.getElem?_take]
 rw [if_pos (by omega)]
theorem IsReader.set {w : World} {B : Nat} {a : Option Addr} {len c n : Nat} {bs : List Int} {e : Int} (h : IsReader w B (.slice a len c) bs e) (hn : n ≤ bs.length) (a' : Option Addr) (c' : Nat) (hc1 : bs.length - n ≤ c') (hc2 : c' ≤ 9223372036854775807)
   (ha : ∀ b off, a = some ⟨b, off, none⟩ → bs.length - n = 0 ∨ a' = some ⟨b, off + n, none⟩) : IsReader (w.setCell ⟨B, 0, none⟩ (.slice a' (bs.length - n) c')) B (.slice a' (bs.length - n) c') (bs.drop n) e := by
 obtain ⟨h0, h1, h2, h3, ⟨p, c0, ep, hc3, hc4, hcells⟩, h5⟩ := h
 injection ep with e1 e2 e3
 subst e1; subst e3
 rcases hcells with hz | ⟨b, off, rfl, hblk, hcell⟩
 · have hn0 : bs = [] := List.length_eq_zero_iff.1 hz
   subst hn0
   refine ⟨World.cell?_setCell_same _ _ _ h0, ?_, by rw [World.frozen?_setCell]; exact h2, by rw [World.frozen?_setCell]; exact h3, ⟨a', c', by simp, by simp, hc2, .inl (by simp)⟩, by simp⟩
   rw [World.cell?_setCell_other _ _ _ _ (by simp)]; exact h1
 exact reader_shift (c := c) h0 h1 h2 h3 hblk hcell h5 hn hc1 hc2 (ha b off rfl)
def LumpPost (w : World) (B : Nat) (r : List Int × List Int × Int) (en : Ending) (w' : World) : Prop :=
 ∃ u, en = .returned u ∧ w'.ownsRow w.heap.size 5 1 u r.1.length (r.1.map (Value.int .u8)) ∧ ∃ v', IsReader w' B v' r.2.1 r.2.2 ∧ Only B w w'
end Go.Proofs.Yteglmahnkfgelaa.K
end
section
namespace Go.Proofs.Yteglmahnkfgelaa.K
open Go.ChangeShapes Go.WideShapes Go.ChangeAt Go.RowKit
set_option linter.unusedVariables false
def Low (N : Nat) (w0 : World) : World → Prop := fun W => Below N w0 W
section
variable {P : Program} {ops : Array Oper} {Q : Exit → Act → World → Prop} {md : Region.Mode} {w0 : World} {N : Nat}
end
end Go.Proofs.Yteglmahnkfgelaa.K
end
section
namespace Go.Proofs.Yteglmahnkfgelaa.K
open Go.ChangeShapes Go.WideShapes Go.ChangeAt Go.RowKit
set_option linter.unusedVariables false
theorem enc_dec (rest : List Int) : ∀ (f n i acc : Nat), i + f = 9 → n * 2 ^ (7 * i) < 2 ^ 64 → (0 < i → n ≠ 0) → dec acc i (encF f n ++ rest) = .ok (acc + n * 2 ^ (7 * i)) (i + (encF f n).length)
 | 0, n, i, acc, hi, hb, hz => by
   obtain rfl : i = 9 := by omega
   have hn : n ≤ 1 := by omega
   have h0 := hz (by omega)
   obtain rfl : n = 1 := by omega
   simp [encF, dec]
 | f + 1, n, i, acc, hi, hb, hz => by
   unfold encF
   by_cases h : n < 128
   · rw [if_pos h]
     have hc : ¬ ((i = 9 ∧ (1 : Int) < (n : Int)) ∨ (0 < i ∧ (n : Int) = 0)) := by omega
     simp only [List.cons_append, List.nil_append, dec]
     rw [if_neg hc, if_pos (by omega)]
     rw [show ((n : Int) % 128).toNat = n by omega]
     simp
   rw [if_neg h]
   have hc : ¬ ((i = 9 ∧ (1 : Int) < ((n % 128 + 128 : Nat) : Int)) ∨ (0 < i ∧ ((n % 128 + 128 : Nat) : Int) = 0)) := by omega
   simp only [List.cons_append, dec]
   rw [if_neg hc, if_neg (by omega)]
   have hpow : (2 : Nat) ^ (7 * (i + 1)) = 128 * 2 ^ (7 * i) := by rw [show 7 * (i + 1) = 7 + 7 * i by omega, Nat.pow_add]
   have hdm : 128 * (n / 128) + n % 128 = n := Nat.div_add_mod n 128
   have hmul : n / 128 * 2 ^ (7 * (i + 1)) = 128 * (n / 128) * 2 ^ (7 * i) := by rw [hpow]; ac_rfl
   have hle : 128 * (n / 128) * 2 ^ (7 * i) ≤ n * 2 ^ (7 * i) := Nat.mul_le_mul_right _ (by omega)
   rw [enc_dec rest f (n / 128) (i + 1) _ (by omega) (by omega) (by omega)]
   rw [show (((n % 128 + 128 : Nat) : Int) % 128).toNat = n % 128 by omega, hmul]
   have hsum : n * 2 ^ (7 * i) = 128 * (n / 128) * 2 ^ (7 * i) + n % 128 * 2 ^ (7 * i) := by rw [← Nat.add_mul, hdm]
   rw [hsum]
   simp
   constructor <;> omega
theorem dec_enc (x : Int) (h0 : 0 ≤ x) (h1 : x ≤ 18446744073709551615) (rest : List Int) : dec 0 0 (enc x ++ rest) = .ok x.toNat (enc x).length := by
 have := enc_dec rest 9 x.toNat 0 0 (by omega) (by simp; omega) (by omega)
 simpa [enc] using this
theorem enc_bytes (x : Int) (h1 : x ≤ 18446744073709551615) : ∀ b ∈ enc x, 0 ≤ b ∧ b ≤ 255 := by
 have : ∀ (f n : Nat), n < 128 ^ (f + 1) → ∀ b ∈ encF f n, 0 ≤ b ∧ b ≤ 255 := by
   intro f
   induction f with
   | zero => intro n hn b hb; simp [encF] at hb hn; omega
   | succ f ih =>
     intro n hn b hb
     unfold encF at hb
     split at hb
     · simp at hb; omega
     rcases List.mem_cons.1 hb with rfl | hb
     · omega
     refine ih (n / 128) ?_ b hb
     rw [Nat.pow_succ] at hn
     exact Nat.div_lt_of_lt_mul (by rw [Nat.mul_comm]; exact hn)
 refine this 9 x.toNat ?_
 have : (128 : Nat) ^ 10 = 1180591620717411303424 := by decide
 omega
theorem numR_ok (x : Int) (h0 : 0 ≤ x) (h1 : x ≤ 18446744073709551615) (rest : List Int) (most : Int) (hm : x ≤ most) : numR (enc x ++ rest) 0 most = (x, rest, 0) := by
 unfold numR
 rw [if_pos rfl, dec_enc x h0 h1 rest]
 simp only []
 rw [if_neg (by omega)]
 simp; omega
theorem numR_bad (bs : List Int) (e most : Int) (h : e ≠ 0) : numR bs e most = (0, bs, e) := by rw [numR, if_neg h]
theorem IsNums.drew {k : IntKind} {w : World} {v : Value} {zs : List Int} (h : IsNums k w v zs) : IsNums k w.drew v zs := h.below (Below.refl w.heap.size w).drew (Nat.le_refl _)
theorem IsLists.nil (w : World) (a : Option Addr) (c : Nat) : IsLists w (.slice a 0 c) [] := ⟨a, c, rfl, .inl rfl⟩
theorem IsNums.after {k : IntKind} {w w' : World} {v : Value} {zs : List Int} {o : Obj} (h : IsNums k w v zs) (hb : Below (w.alloc o).heap.size (w.alloc o) w') : IsNums k w' v zs := (h.alloc o).below hb (Nat.le_refl _)
theorem str_beq {a b : List Int} (ha : ∀ x ∈ a, 0 ≤ x ∧ x ≤ 255) (hb : ∀ x ∈ b, 0 ≤ x ∧ x ≤ 255) : ((strOfNums a).toList == (strOfNums b).toList) = decide (a = b) := by
 rw [Bool.eq_iff_iff]
 simp only [beq_iff_eq, decide_eq_true_eq]
 constructor
 · intro h
   refine str_inj ha hb (bytes_inj ?_)
   rw [← ByteArray.toList_eq, ← ByteArray.toList_eq]
   exact h
 rintro rfl; rfl
set_option maxRecDepth 100000 in
theorem equal_any (w : World) (u v : Value) (xs ys : List Int) (hu : IsNums .u8 w u xs) (hv : IsNums .u8 w v ys) (hx : ∀ x ∈ xs, 0 ≤ x ∧ x ≤ 255) (hy : ∀ x ∈ ys, 0 ≤ x ∧ x ≤ 255) :
   Calls Try.prog 48 #[u, v] w fun e w' => e = .returned (.bool (decide (xs = ys))) ∧ w' = w := by
 obtain ⟨p1, c1, rfl, -⟩ := id hu
 obtain ⟨p2, c2, rfl, -⟩ := id hv
 have h1 := conv_str (P := Try.prog) hu 22 5 Try.underlying22 Try.underlying5 9 Try.underlying9
 have h2 := conv_str (P := Try.prog) hv 22 5 Try.underlying22 Try.underlying5 9 Try.underlying9
 have HD := Lib.hid (str_beq hx hy)
 clear hu hv hx hy
 go_enter Try.func48, Try.ntmps48
 go_wp2
 go_ret
 exact ⟨ret_bool HD.out, rfl⟩
end Go.Proofs.Yteglmahnkfgelaa.K
end
section
namespace Go.Proofs.Yteglmahnkfgelaa.K
open Go.ChangeShapes Go.WideShapes Go.ChangeAt Go.RowKit
set_option linter.unusedVariables false
section
variable {P : Program} {a : Act} {w : World} {K : Act → World → Prop} {Q : Exit → Act → World → Prop}
end
theorem NumsOff.ofOwn {bad : Nat → Prop} {w : World} {base : Nat} {e : TypeId} {v : Value} {n : Nat} {zs : List Int} (h : w.ownsRow base e 1 v n (zs.map (Value.int .u8))) (hb : ∀ k, base ≤ k → k < w.heap.size → ¬ bad k) : NumsOff bad w v zs := by
 have hn : n = zs.length := by have := h.1; simpa using this.symm
 subst hn
 rcases h.2 with ⟨rfl, h0⟩ | ⟨g, cap, cur, rfl, hg, hbk, h1, h2, h3, h4⟩
 · obtain rfl := List.length_eq_zero_iff.1 h0; exact NumsOff.nil _ _ none 0
 have hlt := (Array.getElem?_eq_some_iff.1 hbk).1
 refine ⟨_, cap, rfl, .inr ⟨g, 0, rfl, hlt, hb g hg hlt, fun j hj => ?_⟩⟩
 have := h.cellAt j (by omega)
 rw [Nat.zero_add, this]
 simp [hj, List.getD]
end Go.Proofs.Yteglmahnkfgelaa.K
end
section
namespace Go.Proofs.Yteglmahnkfgelaa.K
open Go.ChangeShapes Go.WideShapes Go.ChangeAt Go.RowKit
set_option linter.unusedVariables false
section
variable {P : Program} {ops : Array Oper} {rest : List Oper} {a : Act} {w : World} {Q : Exit → Act → World → Prop}
end
theorem Only.keep {B : Nat} {a b : World} (h : Only B a b) : Keep (fun k => k = B) a b := ⟨h.os, h.tape, h.output, h.size, fun i hi hn => h.block i hi (fun e => hn (show i = B from (by injection e)))⟩
theorem numR_le (bs : List Int) (e most : Int) (m0 : 0 ≤ most) : 0 ≤ (numR bs e most).1 ∧ (numR bs e most).1 ≤ most := by
 unfold numR
 split
 · cases dec 0 0 bs with
   | err er => exact ⟨Int.le_refl _, m0⟩
   | ok n k =>
     show 0 ≤ (if most < (n : Int) then ((0 : Int), ([] : List Int), (22 : Int)) else ((n : Int), bs.drop k, 0)).1 ∧ (if most < (n : Int) then ((0 : Int), ([] : List Int), (22 : Int)) else ((n : Int), bs.drop k, 0)).1 ≤ most
     split
     · exact ⟨Int.le_refl _, m0⟩
     show 0 ≤ (n : Int) ∧ (n : Int) ≤ most
     omega
 exact ⟨Int.le_refl _, m0⟩
theorem numR_len (bs : List Int) (e most : Int) : (numR bs e most).2.1.length ≤ bs.length := by
 unfold numR
 split
 · cases dec 0 0 bs with
   | err er => exact Nat.zero_le _
   | ok n k =>
     show (if most < (n : Int) then ((0 : Int), ([] : List Int), (22 : Int)) else ((n : Int), bs.drop k, 0)).2.1.length ≤ _
     split
     · exact Nat.zero_le _
     show (bs.drop k).length ≤ _
     rw [List.length_drop]; omega
 exact Nat.le_refl _
theorem numR_sub (bs : List Int) (e most : Int) : ∀ x ∈ (numR bs e most).2.1, x ∈ bs := by
 unfold numR
 split
 · cases dec 0 0 bs with
   | err er => intro x hx; cases hx
   | ok n k =>
     show ∀ x ∈ (if most < (n : Int) then ((0 : Int), ([] : List Int), (22 : Int)) else ((n : Int), bs.drop k, 0)).2.1, _
     split
     · intro x hx; cases hx
     intro x hx; exact List.mem_of_mem_drop hx
 intro x hx; exact hx
end Go.Proofs.Yteglmahnkfgelaa.K
end
section
namespace Go.Proofs.Yteglmahnkfgelaa.K
open Go.ChangeShapes Go.WideShapes Go.ChangeAt Go.RowKit
set_option linter.unusedVariables false
set_option linter.unusedSimpArgs false
theorem numR_err {bs : List Int} {er : Int} (most : Int) (h : dec 0 0 bs = .err er) : numR bs 0 most = (0, [], er) := by rw [numR, if_pos rfl, h]
theorem numR_val {bs : List Int} {n k : Nat} (most : Int) (h : dec 0 0 bs = .ok n k) : numR bs 0 most = if most < (n : Int) then (0, [], 22) else ((n : Int), bs.drop k, 0) := by rw [numR, if_pos rfl, h]
end Go.Proofs.Yteglmahnkfgelaa.K
end
section
namespace Go.Proofs.Yteglmahnkfgelaa.K
open Go.ChangeShapes Go.WideShapes Go.ChangeAt Go.RowKit
set_option linter.unusedVariables false
set_option linter.unusedSimpArgs false
theorem encs_one (x : Int) : encs [x] = enc x := by simp [encs]
theorem encs_cons (x : Int) (l : List Int) : encs (x :: l) = enc x ++ encs l := by simp [encs]
theorem one63 {x : Int} (h : 0 ≤ x ∧ x ≤ 9223372036854775807) : ∀ k, k < [x].length → 0 ≤ [x].getD k 0 ∧ [x].getD k 0 ≤ 9223372036854775807 := fun k hk => by
 obtain rfl : k = 0 := by simpa using hk
 simpa using h
def itemE (e : Int × List Int) : List Int := enc e.1 ++ (enc e.2.length ++ e.2)
def itemsE (es : List (Int × List Int)) : List Int := es.flatMap itemE
set_option maxRecDepth 100000
set_option maxHeartbeats 4000000
end Go.Proofs.Yteglmahnkfgelaa.K
end
section
namespace Go.Proofs.Yteglmahnkfgelaa.K
open Go.ChangeShapes Go.WideShapes Go.ChangeAt Go.RowKit
set_option linter.unusedVariables false
set_option linter.unusedSimpArgs false
theorem shx {k : Nat} (hk : k ≤ 9) : min (7 * (k : Int)).toNat IntKind.u64.bits = 7 * k := by
 have : IntKind.u64.bits = 64 := rfl
 omega
theorem getD_bd {b : List Int} {k : Nat} (h : BytesL b) (hk : k < b.length) : 0 ≤ b.getD k 0 ∧ b.getD k 0 ≤ 255 := by
 rw [List.getD, List.getElem?_eq_getElem hk]; exact h _ (List.getElem_mem hk)
theorem dec_at {b : List Int} {u k : Nat} (hk : k < b.length) : dec u k (b.drop k) = if (k = 9 ∧ 1 < b.getD k 0) ∨ (0 < k ∧ b.getD k 0 = 0) then .err 20 else if b.getD k 0 < 128 then .ok (u + (b.getD k 0 % 128).toNat * 2 ^ (7 * k)) (k + 1) else dec (u + (b.getD k 0 % 128).toNat * 2 ^ (7 * k)) (k + 1) (b.drop (k + 1)) := by
 rw [List.drop_eq_getElem_cons hk, dec, List.getD, List.getElem?_eq_getElem hk]; rfl
set_option maxRecDepth 100000
set_option maxHeartbeats 4000000
end Go.Proofs.Yteglmahnkfgelaa.K
end
section
namespace Go.Proofs.Yteglmahnkfgelaa.K
open Go.ChangeShapes Go.WideShapes Go.ChangeAt Go.RowKit
set_option linter.unusedVariables false
set_option linter.unusedSimpArgs false
theorem lists_rd {S : Nat → Prop} {w : World} {v : Value} {ls : List (List Int)} (h : Rd S w v (.l 1 (ls.map bD))) : IsLists w v ls := by
 rcases h.l_out with h0 | ⟨b, off, c, f, rfl, h1, h2, h3, h4, h5⟩
 · have e : ls = [] := List.map_eq_nil_iff.1 h0
   subst e
   obtain ⟨p, c, rfl, -⟩ := h.l_shape
   exact ⟨p, c, rfl, .inl rfl⟩
 refine ⟨_, c, by rw [List.length_map], .inr ⟨b, off, rfl, h2, fun j hj => ?_⟩⟩
 have hj' : j < (ls.map bD).length := by rw [List.length_map]; exact hj
 have h6 := (h4 j 0 hj' (by decide)).1
 refine ⟨_, by rw [show off + j = off + j * 1 + 0 by omega]; exact h6, ?_⟩
 have h7 := h5 j 0 (bD (ls.getD j [])) (.ns .u8 (ls.getD j [])) (by rw [List.getElem?_map, List.getD, List.getElem?_eq_getElem hj]; rfl) rfl
 exact h7.ns_out.nums
theorem pput_x (v : Value) (xs : List Int) (w0 : World) (h : Rd (fun _ => True) w0 v (.ns .u64 xs)) (hl : xs.length ≤ 1000) (hxb : ∀ k, k < xs.length → 0 ≤ xs.getD k 0 ∧ xs.getD k 0 ≤ 9223372036854775807) :
   Calls Try.prog 72 #[v] w0 fun e w' => ∃ p c, e = .returned (.slice p (encs xs).length c) ∧ w'.ownsRow w0.heap.size 5 1 (.slice p (encs xs).length c) (encs xs).length ((encs xs).map (Value.int .u8)) ∧ Below w0.heap.size w0 w' := by
 refine (put_any v xs w0 h.ns_out.nums (fun j hj => ⟨(hxb j hj).1, by have := (hxb j hj).2; omega⟩) hl).mono fun e w' h => ?_
 obtain ⟨u, rfl, hown, hbel⟩ := h
 obtain ⟨p, c, rfl⟩ := ownsRow_shape hown
 exact ⟨p, c, rfl, hown, hbel⟩
theorem pjoin_x (v : Value) (ls : List (List Int)) (w0 : World) (h : Rd (fun _ => True) w0 v (.l 1 (ls.map bD))) (hl : ls.length ≤ 1000) (hs : sumLen ls ≤ 1000000) :
   Calls Try.prog 38 #[v] w0 fun e w' => ∃ p c, e = .returned (.slice p (ls.flatten).length c) ∧ w'.ownsRow w0.heap.size 5 1 (.slice p (ls.flatten).length c) (ls.flatten).length ((ls.flatten).map (Value.int .u8)) ∧ Below w0.heap.size w0 w' := by
 refine (join_any v ls w0 (lists_rd h) hl hs).mono fun e w' h => ?_
 obtain ⟨u, rfl, hown, hbel⟩ := h
 obtain ⟨p, c, rfl⟩ := ownsRow_shape hown
 exact ⟨p, c, rfl, hown, hbel⟩
end Go.Proofs.Yteglmahnkfgelaa.K
end
section
namespace Go.Proofs.Yteglmahnkfgelaa.K
open Go.ChangeShapes Go.WideShapes Go.ChangeAt Go.RowKit
set_option linter.unusedVariables false
set_option linter.unusedSimpArgs false
set_option maxRecDepth 100000
set_option maxHeartbeats 4000000
theorem pnums_x (xs : List Int) (q : Option Addr) (cq : Nat) (w0 : World) (h0 : Rd (fun _ => True) w0 (.slice q xs.length cq) (.ns .i64 xs)) (hl : xs.length ≤ 1000000) (hxb : ∀ k, k < xs.length → 0 ≤ xs.getD k 0 ∧ xs.getD k 0 ≤ 9223372036854775807) :
   Calls Try.prog 39 #[.slice q xs.length cq] w0 fun e w' => ∃ (p : Option Addr) (c : Nat), e = .returned (.slice p (encs xs).length c) ∧ w'.ownsRow w0.heap.size 5 1 (.slice p (encs xs).length c) (encs xs).length ((encs xs).map (Value.int .u8)) ∧ Below w0.heap.size w0 w' := by
 refine ent1 Try.func39 rfl Try.ntmps39 fun Az Hz => ?_
 have m0 := MemOk.start (fun _ => False) w0
 refine regS Hz (.assign rfl .nil) fun Az Hz => ?_
 refine regS Hz (.assign rfl .nil) fun Az Hz => ?_
 refine wsk fun K0 hK0 => ?_
 refine regS Hz (.move rfl <| .len rfl U24 <| .move rfl .nil) fun Az Hz => ?_
 refine wp_block ?_
 refine wp_loop_ghost (fun g a w => ∃ (k : Nat) (b : List Int) (p : Option Addr) (c : Nat), k ≤ xs.length ∧ g = xs.length - k ∧ b = encs (xs.take k) ∧ Has 20 [(3, .slice p b.length c), (6, .slice q xs.length cq), (7, .int .i64 xs.length), (8, .int .i64 k)] a ∧ MemOk (cn w0) w0 [(9, .num (.slice p b.length c) 5 .u8 b)] w) (xs.length) ?_ ?_
 · have mz := m0.nilN 9 5 .u8
   exact ⟨0, [], _, _, Nat.zero_le _, rfl, rfl, Hz.only [3, 6, 7, 8], mz.only [9]⟩
 clear Hz m0
 rintro g Az w6 ⟨k, b, p, c, hkl, hg, hbe, Hz, m6⟩
 refine regS Hz (.lss rfl rfl .nil) fun Az Hz => ?_
 refine wsk fun K1 hK1 => ?_
 refine bc Hz 9 ?_ ?_
 ·
  intro hb8 Hz; try simp only [QQ, Qax] at hb8
  have hk : k < xs.length := by have := hb8; first | omega | (simp at this; omega)
  have hxk := hxb k hk
  refine wct Hz ?_
  refine zss (hK1 _ _ ?_)
  refine wsk fun K2 hK2 => ?_
  refine wp_block ?_
  refine zsr fun K3 hK3 => ?_
  obtain ⟨gx10, ox10, hp10, hl10, hrg10⟩ := h0.extN (k) hk
  revert Hz
  cases hp10
  intro Hz
  refine gz hK3 Hz (.c rfl (fun _ h_ => y_idx h_ rfl rfl U24 fct22 (k) rfl hk) <| .loadAt1 (hrg10 m6 rfl) (q := 0) rfl rfl rfl U3 rfl <| .assign rfl <| .nil) fun Az Hz => ?_
  refine wp_region_lit ?_
  refine goCh Hz (.move rfl <| .move rfl <| .conv rfl U3 U101 (r := xs.getD k 0) (IntWalk.u64_in _ (by omega)) .nil) fun Az Hz => ?_
  refine plz (e_litN Hz m6 100 (k := .u64) rfl rfl U153 fct36 rfl rfl rfl rfl fun g17 Az w18 Hz m18 => ?_)
  have m19 := m18.freezeN 100 rfl
  refine plz (ecn Hz Try.func72 rfl m19 101 (pput_x _ [xs.getD k 0] _ ((m19.rd (i := 100) rfl).any) (by simp) (one63 (by omega))) fun p20 c20 Az w20 Hz m21 => ?_)
  refine plz (e_appN Hz m21 9 rfl rfl rfl (m21.numsO (i := 101) rfl) U22 fct0 (by decide) (by rw [hbe]; have h8 := encs_len (xs.take k); rw [List.length_take] at h8; have h9 := encs_len [xs.getD k 0]; rw [List.length_singleton] at h9; omega) rfl fun p23 c23 Az w24 Hz m24 => ?_)
  refine gz hK2 Hz (.assign rfl .nil) fun Az Hz => ?_
  replace Hz := Hz.oz [3, 6, 7, 8]
  refine wp_region_lit ?_
  refine goCh Hz (.inc (k + 1) <| .move rfl .nil) fun Az Hz => ?_
  refine wpList_nil ?_
  show ∃ n', n' < _ ∧ _
  exact ⟨xs.length - (k + 1), by omega, k + 1, _, _, _, by omega, rfl, by rw [encs_snoc _ _ hk, ← hbe, encs_one], Hz.only [3, 6, 7, 8], m24.only [9]⟩
 intro hb8 Hz; try simp only [QQ, Qax] at hb8
 revert Hz
 obtain rfl : k = xs.length := by have := hb8; first | omega | (simp at this; omega)
 intro Hz
 refine wcf Hz ?_
 refine wp_exit ?_
 refine hK0 _ _ ?_
 refine regS Hz (.move rfl <| .assign rfl .nil) fun Az Hz => ?_
 refine rt1 Hz ?_
 rw [List.take_length] at hbe
 revert Hz
 subst hbe
 intro Hz
 exact ⟨_, _, rfl, m6.ok 9 _ rfl, m6.below⟩
theorem pnuml_x (xs : List Int) (q : Option Addr) (cq : Nat) (w0 : World) (h0 : Rd (fun _ => True) w0 (.slice q xs.length cq) (.ns .i64 xs)) (hl : xs.length ≤ 1000000) (hxb : ∀ k, k < xs.length → 0 ≤ xs.getD k 0 ∧ xs.getD k 0 ≤ 9223372036854775807) :
   Calls Try.prog 40 #[.slice q xs.length cq] w0 fun e w' => ∃ (p : Option Addr) (c : Nat), e = .returned (.slice p (encs xs).length c) ∧ w'.ownsRow w0.heap.size 5 1 (.slice p (encs xs).length c) (encs xs).length ((encs xs).map (Value.int .u8)) ∧ Below w0.heap.size w0 w' := by
 refine ent1 Try.func40 rfl Try.ntmps40 fun Az Hz => ?_
 have m0 := MemOk.start (fun _ => False) w0
 refine regS Hz (.assign rfl .nil) fun Az Hz => ?_
 refine regS Hz (.assign rfl .nil) fun Az Hz => ?_
 refine wsk fun K0 hK0 => ?_
 refine regS Hz (.move rfl <| .len rfl U25 <| .move rfl .nil) fun Az Hz => ?_
 refine wp_block ?_
 refine wp_loop_ghost (fun g a w => ∃ (k : Nat) (b : List Int) (p : Option Addr) (c : Nat), k ≤ xs.length ∧ g = xs.length - k ∧ b = encs (xs.take k) ∧ Has 20 [(3, .slice p b.length c), (6, .slice q xs.length cq), (7, .int .i64 xs.length), (8, .int .i64 k)] a ∧ MemOk (cn w0) w0 [(9, .num (.slice p b.length c) 5 .u8 b)] w) (xs.length) ?_ ?_
 · have mz := m0.nilN 9 5 .u8
   exact ⟨0, [], _, _, Nat.zero_le _, rfl, rfl, Hz.only [3, 6, 7, 8], mz.only [9]⟩
 clear Hz m0
 rintro g Az w6 ⟨k, b, p, c, hkl, hg, hbe, Hz, m6⟩
 refine regS Hz (.lss rfl rfl .nil) fun Az Hz => ?_
 refine wsk fun K1 hK1 => ?_
 refine bc Hz 9 ?_ ?_
 ·
  intro hb8 Hz; try simp only [QQ, Qax] at hb8
  have hk : k < xs.length := by have := hb8; first | omega | (simp at this; omega)
  have hxk := hxb k hk
  refine wct Hz ?_
  refine zss (hK1 _ _ ?_)
  refine wsk fun K2 hK2 => ?_
  refine wp_block ?_
  refine zsr fun K3 hK3 => ?_
  obtain ⟨gx10, ox10, hp10, hl10, hrg10⟩ := h0.extN (k) hk
  revert Hz
  cases hp10
  intro Hz
  refine gz hK3 Hz (.c rfl (fun _ h_ => y_idx h_ rfl rfl U25 fct9 (k) rfl hk) <| .loadAt1 (hrg10 m6 rfl) (q := 0) rfl rfl rfl U2 rfl <| .assign rfl <| .nil) fun Az Hz => ?_
  refine wp_region_lit ?_
  refine goCh Hz (.move rfl <| .move rfl <| .conv rfl U2 U101 (r := xs.getD k 0) (IntWalk.u64_in _ (by omega)) .nil) fun Az Hz => ?_
  refine plz (e_litN Hz m6 100 (k := .u64) rfl rfl U153 fct36 rfl rfl rfl rfl fun g17 Az w18 Hz m18 => ?_)
  have m19 := m18.freezeN 100 rfl
  refine plz (ecn Hz Try.func72 rfl m19 101 (pput_x _ [xs.getD k 0] _ ((m19.rd (i := 100) rfl).any) (by simp) (one63 (by omega))) fun p20 c20 Az w20 Hz m21 => ?_)
  refine plz (e_appN Hz m21 9 rfl rfl rfl (m21.numsO (i := 101) rfl) U22 fct0 (by decide) (by rw [hbe]; have h8 := encs_len (xs.take k); rw [List.length_take] at h8; have h9 := encs_len [xs.getD k 0]; rw [List.length_singleton] at h9; omega) rfl fun p23 c23 Az w24 Hz m24 => ?_)
  refine gz hK2 Hz (.assign rfl .nil) fun Az Hz => ?_
  replace Hz := Hz.oz [3, 6, 7, 8]
  refine wp_region_lit ?_
  refine goCh Hz (.inc (k + 1) <| .move rfl .nil) fun Az Hz => ?_
  refine wpList_nil ?_
  show ∃ n', n' < _ ∧ _
  exact ⟨xs.length - (k + 1), by omega, k + 1, _, _, _, by omega, rfl, by rw [encs_snoc _ _ hk, ← hbe, encs_one], Hz.only [3, 6, 7, 8], m24.only [9]⟩
 intro hb8 Hz; try simp only [QQ, Qax] at hb8
 revert Hz
 obtain rfl : k = xs.length := by have := hb8; first | omega | (simp at this; omega)
 intro Hz
 refine wcf Hz ?_
 refine wp_exit ?_
 refine hK0 _ _ ?_
 refine regS Hz (.move rfl <| .assign rfl .nil) fun Az Hz => ?_
 refine rt1 Hz ?_
 rw [List.take_length] at hbe
 revert Hz
 subst hbe
 intro Hz
 exact ⟨_, _, rfl, m6.ok 9 _ rfl, m6.below⟩
end Go.Proofs.Yteglmahnkfgelaa.K
end
section
namespace Go.Proofs.Yteglmahnkfgelaa.K
open Go.ChangeShapes Go.WideShapes Go.ChangeAt Go.RowKit
set_option linter.unusedVariables false
set_option linter.unusedSimpArgs false
section
variable {P : Program} {ops : Array Oper} {Q : Exit → Act → World → Prop} {md : Region.Mode} {listed : Array Bool} {fuel e : Nat} {S : World → Prop} {a : Act} {w : World}
end
end Go.Proofs.Yteglmahnkfgelaa.K
end
section
namespace Go.Proofs.Yteglmahnkfgelaa.K
open Go.ChangeShapes Go.WideShapes Go.ChangeAt Go.RowKit
set_option linter.unusedVariables false
set_option linter.unusedSimpArgs false
theorem numR_suf (x : List Int) (e most : Int) : ∃ k, k ≤ x.length ∧ (numR x e most).2.1 = x.drop k := by
 unfold numR
 split
 · split
   · exact ⟨x.length, Nat.le_refl _, (List.drop_length).symm⟩
   split
   · exact ⟨x.length, Nat.le_refl _, (List.drop_length).symm⟩
   rename_i n k _ _
   by_cases hk : k ≤ x.length
   · exact ⟨k, hk, rfl⟩
   exact ⟨x.length, Nat.le_refl _, by rw [List.drop_length, List.drop_of_length_le (by omega)]⟩
 exact ⟨0, Nat.zero_le _, rfl⟩
theorem run_conv_own {P : Program} (w : World) (t e e' : TypeId) (g : Nat) (C : Array Value) (fr : Nat × Nat) (n c : Nat) (hb : w.heap[g]? = some (.cells C e' fr)) (ht : P.underlying t = some (.slice e)) (he : P.underlying e = some (.int .u8)) :
   (convert t t (.slice (some ⟨g, 0, none⟩) n c)).run P w = .ok (.slice (some ⟨g, 0, none⟩) n c) (w.freeze ⟨g, C.size, none⟩ 1) := by
 have hsh : w.shape? g = some (e', C.size) := by unfold World.shape?; rw [hb]
 simp [convert, run_underlying ht, run_underlying he, markStringish, hsh]
theorem freeze_block (w : World) (g k b : Nat) (hb : b ≠ g) : (w.freeze ⟨g, k, none⟩ 1).heap[b]? = w.heap[b]? := by
 unfold World.freeze
 rw [if_neg (by decide)]
 show (w.heap.modify g _)[b]? = _
 rw [Array.getElem?_modify, if_neg (fun h => hb h.symm)]
theorem freeze_size (w : World) (g k : Nat) : (w.freeze ⟨g, k, none⟩ 1).heap.size = w.heap.size := by
 unfold World.freeze
 rw [if_neg (by decide)]
 show (w.heap.modify g _).size = _
 rw [Array.size_modify]
theorem freeze_cell (w : World) (g k j : Nat) (C : Array Value) (e : TypeId) (fr : Nat × Nat) (hb : w.heap[g]? = some (.cells C e fr)) : (w.freeze ⟨g, k, none⟩ 1).cell? ⟨g, j, none⟩ = w.cell? ⟨g, j, none⟩ := by
 have h : ∃ fr', (w.freeze ⟨g, k, none⟩ 1).heap[g]? = some (.cells C e fr') := by
   unfold World.freeze
   rw [if_neg (by decide)]
   obtain ⟨lo, hi⟩ := fr
   refine ⟨(if lo == hi then (k, k + 1) else (min lo k, max hi (k + 1))), ?_⟩
   show (w.heap.modify g _)[g]? = _
   rw [Array.getElem?_modify, if_pos rfl, hb]
   rfl
 obtain ⟨fr', h⟩ := h
 unfold World.cell?
 simp [h, hb]
theorem freeze_keep (w : World) (g k : Nat) : Keep (fun b => b = g) w (w.freeze ⟨g, k, none⟩ 1) := by
 refine ⟨?_, ?_, ?_, Nat.le_of_eq (freeze_size w g k).symm, fun b hb hn => freeze_block w g k b hn⟩ <;> (unfold World.freeze; rw [if_neg (by decide)])
theorem e_cvN {P : Program} {X : Cx} {M : Mm} {T : List (Nat × Value)} {n : Nat} {a : Act} {w w0 : World} {K : Act → World → Prop} {Q : Exit → Act → World → Prop} {tt : TypeId} {pos : String} {af : Array Edge} {gd : Option (Nat × Bool)} (ha : Has n T a) (m : MemOk X w0 M w) (i : Nat) {d : Tmp} {t e e' : TypeId} {x : Operand} {g l c : Nat} {zs : List Int} (hm : lk M i = some (.num (.slice (some ⟨g, 0, none⟩) l c) e' .u8 zs)) (hp : evT T x = some (.slice (some ⟨g, 0, none⟩) l c)) (hu : P.underlying t = some (.slice e)) (he : P.underlying e = some (.int .u8)) (ht : Nat.blt d n = true)
   (h : ∀ a' w', Has n ((d, .slice (some ⟨g, 0, none⟩) l c) :: T) a' → MemOk X w0 ((i, .dat (.slice (some ⟨g, 0, none⟩) l c) (.ns .u8 zs)) :: M) w' → K a' w') : Oper.wp P ⟨some d, .convert t t x, tt, pos, af, gd⟩ a w K Q := by
 have how := m.ok i _ hm
 have hev := ha.ev hp
 rcases how.2 with ⟨hv, h0⟩ | ⟨g', cap, cur, hv, hg, hbk, h1, h2, h3, h4⟩
 · injection hv with hv _ _; cases hv
 injection hv with hv1 hv2 hv3
 injection hv1 with hv1; injection hv1 with hv1 _ _
 subst hv1; subst hv2; subst hv3
 have hc := run_conv_own (P := P) w t e _ g _ _ zs.length c hbk hu he
 have hrun : (execOp a.eval ⟨some d, .convert t t x, tt, pos, af, gd⟩).run P w = .ok (.value (.slice (some ⟨g, 0, none⟩) zs.length c)) (w.freeze ⟨g, cur.size, none⟩ 1) := by
   simp only [execOp, hev, Sem.run_bind, hc, Result.andThen_ok, Sem.run_pure]
 show Oper.upon P _ a K Q _
 rw [hrun]
 have hlt := (Array.getElem?_eq_some_iff.1 hbk).1
 refine h _ _ (ha.put ht _) (m.upd i _ ((freeze_keep w g _).mono (fun b hb => ⟨_, hm, by rw [hb]; rfl⟩)) (fun b hb => by cases hb) (fun _ hf => .ns ⟨_, c, rfl, ⟨h1, h2⟩, .inr ⟨g, 0, rfl, hf g ⟨_, hm, rfl⟩ hg (fun c hc => by cases hc), by rw [freeze_size]; exact hlt, fun j hj => ?_⟩⟩))
 rw [freeze_cell w g _ _ _ _ _ hbk]
 have := how.cellAt j (by omega)
 rw [Nat.zero_add, this]
 simp [hj, List.getD]
abbrev cxt (w : World) : Cx := cx (fun _ => True) w
theorem MemOk.own_new {w0 w : World} {M : Mm} (m : MemOk (cxt w0) w0 M w) {b : Nat} (h : Own M b) : w0.heap.size ≤ b := by
 obtain ⟨i, r, hl, hb⟩ := h
 have hok := m.ok i r hl
 have hn : ¬ b ∈ (cxt w0).bad := List.not_mem_nil
 cases r with
 | dat v d => cases hb
 | box g e cs => injection hb with hb; subst hb; exact hok.2.resolve_right hn
 | num v e k zs => exact (World.ownsRow.lt hok b hb).1
 | row v e k rows => obtain ⟨cs, q, _⟩ := hok; exact (World.ownsRow.lt q b hb).1
 | cel b o vs => cases hb
 | rowC v e k rows cs => exact (World.ownsRow.lt hok.1 b hb).1
 | seg v e k rows => exact (hok.2 b hb).resolve_right hn
 | any g => injection hb with hb; subst hb; exact hok.2.resolve_right hn
 | gone => cases hb
theorem MemOk.old {w0 w : World} {M : Mm} (m : MemOk (cxt w0) w0 M w) {S : Nat → Prop} {v : Value} {d : D} (h : Rd S w0 v d) : Rd (Free (cxt w0) M) w v d :=
 h.mono m.keep.2.2.2.1 (fun b hlt _ => ⟨m.keep.2.2.2.2 b hlt (by simp [cx]), fun _ => trivial, fun ho => by have := m.own_new ho; omega⟩)
theorem pjoin_is {v : Value} {ls : List (List Int)} {w0 : World} {S : List Int} (h : Rd (fun _ => True) w0 v (.l 1 (ls.map bD))) (hl : ls.length ≤ 1000) (hs : sumLen ls ≤ 1000000) (hS : ls.flatten = S) :
   Calls Try.prog 38 #[v] w0 fun e w' => ∃ p c, e = .returned (.slice p S.length c) ∧ w'.ownsRow w0.heap.size 5 1 (.slice p S.length c) S.length (S.map (Value.int .u8)) ∧ Below w0.heap.size w0 w' := by
 subst hS; exact pjoin_x v ls w0 h hl hs
theorem b63 {l : List Int} (h : ∀ x ∈ l, 0 ≤ x ∧ x ≤ 9223372036854775807) : ∀ k, k < l.length → 0 ≤ l.getD k 0 ∧ l.getD k 0 ≤ 9223372036854775807 := fun k hk => by
 rw [List.getD, List.getElem?_eq_getElem hk]; exact h _ (List.getElem_mem hk)
theorem bytesApp {a b : List Int} (ha : BytesL a) (hb : BytesL b) : BytesL (a ++ b) := fun x hx => (List.mem_append.1 hx).elim (ha x) (hb x)
theorem encBytes {x : Int} (h : x ≤ 18446744073709551615) : BytesL (enc x) := enc_bytes x h
theorem encsBytes {l : List Int} (h : ∀ x ∈ l, x ≤ 18446744073709551615) : BytesL (encs l) := fun x hx => by
 obtain ⟨y, hy, hxy⟩ := List.mem_flatMap.1 hx
 exact enc_bytes y (h y hy) x hxy
end Go.Proofs.Yteglmahnkfgelaa.K
end
section
namespace Go.Proofs.Yteglmahnkfgelaa.K
open Go.ChangeShapes Go.WideShapes Go.ChangeAt Go.RowKit
set_option linter.unusedVariables false
set_option linter.unusedSimpArgs false
theorem y_andNot {P : Program} {T : List (Nat × Value)} {n : Nat} {a : Act} {w : World} {k : IntKind} {p q r : Int} {d : Option Tmp} {x y : Operand} {t t2 tt : TypeId} {pos : String} {af : Array Edge} {gd : Option (Nat × Bool)} (h : Has n T a) (hx : evT T x = some (.int k p)) (hy : evT T y = some (.int k q)) (hr : bits .andNot k p q = r) : Yl P a w ⟨d, .binOp .andNot t x y t2, tt, pos, af, gd⟩ (.int k r) := by
 subst hr
 show (execOp _ _).run P w = _; simp only [execOp, eqGuard, binOp, Op.intBits, h.ev hx, h.ev hy, bits]; simp
end Go.Proofs.Yteglmahnkfgelaa.K
end
section
namespace Go.Proofs.Yteglmahnkfgelaa.K
open Go.ChangeShapes Go.WideShapes Go.ChangeAt Go.RowKit
set_option linter.unusedVariables false
set_option linter.unusedSimpArgs false
set_option maxRecDepth 100000
set_option maxHeartbeats 4000000
theorem pfail_x (X : Cx) (B : Nat) (v : Value) (er cd : Int) (w0 : World) (m0 : MemOk X w0 [(1, .box B 111 [v, .int .i64 er])] w0) :
   Calls Try.prog 74 #[.pointer (some ⟨B, 0, none⟩), .int .i64 cd] w0 fun e w' => e = .returned (.tuple #[]) ∧ MemOk X w0 [(1, .box B 111 [.slice none 0 0, .int .i64 cd])] w' := by
 refine ent2 Try.func74 rfl Try.ntmps74 fun Az Hz => ?_
 refine wp_region_lit ?_
 refine goCh Hz (.move rfl <| .move rfl <| .move rfl <| .nilCheck rfl <| .fa 0 rfl U109 .nil) fun Az Hz => ?_
 refine plz (st1 Hz m0 1 fct16 fun w6 m6 _ => ?_)
 refine goCh Hz (.nilCheck rfl <| .fa 1 rfl U109 .nil) fun Az Hz => ?_
 refine plz (st1 Hz m6 1 fct39 fun w9 m9 _ => ?_)
 refine wpList_nil ?_
 try dsimp only [Exit.then]
 try refine out_here ?_
 refine (ret0 (fn := Try.f74) Hz rfl ?_)
 exact ⟨rfl, m9.only [1]⟩
theorem pnumber_ok (X : Cx) (B : Nat) (b : List Int) (er : Int) (p : Option Addr) (c : Nat) (w0 : World) (n j : Nat) (hb : b.length ≤ 1000000) (hbb : BytesL b) (hd : dec 0 0 b = .ok n j) (m0 : MemOk X w0 [(1, .box B 111 [.slice p (b).length c, .int .i64 er]), (2, .dat (.slice p (b).length c) (.ns .u8 (b)))] w0) :
   Calls Try.prog 73 #[.pointer (some ⟨B, 0, none⟩)] w0 fun e w' => ∃ (p' : Option Addr) (c' : Nat), e = .returned (.tuple #[.int .u64 (n : Int), .int .i64 0]) ∧ MemOk X w0 [(1, .box B 111 [.slice p' (b.drop j).length c', .int .i64 er]), (2, .dat (.slice p' (b.drop j).length c') (.ns .u8 (b.drop j)))] w' := by
 refine ent1 Try.func73 rfl Try.ntmps73 fun Az Hz => ?_
 refine regS Hz (.assign rfl <| .assign rfl .nil) fun Az Hz => ?_
 refine regS Hz (.assign rfl .nil) fun Az Hz => ?_
 refine wsk fun K0 hK0 => ?_
 refine regS Hz (.move rfl <| .nilCheck rfl <| .fa 0 rfl U109 <| .lb m0 1 U22 rfl rfl rfl <| .len rfl U22 <| .move rfl .nil) fun Az Hz => ?_
 refine wp_block ?_
 refine wp_loop_ghost (fun g a w => ∃ (k u : Nat), k ≤ b.length ∧ k ≤ 9 ∧ g = b.length - k ∧ u < 2 ^ (7 * k) ∧ dec u k (b.drop k) = dec 0 0 b ∧ Has 53 [(0, .pointer (some ⟨B, 0, none⟩)), (4, .int .u64 (u : Int)), (10, .slice p b.length c), (11, .int .i64 b.length), (12, .int .i64 k)] a ∧ MemOk X w0 [(1, .box B 111 [.slice p (b).length c, .int .i64 er]), (2, .dat (.slice p (b).length c) (.ns .u8 (b)))] w) (b.length) ?_ ?_
 · exact ⟨0, 0, Nat.zero_le _, Nat.zero_le _, rfl, by decide, rfl, Hz.only [0, 4, 10, 11, 12], m0.only [1, 2]⟩
 clear Hz m0
 rintro g Az w10 ⟨k, u, hkl, hk9, hg, hu, hD0, Hz, m10⟩
 refine regS Hz (.lss rfl rfl .nil) fun Az Hz => ?_
 refine wsk fun K1 hK1 => ?_
 refine bc Hz 13 ?_ ?_
 ·
  intro hb12 Hz; try simp only [QQ, Qax] at hb12
  have hk : k < b.length := by omega
  have hxb := getD_bd hbb hk
  have hD := hD0
  rw [dec_at hk] at hD
  refine wct Hz ?_
  refine zss (hK1 _ _ ?_)
  refine wsk fun K2 hK2 => ?_
  refine wp_block ?_
  refine zsr fun K3 hK3 => ?_
  refine goCh Hz (.move rfl .nil) fun Az Hz => ?_
  obtain ⟨b16, o16, hp16, m16⟩ := m10.openN (i := 2) rfl (k) hk 100 rfl
  revert Hz
  cases hp16
  intro Hz
  refine gz hK3 Hz (.c rfl (fun _ h_ => y_idx h_ rfl rfl U22 fct15 (k) rfl hk) <| .loadC0 m16 (i := 100) rfl rfl U5 rfl <| .assign rfl <| .assign rfl <| .nil) fun Az Hz => ?_
  refine wsk fun K4 hK4 => ?_
  refine zsr fun K5 hK5 => ?_
  refine goCh Hz (.move rfl <| .eql rfl rfl <| .move rfl .nil) fun Az Hz => ?_
  refine bc Hz 19 ?_ ?_
  ·
   intro hb27 Hz; try simp only [QQ, Qax] at hb27
   refine goCh Hz (.moveZ rfl <| .gtrZ rfl rfl <| .pickT rfl rfl <| .move rfl .nil) fun Az Hz => ?_
   refine bc Hz 23 ?_ ?_
   ·
    intro hb32 Hz; try simp only [QQ, Qax] at hb32
    have hE : dec 0 0 b = .err 20 := by rw [← hD, if_pos (by omega)]
    refine goCh Hz (.sk <| .sk <| .sk .nil) fun Az Hz => ?_
    refine st_skipU Hz rfl rfl rfl rfl fun Az Hz => ?_
    refine st_skipU Hz rfl rfl rfl rfl fun Az Hz => ?_
    refine gz hK5 Hz (.sk <| .pickT rfl rfl <| .nil) fun Az Hz => ?_
    refine wct Hz ?_
    replace Hz := Hz.oz [0, 4, 10, 11, 12, 5, 6, 19, 23, 26, 30]
    refine regS Hz (.assign rfl <| .assign rfl .nil) fun Az Hz => ?_
    refine rt2 Hz ?_
    rw [hE] at hd; cases hd
   intro hb32 Hz; try simp only [QQ, Qax] at hb32
   refine goCh Hz (.moveZ rfl <| .gtrZ rfl rfl <| .moveZ rfl .nil) fun Az Hz => ?_
   refine bc Hz 26 ?_ ?_
   ·
    intro hb46 Hz; try simp only [QQ, Qax] at hb46
    refine gz hK5 Hz (.moveZ rfl <| .eqlZ rfl rfl <| .pickTZ rfl rfl <| .pickF rfl rfl <| .nil) fun Az Hz => ?_
    refine bc Hz 30 ?_ ?_
    ·
     intro hb51 Hz; try simp only [QQ, Qax] at hb51
     have hE : dec 0 0 b = .err 20 := by rw [← hD, if_pos (by omega)]
     refine wct Hz ?_
     replace Hz := Hz.oz [0, 4, 10, 11, 12, 5, 6, 19, 23, 26, 30]
     refine regS Hz (.assign rfl <| .assign rfl .nil) fun Az Hz => ?_
     refine rt2 Hz ?_
     rw [hE] at hd; cases hd
    intro hb51 Hz; try simp only [QQ, Qax] at hb51
    have hno : ¬ ((k = 9 ∧ 1 < (b.getD k 0)) ∨ (0 < k ∧ (b.getD k 0) = 0)) := by omega
    have h9 : k = 9 → (b.getD k 0) ≤ 1 := by omega
    obtain ⟨v, hv⟩ : ∃ v, u + ((b.getD k 0) % 128).toNat * 2 ^ (7 * k) = v := ⟨_, rfl⟩
    refine wcf Hz ?_
    refine zss (hK4 _ _ ?_)
    replace Hz := Hz.oz [0, 4, 10, 11, 12, 5, 6, 19, 23, 26, 30]
    refine regS Hz (.move rfl <| .move rfl <| .c rfl (fun _ h_ => y_andNot h_ rfl rfl (r := (b.getD k 0) % 128) (andNot128 _ hxb.1 hxb.2)) <| .conv rfl U5 U101 (r := (b.getD k 0) % 128) (IntWalk.u64_in _ (by omega)) <| .move rfl <| .mul rfl rfl (r := 7 * (k : Int)) (IntWalk.i64_in _ (by omega)) <| .shl rfl rfl (by omega) (r := IntKind.u64.wrap ((b.getD k 0) % 128 * 2 ^ (7 * k))) (by rw [shx hk9]) <| .or rfl rfl (r := (v : Int)) (by rw [← hv]; exact or_shift u k (b.getD k 0) hu hk9 hxb.1 hxb.2 h9) <| .assign rfl .nil) fun Az Hz => ?_
    replace Hz := Hz.oz [0, 4, 10, 11, 12, 5, 6, 19, 23, 26, 30]
    refine regS Hz (.move rfl <| .lss rfl rfl .nil) fun Az Hz => ?_
    refine bc Hz 40 ?_ ?_
    ·
     intro hb68 Hz; try simp only [QQ, Qax] at hb68
     have hO : dec 0 0 b = .ok v (k + 1) := by rw [← hD, if_neg hno, if_pos (by omega), hv]
     refine wct Hz ?_
     refine zsr fun K6 hK6 => ?_
     refine goCh Hz (.move rfl <| .move rfl <| .nilCheck rfl <| .fa 0 rfl U109 <| .lb m16 1 U22 rfl rfl rfl <| .move rfl <| .inc (k + 1) .nil) fun Az Hz => ?_
     have m84 := m16.dropN (i := 2) rfl (k + 1) (show k + 1 ≤ b.length by omega) 101 rfl
     refine goCh Hz (.c rfl (fun _ h_ => y_sliceLn h_ (k + 1) rfl rfl U22 fct15 rfl (show k + 1 ≤ b.length by omega)) <| .nilCheck rfl <| .fa 0 rfl U109 .nil) fun Az Hz => ?_
     refine plz (st1 Hz m84 1 fct16 fun w88 m88 _ => ?_)
     refine znl (hK6 _ _ ?_)
     replace Hz := Hz.oz [0, 4, 10, 11, 12, 19, 23, 26, 30, 40]
     refine regS Hz (.move rfl <| .assign rfl <| .assign rfl .nil) fun Az Hz => ?_
     refine rt2 Hz ?_
     have hl9 : b.length - (k + 1) = (b.drop (k + 1)).length := by rw [List.length_drop]
     rw [hl9] at m88
     obtain ⟨rfl, rfl⟩ : n = v ∧ j = k + 1 := by rw [hO] at hd; injection hd with q1 q2; exact ⟨q1.symm, q2.symm⟩
     exact ⟨_, _, rfl, m88.ren [(1, 1), (2, 101)] (by decide)⟩
    intro hb68 Hz; try simp only [QQ, Qax] at hb68
    refine wcf Hz ?_
    refine zss (hK2 _ _ ?_)
    refine wp_region_lit ?_
    refine goCh Hz (.inc (k + 1) <| .move rfl .nil) fun Az Hz => ?_
    refine wpList_nil ?_
    show ∃ n', n' < _ ∧ _
    exact ⟨b.length - (k + 1), by omega, k + 1, v, by omega, by omega, rfl, by rw [← hv]; exact acc_bound u k (b.getD k 0) hu, by rw [← hD, if_neg hno, if_neg (by omega), hv], Hz.only [0, 4, 10, 11, 12], m16.only [1, 2]⟩
   intro hb46 Hz; try simp only [QQ, Qax] at hb46
   have hno : ¬ ((k = 9 ∧ 1 < (b.getD k 0)) ∨ (0 < k ∧ (b.getD k 0) = 0)) := by omega
   have h9 : k = 9 → (b.getD k 0) ≤ 1 := by omega
   obtain ⟨v, hv⟩ : ∃ v, u + ((b.getD k 0) % 128).toNat * 2 ^ (7 * k) = v := ⟨_, rfl⟩
   refine gz hK5 Hz (.sk <| .sk <| .pickFZ rfl rfl <| .pickF rfl rfl <| .nil) fun Az Hz => ?_
   refine wcf Hz ?_
   refine zss (hK4 _ _ ?_)
   replace Hz := Hz.oz [0, 4, 10, 11, 12, 5, 6, 19, 23, 26, 30]
   refine regS Hz (.move rfl <| .move rfl <| .c rfl (fun _ h_ => y_andNot h_ rfl rfl (r := (b.getD k 0) % 128) (andNot128 _ hxb.1 hxb.2)) <| .conv rfl U5 U101 (r := (b.getD k 0) % 128) (IntWalk.u64_in _ (by omega)) <| .move rfl <| .mul rfl rfl (r := 7 * (k : Int)) (IntWalk.i64_in _ (by omega)) <| .shl rfl rfl (by omega) (r := IntKind.u64.wrap ((b.getD k 0) % 128 * 2 ^ (7 * k))) (by rw [shx hk9]) <| .or rfl rfl (r := (v : Int)) (by rw [← hv]; exact or_shift u k (b.getD k 0) hu hk9 hxb.1 hxb.2 h9) <| .assign rfl .nil) fun Az Hz => ?_
   replace Hz := Hz.oz [0, 4, 10, 11, 12, 5, 6, 19, 23, 26, 30]
   refine regS Hz (.move rfl <| .lss rfl rfl .nil) fun Az Hz => ?_
   refine bc Hz 40 ?_ ?_
   ·
    intro hb112 Hz; try simp only [QQ, Qax] at hb112
    have hO : dec 0 0 b = .ok v (k + 1) := by rw [← hD, if_neg hno, if_pos (by omega), hv]
    refine wct Hz ?_
    refine zsr fun K7 hK7 => ?_
    refine goCh Hz (.move rfl <| .move rfl <| .nilCheck rfl <| .fa 0 rfl U109 <| .lb m16 1 U22 rfl rfl rfl <| .move rfl <| .inc (k + 1) .nil) fun Az Hz => ?_
    have m128 := m16.dropN (i := 2) rfl (k + 1) (show k + 1 ≤ b.length by omega) 101 rfl
    refine goCh Hz (.c rfl (fun _ h_ => y_sliceLn h_ (k + 1) rfl rfl U22 fct15 rfl (show k + 1 ≤ b.length by omega)) <| .nilCheck rfl <| .fa 0 rfl U109 .nil) fun Az Hz => ?_
    refine plz (st1 Hz m128 1 fct16 fun w132 m132 _ => ?_)
    refine znl (hK7 _ _ ?_)
    replace Hz := Hz.oz [0, 4, 10, 11, 12, 19, 23, 26, 30, 40]
    refine regS Hz (.move rfl <| .assign rfl <| .assign rfl .nil) fun Az Hz => ?_
    refine rt2 Hz ?_
    have hl9 : b.length - (k + 1) = (b.drop (k + 1)).length := by rw [List.length_drop]
    rw [hl9] at m132
    obtain ⟨rfl, rfl⟩ : n = v ∧ j = k + 1 := by rw [hO] at hd; injection hd with q1 q2; exact ⟨q1.symm, q2.symm⟩
    exact ⟨_, _, rfl, m132.ren [(1, 1), (2, 101)] (by decide)⟩
   intro hb112 Hz; try simp only [QQ, Qax] at hb112
   refine wcf Hz ?_
   refine zss (hK2 _ _ ?_)
   refine wp_region_lit ?_
   refine goCh Hz (.inc (k + 1) <| .move rfl .nil) fun Az Hz => ?_
   refine wpList_nil ?_
   show ∃ n', n' < _ ∧ _
   exact ⟨b.length - (k + 1), by omega, k + 1, v, by omega, by omega, rfl, by rw [← hv]; exact acc_bound u k (b.getD k 0) hu, by rw [← hD, if_neg hno, if_neg (by omega), hv], Hz.only [0, 4, 10, 11, 12], m16.only [1, 2]⟩
  intro hb27 Hz; try simp only [QQ, Qax] at hb27
  refine goCh Hz (.sk <| .sk <| .pickF rfl rfl <| .move rfl <| .moveZ rfl <| .gtrZ rfl rfl <| .moveZ rfl .nil) fun Az Hz => ?_
  refine bc Hz 26 ?_ ?_
  ·
   intro hb146 Hz; try simp only [QQ, Qax] at hb146
   refine gz hK5 Hz (.moveZ rfl <| .eqlZ rfl rfl <| .pickTZ rfl rfl <| .pickF rfl rfl <| .nil) fun Az Hz => ?_
   refine bc Hz 30 ?_ ?_
   ·
    intro hb151 Hz; try simp only [QQ, Qax] at hb151
    have hE : dec 0 0 b = .err 20 := by rw [← hD, if_pos (by omega)]
    refine wct Hz ?_
    replace Hz := Hz.oz [0, 4, 10, 11, 12, 5, 6, 19, 23, 26, 30]
    refine regS Hz (.assign rfl <| .assign rfl .nil) fun Az Hz => ?_
    refine rt2 Hz ?_
    rw [hE] at hd; cases hd
   intro hb151 Hz; try simp only [QQ, Qax] at hb151
   have hno : ¬ ((k = 9 ∧ 1 < (b.getD k 0)) ∨ (0 < k ∧ (b.getD k 0) = 0)) := by omega
   have h9 : k = 9 → (b.getD k 0) ≤ 1 := by omega
   obtain ⟨v, hv⟩ : ∃ v, u + ((b.getD k 0) % 128).toNat * 2 ^ (7 * k) = v := ⟨_, rfl⟩
   refine wcf Hz ?_
   refine zss (hK4 _ _ ?_)
   replace Hz := Hz.oz [0, 4, 10, 11, 12, 5, 6, 19, 23, 26, 30]
   refine regS Hz (.move rfl <| .move rfl <| .c rfl (fun _ h_ => y_andNot h_ rfl rfl (r := (b.getD k 0) % 128) (andNot128 _ hxb.1 hxb.2)) <| .conv rfl U5 U101 (r := (b.getD k 0) % 128) (IntWalk.u64_in _ (by omega)) <| .move rfl <| .mul rfl rfl (r := 7 * (k : Int)) (IntWalk.i64_in _ (by omega)) <| .shl rfl rfl (by omega) (r := IntKind.u64.wrap ((b.getD k 0) % 128 * 2 ^ (7 * k))) (by rw [shx hk9]) <| .or rfl rfl (r := (v : Int)) (by rw [← hv]; exact or_shift u k (b.getD k 0) hu hk9 hxb.1 hxb.2 h9) <| .assign rfl .nil) fun Az Hz => ?_
   replace Hz := Hz.oz [0, 4, 10, 11, 12, 5, 6, 19, 23, 26, 30]
   refine regS Hz (.move rfl <| .lss rfl rfl .nil) fun Az Hz => ?_
   refine bc Hz 40 ?_ ?_
   ·
    intro hb168 Hz; try simp only [QQ, Qax] at hb168
    have hO : dec 0 0 b = .ok v (k + 1) := by rw [← hD, if_neg hno, if_pos (by omega), hv]
    refine wct Hz ?_
    refine zsr fun K8 hK8 => ?_
    refine goCh Hz (.move rfl <| .move rfl <| .nilCheck rfl <| .fa 0 rfl U109 <| .lb m16 1 U22 rfl rfl rfl <| .move rfl <| .inc (k + 1) .nil) fun Az Hz => ?_
    have m184 := m16.dropN (i := 2) rfl (k + 1) (show k + 1 ≤ b.length by omega) 101 rfl
    refine goCh Hz (.c rfl (fun _ h_ => y_sliceLn h_ (k + 1) rfl rfl U22 fct15 rfl (show k + 1 ≤ b.length by omega)) <| .nilCheck rfl <| .fa 0 rfl U109 .nil) fun Az Hz => ?_
    refine plz (st1 Hz m184 1 fct16 fun w188 m188 _ => ?_)
    refine znl (hK8 _ _ ?_)
    replace Hz := Hz.oz [0, 4, 10, 11, 12, 19, 23, 26, 30, 40]
    refine regS Hz (.move rfl <| .assign rfl <| .assign rfl .nil) fun Az Hz => ?_
    refine rt2 Hz ?_
    have hl9 : b.length - (k + 1) = (b.drop (k + 1)).length := by rw [List.length_drop]
    rw [hl9] at m188
    obtain ⟨rfl, rfl⟩ : n = v ∧ j = k + 1 := by rw [hO] at hd; injection hd with q1 q2; exact ⟨q1.symm, q2.symm⟩
    exact ⟨_, _, rfl, m188.ren [(1, 1), (2, 101)] (by decide)⟩
   intro hb168 Hz; try simp only [QQ, Qax] at hb168
   refine wcf Hz ?_
   refine zss (hK2 _ _ ?_)
   refine wp_region_lit ?_
   refine goCh Hz (.inc (k + 1) <| .move rfl .nil) fun Az Hz => ?_
   refine wpList_nil ?_
   show ∃ n', n' < _ ∧ _
   exact ⟨b.length - (k + 1), by omega, k + 1, v, by omega, by omega, rfl, by rw [← hv]; exact acc_bound u k (b.getD k 0) hu, by rw [← hD, if_neg hno, if_neg (by omega), hv], Hz.only [0, 4, 10, 11, 12], m16.only [1, 2]⟩
  intro hb146 Hz; try simp only [QQ, Qax] at hb146
  have hno : ¬ ((k = 9 ∧ 1 < (b.getD k 0)) ∨ (0 < k ∧ (b.getD k 0) = 0)) := by omega
  have h9 : k = 9 → (b.getD k 0) ≤ 1 := by omega
  obtain ⟨v, hv⟩ : ∃ v, u + ((b.getD k 0) % 128).toNat * 2 ^ (7 * k) = v := ⟨_, rfl⟩
  refine gz hK5 Hz (.sk <| .sk <| .pickFZ rfl rfl <| .pickF rfl rfl <| .nil) fun Az Hz => ?_
  refine wcf Hz ?_
  refine zss (hK4 _ _ ?_)
  replace Hz := Hz.oz [0, 4, 10, 11, 12, 5, 6, 19, 23, 26, 30]
  refine regS Hz (.move rfl <| .move rfl <| .c rfl (fun _ h_ => y_andNot h_ rfl rfl (r := (b.getD k 0) % 128) (andNot128 _ hxb.1 hxb.2)) <| .conv rfl U5 U101 (r := (b.getD k 0) % 128) (IntWalk.u64_in _ (by omega)) <| .move rfl <| .mul rfl rfl (r := 7 * (k : Int)) (IntWalk.i64_in _ (by omega)) <| .shl rfl rfl (by omega) (r := IntKind.u64.wrap ((b.getD k 0) % 128 * 2 ^ (7 * k))) (by rw [shx hk9]) <| .or rfl rfl (r := (v : Int)) (by rw [← hv]; exact or_shift u k (b.getD k 0) hu hk9 hxb.1 hxb.2 h9) <| .assign rfl .nil) fun Az Hz => ?_
  replace Hz := Hz.oz [0, 4, 10, 11, 12, 5, 6, 19, 23, 26, 30]
  refine regS Hz (.move rfl <| .lss rfl rfl .nil) fun Az Hz => ?_
  refine bc Hz 40 ?_ ?_
  ·
   intro hb212 Hz; try simp only [QQ, Qax] at hb212
   have hO : dec 0 0 b = .ok v (k + 1) := by rw [← hD, if_neg hno, if_pos (by omega), hv]
   refine wct Hz ?_
   refine zsr fun K9 hK9 => ?_
   refine goCh Hz (.move rfl <| .move rfl <| .nilCheck rfl <| .fa 0 rfl U109 <| .lb m16 1 U22 rfl rfl rfl <| .move rfl <| .inc (k + 1) .nil) fun Az Hz => ?_
   have m228 := m16.dropN (i := 2) rfl (k + 1) (show k + 1 ≤ b.length by omega) 101 rfl
   refine goCh Hz (.c rfl (fun _ h_ => y_sliceLn h_ (k + 1) rfl rfl U22 fct15 rfl (show k + 1 ≤ b.length by omega)) <| .nilCheck rfl <| .fa 0 rfl U109 .nil) fun Az Hz => ?_
   refine plz (st1 Hz m228 1 fct16 fun w232 m232 _ => ?_)
   refine znl (hK9 _ _ ?_)
   replace Hz := Hz.oz [0, 4, 10, 11, 12, 19, 23, 26, 30, 40]
   refine regS Hz (.move rfl <| .assign rfl <| .assign rfl .nil) fun Az Hz => ?_
   refine rt2 Hz ?_
   have hl9 : b.length - (k + 1) = (b.drop (k + 1)).length := by rw [List.length_drop]
   rw [hl9] at m232
   obtain ⟨rfl, rfl⟩ : n = v ∧ j = k + 1 := by rw [hO] at hd; injection hd with q1 q2; exact ⟨q1.symm, q2.symm⟩
   exact ⟨_, _, rfl, m232.ren [(1, 1), (2, 101)] (by decide)⟩
  intro hb212 Hz; try simp only [QQ, Qax] at hb212
  refine wcf Hz ?_
  refine zss (hK2 _ _ ?_)
  refine wp_region_lit ?_
  refine goCh Hz (.inc (k + 1) <| .move rfl .nil) fun Az Hz => ?_
  refine wpList_nil ?_
  show ∃ n', n' < _ ∧ _
  exact ⟨b.length - (k + 1), by omega, k + 1, v, by omega, by omega, rfl, by rw [← hv]; exact acc_bound u k (b.getD k 0) hu, by rw [← hD, if_neg hno, if_neg (by omega), hv], Hz.only [0, 4, 10, 11, 12], m16.only [1, 2]⟩
 intro hb12 Hz; try simp only [QQ, Qax] at hb12
 revert Hz
 obtain rfl : k = b.length := by omega
 intro Hz
 have hE : dec 0 0 b = .err 21 := by rw [← hD0, List.drop_length]; rfl
 refine wcf Hz ?_
 refine wp_exit ?_
 refine hK0 _ _ ?_
 refine regS Hz (.assign rfl <| .assign rfl .nil) fun Az Hz => ?_
 refine rt2 Hz ?_
 rw [hE] at hd; cases hd
theorem pnumber_err (X : Cx) (B : Nat) (b : List Int) (er : Int) (p : Option Addr) (c : Nat) (w0 : World) (er1 : Int) (hb : b.length ≤ 1000000) (hbb : BytesL b) (hd : dec 0 0 b = .err er1) (m0 : MemOk X w0 [(1, .box B 111 [.slice p (b).length c, .int .i64 er]), (2, .dat (.slice p (b).length c) (.ns .u8 (b)))] w0) :
   Calls Try.prog 73 #[.pointer (some ⟨B, 0, none⟩)] w0 fun e w' => e = .returned (.tuple #[.int .u64 0, .int .i64 er1]) ∧ MemOk X w0 [(1, .box B 111 [.slice p (b).length c, .int .i64 er]), (2, .dat (.slice p (b).length c) (.ns .u8 (b)))] w' := by
 refine ent1 Try.func73 rfl Try.ntmps73 fun Az Hz => ?_
 refine regS Hz (.assign rfl <| .assign rfl .nil) fun Az Hz => ?_
 refine regS Hz (.assign rfl .nil) fun Az Hz => ?_
 refine wsk fun K0 hK0 => ?_
 refine regS Hz (.move rfl <| .nilCheck rfl <| .fa 0 rfl U109 <| .lb m0 1 U22 rfl rfl rfl <| .len rfl U22 <| .move rfl .nil) fun Az Hz => ?_
 refine wp_block ?_
 refine wp_loop_ghost (fun g a w => ∃ (k u : Nat), k ≤ b.length ∧ k ≤ 9 ∧ g = b.length - k ∧ u < 2 ^ (7 * k) ∧ dec u k (b.drop k) = dec 0 0 b ∧ Has 53 [(0, .pointer (some ⟨B, 0, none⟩)), (4, .int .u64 (u : Int)), (10, .slice p b.length c), (11, .int .i64 b.length), (12, .int .i64 k)] a ∧ MemOk X w0 [(1, .box B 111 [.slice p (b).length c, .int .i64 er]), (2, .dat (.slice p (b).length c) (.ns .u8 (b)))] w) (b.length) ?_ ?_
 · exact ⟨0, 0, Nat.zero_le _, Nat.zero_le _, rfl, by decide, rfl, Hz.only [0, 4, 10, 11, 12], m0.only [1, 2]⟩
 clear Hz m0
 rintro g Az w10 ⟨k, u, hkl, hk9, hg, hu, hD0, Hz, m10⟩
 refine regS Hz (.lss rfl rfl .nil) fun Az Hz => ?_
 refine wsk fun K1 hK1 => ?_
 refine bc Hz 13 ?_ ?_
 ·
  intro hb12 Hz; try simp only [QQ, Qax] at hb12
  have hk : k < b.length := by omega
  have hxb := getD_bd hbb hk
  have hD := hD0
  rw [dec_at hk] at hD
  refine wct Hz ?_
  refine zss (hK1 _ _ ?_)
  refine wsk fun K2 hK2 => ?_
  refine wp_block ?_
  refine zsr fun K3 hK3 => ?_
  refine goCh Hz (.move rfl .nil) fun Az Hz => ?_
  obtain ⟨b16, o16, hp16, m16⟩ := m10.openN (i := 2) rfl (k) hk 100 rfl
  revert Hz
  cases hp16
  intro Hz
  refine gz hK3 Hz (.c rfl (fun _ h_ => y_idx h_ rfl rfl U22 fct15 (k) rfl hk) <| .loadC0 m16 (i := 100) rfl rfl U5 rfl <| .assign rfl <| .assign rfl <| .nil) fun Az Hz => ?_
  refine wsk fun K4 hK4 => ?_
  refine zsr fun K5 hK5 => ?_
  refine goCh Hz (.move rfl <| .eql rfl rfl <| .move rfl .nil) fun Az Hz => ?_
  refine bc Hz 19 ?_ ?_
  ·
   intro hb27 Hz; try simp only [QQ, Qax] at hb27
   refine goCh Hz (.moveZ rfl <| .gtrZ rfl rfl <| .pickT rfl rfl <| .move rfl .nil) fun Az Hz => ?_
   refine bc Hz 23 ?_ ?_
   ·
    intro hb32 Hz; try simp only [QQ, Qax] at hb32
    have hE : dec 0 0 b = .err 20 := by rw [← hD, if_pos (by omega)]
    refine goCh Hz (.sk <| .sk <| .sk .nil) fun Az Hz => ?_
    refine st_skipU Hz rfl rfl rfl rfl fun Az Hz => ?_
    refine st_skipU Hz rfl rfl rfl rfl fun Az Hz => ?_
    refine gz hK5 Hz (.sk <| .pickT rfl rfl <| .nil) fun Az Hz => ?_
    refine wct Hz ?_
    replace Hz := Hz.oz [0, 4, 10, 11, 12, 5, 6, 19, 23, 26, 30]
    refine regS Hz (.assign rfl <| .assign rfl .nil) fun Az Hz => ?_
    refine rt2 Hz ?_
    rw [hE] at hd
    injection hd with hd
    revert Hz
    subst hd
    intro Hz
    exact ⟨rfl, m16.ren [(1, 1), (2, 2)] (by decide)⟩
   intro hb32 Hz; try simp only [QQ, Qax] at hb32
   refine goCh Hz (.moveZ rfl <| .gtrZ rfl rfl <| .moveZ rfl .nil) fun Az Hz => ?_
   refine bc Hz 26 ?_ ?_
   ·
    intro hb46 Hz; try simp only [QQ, Qax] at hb46
    refine gz hK5 Hz (.moveZ rfl <| .eqlZ rfl rfl <| .pickTZ rfl rfl <| .pickF rfl rfl <| .nil) fun Az Hz => ?_
    refine bc Hz 30 ?_ ?_
    ·
     intro hb51 Hz; try simp only [QQ, Qax] at hb51
     have hE : dec 0 0 b = .err 20 := by rw [← hD, if_pos (by omega)]
     refine wct Hz ?_
     replace Hz := Hz.oz [0, 4, 10, 11, 12, 5, 6, 19, 23, 26, 30]
     refine regS Hz (.assign rfl <| .assign rfl .nil) fun Az Hz => ?_
     refine rt2 Hz ?_
     rw [hE] at hd
     injection hd with hd
     revert Hz
     subst hd
     intro Hz
     exact ⟨rfl, m16.ren [(1, 1), (2, 2)] (by decide)⟩
    intro hb51 Hz; try simp only [QQ, Qax] at hb51
    have hno : ¬ ((k = 9 ∧ 1 < (b.getD k 0)) ∨ (0 < k ∧ (b.getD k 0) = 0)) := by omega
    have h9 : k = 9 → (b.getD k 0) ≤ 1 := by omega
    obtain ⟨v, hv⟩ : ∃ v, u + ((b.getD k 0) % 128).toNat * 2 ^ (7 * k) = v := ⟨_, rfl⟩
    refine wcf Hz ?_
    refine zss (hK4 _ _ ?_)
    replace Hz := Hz.oz [0, 4, 10, 11, 12, 5, 6, 19, 23, 26, 30]
    refine regS Hz (.move rfl <| .move rfl <| .c rfl (fun _ h_ => y_andNot h_ rfl rfl (r := (b.getD k 0) % 128) (andNot128 _ hxb.1 hxb.2)) <| .conv rfl U5 U101 (r := (b.getD k 0) % 128) (IntWalk.u64_in _ (by omega)) <| .move rfl <| .mul rfl rfl (r := 7 * (k : Int)) (IntWalk.i64_in _ (by omega)) <| .shl rfl rfl (by omega) (r := IntKind.u64.wrap ((b.getD k 0) % 128 * 2 ^ (7 * k))) (by rw [shx hk9]) <| .or rfl rfl (r := (v : Int)) (by rw [← hv]; exact or_shift u k (b.getD k 0) hu hk9 hxb.1 hxb.2 h9) <| .assign rfl .nil) fun Az Hz => ?_
    replace Hz := Hz.oz [0, 4, 10, 11, 12, 5, 6, 19, 23, 26, 30]
    refine regS Hz (.move rfl <| .lss rfl rfl .nil) fun Az Hz => ?_
    refine bc Hz 40 ?_ ?_
    ·
     intro hb68 Hz; try simp only [QQ, Qax] at hb68
     have hO : dec 0 0 b = .ok v (k + 1) := by rw [← hD, if_neg hno, if_pos (by omega), hv]
     refine wct Hz ?_
     refine zsr fun K6 hK6 => ?_
     refine goCh Hz (.move rfl <| .move rfl <| .nilCheck rfl <| .fa 0 rfl U109 <| .lb m16 1 U22 rfl rfl rfl <| .move rfl <| .inc (k + 1) .nil) fun Az Hz => ?_
     have m84 := m16.dropN (i := 2) rfl (k + 1) (show k + 1 ≤ b.length by omega) 101 rfl
     refine goCh Hz (.c rfl (fun _ h_ => y_sliceLn h_ (k + 1) rfl rfl U22 fct15 rfl (show k + 1 ≤ b.length by omega)) <| .nilCheck rfl <| .fa 0 rfl U109 .nil) fun Az Hz => ?_
     refine plz (st1 Hz m84 1 fct16 fun w88 m88 _ => ?_)
     refine znl (hK6 _ _ ?_)
     replace Hz := Hz.oz [0, 4, 10, 11, 12, 19, 23, 26, 30, 40]
     refine regS Hz (.move rfl <| .assign rfl <| .assign rfl .nil) fun Az Hz => ?_
     refine rt2 Hz ?_
     rw [hO] at hd; cases hd
    intro hb68 Hz; try simp only [QQ, Qax] at hb68
    refine wcf Hz ?_
    refine zss (hK2 _ _ ?_)
    refine wp_region_lit ?_
    refine goCh Hz (.inc (k + 1) <| .move rfl .nil) fun Az Hz => ?_
    refine wpList_nil ?_
    show ∃ n', n' < _ ∧ _
    exact ⟨b.length - (k + 1), by omega, k + 1, v, by omega, by omega, rfl, by rw [← hv]; exact acc_bound u k (b.getD k 0) hu, by rw [← hD, if_neg hno, if_neg (by omega), hv], Hz.only [0, 4, 10, 11, 12], m16.only [1, 2]⟩
   intro hb46 Hz; try simp only [QQ, Qax] at hb46
   have hno : ¬ ((k = 9 ∧ 1 < (b.getD k 0)) ∨ (0 < k ∧ (b.getD k 0) = 0)) := by omega
   have h9 : k = 9 → (b.getD k 0) ≤ 1 := by omega
   obtain ⟨v, hv⟩ : ∃ v, u + ((b.getD k 0) % 128).toNat * 2 ^ (7 * k) = v := ⟨_, rfl⟩
   refine gz hK5 Hz (.sk <| .sk <| .pickFZ rfl rfl <| .pickF rfl rfl <| .nil) fun Az Hz => ?_
   refine wcf Hz ?_
   refine zss (hK4 _ _ ?_)
   replace Hz := Hz.oz [0, 4, 10, 11, 12, 5, 6, 19, 23, 26, 30]
   refine regS Hz (.move rfl <| .move rfl <| .c rfl (fun _ h_ => y_andNot h_ rfl rfl (r := (b.getD k 0) % 128) (andNot128 _ hxb.1 hxb.2)) <| .conv rfl U5 U101 (r := (b.getD k 0) % 128) (IntWalk.u64_in _ (by omega)) <| .move rfl <| .mul rfl rfl (r := 7 * (k : Int)) (IntWalk.i64_in _ (by omega)) <| .shl rfl rfl (by omega) (r := IntKind.u64.wrap ((b.getD k 0) % 128 * 2 ^ (7 * k))) (by rw [shx hk9]) <| .or rfl rfl (r := (v : Int)) (by rw [← hv]; exact or_shift u k (b.getD k 0) hu hk9 hxb.1 hxb.2 h9) <| .assign rfl .nil) fun Az Hz => ?_
   replace Hz := Hz.oz [0, 4, 10, 11, 12, 5, 6, 19, 23, 26, 30]
   refine regS Hz (.move rfl <| .lss rfl rfl .nil) fun Az Hz => ?_
   refine bc Hz 40 ?_ ?_
   ·
    intro hb112 Hz; try simp only [QQ, Qax] at hb112
    have hO : dec 0 0 b = .ok v (k + 1) := by rw [← hD, if_neg hno, if_pos (by omega), hv]
    refine wct Hz ?_
    refine zsr fun K7 hK7 => ?_
    refine goCh Hz (.move rfl <| .move rfl <| .nilCheck rfl <| .fa 0 rfl U109 <| .lb m16 1 U22 rfl rfl rfl <| .move rfl <| .inc (k + 1) .nil) fun Az Hz => ?_
    have m128 := m16.dropN (i := 2) rfl (k + 1) (show k + 1 ≤ b.length by omega) 101 rfl
    refine goCh Hz (.c rfl (fun _ h_ => y_sliceLn h_ (k + 1) rfl rfl U22 fct15 rfl (show k + 1 ≤ b.length by omega)) <| .nilCheck rfl <| .fa 0 rfl U109 .nil) fun Az Hz => ?_
    refine plz (st1 Hz m128 1 fct16 fun w132 m132 _ => ?_)
    refine znl (hK7 _ _ ?_)
    replace Hz := Hz.oz [0, 4, 10, 11, 12, 19, 23, 26, 30, 40]
    refine regS Hz (.move rfl <| .assign rfl <| .assign rfl .nil) fun Az Hz => ?_
    refine rt2 Hz ?_
    rw [hO] at hd; cases hd
   intro hb112 Hz; try simp only [QQ, Qax] at hb112
   refine wcf Hz ?_
   refine zss (hK2 _ _ ?_)
   refine wp_region_lit ?_
   refine goCh Hz (.inc (k + 1) <| .move rfl .nil) fun Az Hz => ?_
   refine wpList_nil ?_
   show ∃ n', n' < _ ∧ _
   exact ⟨b.length - (k + 1), by omega, k + 1, v, by omega, by omega, rfl, by rw [← hv]; exact acc_bound u k (b.getD k 0) hu, by rw [← hD, if_neg hno, if_neg (by omega), hv], Hz.only [0, 4, 10, 11, 12], m16.only [1, 2]⟩
  intro hb27 Hz; try simp only [QQ, Qax] at hb27
  refine goCh Hz (.sk <| .sk <| .pickF rfl rfl <| .move rfl <| .moveZ rfl <| .gtrZ rfl rfl <| .moveZ rfl .nil) fun Az Hz => ?_
  refine bc Hz 26 ?_ ?_
  ·
   intro hb146 Hz; try simp only [QQ, Qax] at hb146
   refine gz hK5 Hz (.moveZ rfl <| .eqlZ rfl rfl <| .pickTZ rfl rfl <| .pickF rfl rfl <| .nil) fun Az Hz => ?_
   refine bc Hz 30 ?_ ?_
   ·
    intro hb151 Hz; try simp only [QQ, Qax] at hb151
    have hE : dec 0 0 b = .err 20 := by rw [← hD, if_pos (by omega)]
    refine wct Hz ?_
    replace Hz := Hz.oz [0, 4, 10, 11, 12, 5, 6, 19, 23, 26, 30]
    refine regS Hz (.assign rfl <| .assign rfl .nil) fun Az Hz => ?_
    refine rt2 Hz ?_
    rw [hE] at hd
    injection hd with hd
    revert Hz
    subst hd
    intro Hz
    exact ⟨rfl, m16.ren [(1, 1), (2, 2)] (by decide)⟩
   intro hb151 Hz; try simp only [QQ, Qax] at hb151
   have hno : ¬ ((k = 9 ∧ 1 < (b.getD k 0)) ∨ (0 < k ∧ (b.getD k 0) = 0)) := by omega
   have h9 : k = 9 → (b.getD k 0) ≤ 1 := by omega
   obtain ⟨v, hv⟩ : ∃ v, u + ((b.getD k 0) % 128).toNat * 2 ^ (7 * k) = v := ⟨_, rfl⟩
   refine wcf Hz ?_
   refine zss (hK4 _ _ ?_)
   replace Hz := Hz.oz [0, 4, 10, 11, 12, 5, 6, 19, 23, 26, 30]
   refine regS Hz (.move rfl <| .move rfl <| .c rfl (fun _ h_ => y_andNot h_ rfl rfl (r := (b.getD k 0) % 128) (andNot128 _ hxb.1 hxb.2)) <| .conv rfl U5 U101 (r := (b.getD k 0) % 128) (IntWalk.u64_in _ (by omega)) <| .move rfl <| .mul rfl rfl (r := 7 * (k : Int)) (IntWalk.i64_in _ (by omega)) <| .shl rfl rfl (by omega) (r := IntKind.u64.wrap ((b.getD k 0) % 128 * 2 ^ (7 * k))) (by rw [shx hk9]) <| .or rfl rfl (r := (v : Int)) (by rw [← hv]; exact or_shift u k (b.getD k 0) hu hk9 hxb.1 hxb.2 h9) <| .assign rfl .nil) fun Az Hz => ?_
   replace Hz := Hz.oz [0, 4, 10, 11, 12, 5, 6, 19, 23, 26, 30]
   refine regS Hz (.move rfl <| .lss rfl rfl .nil) fun Az Hz => ?_
   refine bc Hz 40 ?_ ?_
   ·
    intro hb168 Hz; try simp only [QQ, Qax] at hb168
    have hO : dec 0 0 b = .ok v (k + 1) := by rw [← hD, if_neg hno, if_pos (by omega), hv]
    refine wct Hz ?_
    refine zsr fun K8 hK8 => ?_
    refine goCh Hz (.move rfl <| .move rfl <| .nilCheck rfl <| .fa 0 rfl U109 <| .lb m16 1 U22 rfl rfl rfl <| .move rfl <| .inc (k + 1) .nil) fun Az Hz => ?_
    have m184 := m16.dropN (i := 2) rfl (k + 1) (show k + 1 ≤ b.length by omega) 101 rfl
    refine goCh Hz (.c rfl (fun _ h_ => y_sliceLn h_ (k + 1) rfl rfl U22 fct15 rfl (show k + 1 ≤ b.length by omega)) <| .nilCheck rfl <| .fa 0 rfl U109 .nil) fun Az Hz => ?_
    refine plz (st1 Hz m184 1 fct16 fun w188 m188 _ => ?_)
    refine znl (hK8 _ _ ?_)
    replace Hz := Hz.oz [0, 4, 10, 11, 12, 19, 23, 26, 30, 40]
    refine regS Hz (.move rfl <| .assign rfl <| .assign rfl .nil) fun Az Hz => ?_
    refine rt2 Hz ?_
    rw [hO] at hd; cases hd
   intro hb168 Hz; try simp only [QQ, Qax] at hb168
   refine wcf Hz ?_
   refine zss (hK2 _ _ ?_)
   refine wp_region_lit ?_
   refine goCh Hz (.inc (k + 1) <| .move rfl .nil) fun Az Hz => ?_
   refine wpList_nil ?_
   show ∃ n', n' < _ ∧ _
   exact ⟨b.length - (k + 1), by omega, k + 1, v, by omega, by omega, rfl, by rw [← hv]; exact acc_bound u k (b.getD k 0) hu, by rw [← hD, if_neg hno, if_neg (by omega), hv], Hz.only [0, 4, 10, 11, 12], m16.only [1, 2]⟩
  intro hb146 Hz; try simp only [QQ, Qax] at hb146
  have hno : ¬ ((k = 9 ∧ 1 < (b.getD k 0)) ∨ (0 < k ∧ (b.getD k 0) = 0)) := by omega
  have h9 : k = 9 → (b.getD k 0) ≤ 1 := by omega
  obtain ⟨v, hv⟩ : ∃ v, u + ((b.getD k 0) % 128).toNat * 2 ^ (7 * k) = v := ⟨_, rfl⟩
  refine gz hK5 Hz (.sk <| .sk <| .pickFZ rfl rfl <| .pickF rfl rfl <| .nil) fun Az Hz => ?_
  refine wcf Hz ?_
  refine zss (hK4 _ _ ?_)
  replace Hz := Hz.oz [0, 4, 10, 11, 12, 5, 6, 19, 23, 26, 30]
  refine regS Hz (.move rfl <| .move rfl <| .c rfl (fun _ h_ => y_andNot h_ rfl rfl (r := (b.getD k 0) % 128) (andNot128 _ hxb.1 hxb.2)) <| .conv rfl U5 U101 (r := (b.getD k 0) % 128) (IntWalk.u64_in _ (by omega)) <| .move rfl <| .mul rfl rfl (r := 7 * (k : Int)) (IntWalk.i64_in _ (by omega)) <| .shl rfl rfl (by omega) (r := IntKind.u64.wrap ((b.getD k 0) % 128 * 2 ^ (7 * k))) (by rw [shx hk9]) <| .or rfl rfl (r := (v : Int)) (by rw [← hv]; exact or_shift u k (b.getD k 0) hu hk9 hxb.1 hxb.2 h9) <| .assign rfl .nil) fun Az Hz => ?_
  replace Hz := Hz.oz [0, 4, 10, 11, 12, 5, 6, 19, 23, 26, 30]
  refine regS Hz (.move rfl <| .lss rfl rfl .nil) fun Az Hz => ?_
  refine bc Hz 40 ?_ ?_
  ·
   intro hb212 Hz; try simp only [QQ, Qax] at hb212
   have hO : dec 0 0 b = .ok v (k + 1) := by rw [← hD, if_neg hno, if_pos (by omega), hv]
   refine wct Hz ?_
   refine zsr fun K9 hK9 => ?_
   refine goCh Hz (.move rfl <| .move rfl <| .nilCheck rfl <| .fa 0 rfl U109 <| .lb m16 1 U22 rfl rfl rfl <| .move rfl <| .inc (k + 1) .nil) fun Az Hz => ?_
   have m228 := m16.dropN (i := 2) rfl (k + 1) (show k + 1 ≤ b.length by omega) 101 rfl
   refine goCh Hz (.c rfl (fun _ h_ => y_sliceLn h_ (k + 1) rfl rfl U22 fct15 rfl (show k + 1 ≤ b.length by omega)) <| .nilCheck rfl <| .fa 0 rfl U109 .nil) fun Az Hz => ?_
   refine plz (st1 Hz m228 1 fct16 fun w232 m232 _ => ?_)
   refine znl (hK9 _ _ ?_)
   replace Hz := Hz.oz [0, 4, 10, 11, 12, 19, 23, 26, 30, 40]
   refine regS Hz (.move rfl <| .assign rfl <| .assign rfl .nil) fun Az Hz => ?_
   refine rt2 Hz ?_
   rw [hO] at hd; cases hd
  intro hb212 Hz; try simp only [QQ, Qax] at hb212
  refine wcf Hz ?_
  refine zss (hK2 _ _ ?_)
  refine wp_region_lit ?_
  refine goCh Hz (.inc (k + 1) <| .move rfl .nil) fun Az Hz => ?_
  refine wpList_nil ?_
  show ∃ n', n' < _ ∧ _
  exact ⟨b.length - (k + 1), by omega, k + 1, v, by omega, by omega, rfl, by rw [← hv]; exact acc_bound u k (b.getD k 0) hu, by rw [← hD, if_neg hno, if_neg (by omega), hv], Hz.only [0, 4, 10, 11, 12], m16.only [1, 2]⟩
 intro hb12 Hz; try simp only [QQ, Qax] at hb12
 revert Hz
 obtain rfl : k = b.length := by omega
 intro Hz
 have hE : dec 0 0 b = .err 21 := by rw [← hD0, List.drop_length]; rfl
 refine wcf Hz ?_
 refine wp_exit ?_
 refine hK0 _ _ ?_
 refine regS Hz (.assign rfl <| .assign rfl .nil) fun Az Hz => ?_
 refine rt2 Hz ?_
 rw [hE] at hd
 injection hd with hd
 revert Hz
 subst hd
 intro Hz
 exact ⟨rfl, m10.ren [(1, 1), (2, 2)] (by decide)⟩
theorem pnum_bad (X : Cx) (B : Nat) (b : List Int) (er mx : Int) (p : Option Addr) (c : Nat) (w0 : World) (hb : b.length ≤ 1000000) (hbb : BytesL b) (he : er ≠ 0) (m0 : MemOk X w0 [(1, .box B 111 [.slice p (b).length c, .int .i64 er]), (2, .dat (.slice p (b).length c) (.ns .u8 (b)))] w0) :
   Calls Try.prog 44 #[.pointer (some ⟨B, 0, none⟩), .int .u64 mx] w0 fun e w' => ∃ (p' : Option Addr) (c' : Nat), e = .returned (.int .u64 (numR b er mx).1) ∧ MemOk X w0 [(1, .box B 111 [.slice p' ((numR b er mx).2.1).length c', .int .i64 (numR b er mx).2.2]), (2, .dat (.slice p' ((numR b er mx).2.1).length c') (.ns .u8 ((numR b er mx).2.1)))] w' := by
 have hN : numR b er mx = (0, b, er) := numR_bad b er mx he
 refine ent2 Try.func44 rfl Try.ntmps44 fun Az Hz => ?_
 refine regS Hz (.assign rfl .nil) fun Az Hz => ?_
 refine wsk fun K0 hK0 => ?_
 refine regS Hz (.move rfl <| .nilCheck rfl <| .fieldAddr (off := 0) rfl U111 rfl (s := 1) (by kernel_rfl) rfl <| .fa 1 rfl U109 <| .lb m0 1 U44 rfl rfl rfl <| .neq rfl rfl .nil) fun Az Hz => ?_
 refine bc Hz 12 ?_ ?_
 rotate_left
 · intro hb _; exact absurd hb (by simp; omega)
 clear Hz; intro _ Hz
 refine wct Hz ?_
 replace Hz := Hz.oz [0, 1, 4]
 refine regS Hz (.assign rfl .nil) fun Az Hz => ?_
 refine rt1 Hz ?_
 rw [hN]
 exact ⟨_, _, rfl, m0.ren [(1, 1), (2, 2)] (by decide)⟩
theorem pnum_err (X : Cx) (B : Nat) (b : List Int) (mx : Int) (p : Option Addr) (c : Nat) (w0 : World) (hb : b.length ≤ 1000000) (hbb : BytesL b) (er1 : Int) (hd : dec 0 0 b = .err er1) (m0 : MemOk X w0 [(1, .box B 111 [.slice p (b).length c, .int .i64 0]), (2, .dat (.slice p (b).length c) (.ns .u8 (b)))] w0) :
   Calls Try.prog 44 #[.pointer (some ⟨B, 0, none⟩), .int .u64 mx] w0 fun e w' => ∃ (p' : Option Addr) (c' : Nat), e = .returned (.int .u64 (numR b 0 mx).1) ∧ MemOk X w0 [(1, .box B 111 [.slice p' ((numR b 0 mx).2.1).length c', .int .i64 (numR b 0 mx).2.2]), (2, .dat (.slice p' ((numR b 0 mx).2.1).length c') (.ns .u8 ((numR b 0 mx).2.1)))] w' := by
 have hN : numR b 0 mx = (0, [], er1) := numR_err mx hd
 have he1 : er1 = 20 ∨ er1 = 21 := dec_err b 0 0 er1 hd
 refine ent2 Try.func44 rfl Try.ntmps44 fun Az Hz => ?_
 refine regS Hz (.assign rfl .nil) fun Az Hz => ?_
 refine wsk fun K0 hK0 => ?_
 refine regS Hz (.move rfl <| .nilCheck rfl <| .fieldAddr (off := 0) rfl U111 rfl (s := 1) (by kernel_rfl) rfl <| .fa 1 rfl U109 <| .lb m0 1 U44 rfl rfl rfl <| .neq rfl rfl .nil) fun Az Hz => ?_
 refine bc Hz 12 ?_ ?_
 · intro hb _; exact absurd hb (by simp)
 clear Hz; intro _ Hz
 refine wcf Hz ?_
 refine zss (hK0 _ _ ?_)
 replace Hz := Hz.oz [0, 1, 4]
 refine zsr fun K1 hK1 => ?_
 refine goCh Hz (.move rfl <| .nilCheck rfl <| .fieldAddr (off := 0) rfl U111 rfl (s := 1) (by kernel_rfl) rfl .nil) fun Az Hz => ?_
 refine plz (ecl Hz Try.func73 rfl (pnumber_err _ _ _ _ _ _ _ _ hb hbb hd (m0.into [(1, 1), (2, 2)] (by decide) rfl)) ?_)
 rintro e w16 ⟨rfl, hm16⟩
 have mx16 := m0.back hm16 [(1, 1), (2, 2)] (by decide); clear hm16 m0
 have m16 := mx16.oz [1, 2]
 refine ⟨_, rfl, ?_⟩; intro Az Hz
 refine gz hK1 Hz (.move rfl <| .extract rfl rfl <| .extract rfl rfl <| .assign rfl <| .assign rfl <| .nil) fun Az Hz => ?_
 refine wsk fun K2 hK2 => ?_
 replace Hz := Hz.oz [0, 1, 4, 5, 6]
 refine zsr fun K3 hK3 => ?_
 refine goCh Hz (.move rfl <| .eql rfl rfl <| .move rfl .nil) fun Az Hz => ?_
 refine bc Hz 22 ?_ ?_
 · intro hb _; exact absurd hb (by simp; omega)
 clear Hz; intro _ Hz
 refine gz hK3 Hz (.sk <| .sk <| .sk <| .pickF rfl rfl <| .nil) fun Az Hz => ?_
 refine wcf Hz ?_
 refine zss (hK2 _ _ ?_)
 refine wsk fun K4 hK4 => ?_
 replace Hz := Hz.oz [0, 4, 5, 6]
 refine regS Hz (.move rfl <| .neq rfl rfl .nil) fun Az Hz => ?_
 refine bc Hz 28 ?_ ?_
 rotate_left
 · intro hb _; exact absurd hb (by simp; omega)
 clear Hz; intro _ Hz
 refine wct Hz ?_
 refine zsr fun K5 hK5 => ?_
 refine goCh Hz (.move rfl <| .nilCheck rfl <| .fieldAddr (off := 0) rfl U111 rfl (s := 1) (by kernel_rfl) rfl <| .move rfl .nil) fun Az Hz => ?_
 refine plz (ecl Hz Try.func74 rfl (pfail_x _ _ _ _ _ _ (m16.into [(1, 1)] (by decide) rfl)) ?_)
 rintro e w47 ⟨rfl, hm47⟩
 have mx47 := m16.back hm47 [(1, 1)] (by decide); clear hm47 m16
 have m47 := mx47.oz [1, 2]
 refine ⟨_, rfl, ?_⟩; intro Az Hz
 refine znl (hK5 _ _ ?_)
 replace Hz := Hz.oz [4, 5]
 refine regS Hz (.assign rfl .nil) fun Az Hz => ?_
 refine rt1 Hz ?_
 have m51 := m47.dat 90 rfl (Rd.nilN _ _ .u8 none)
 rw [hN]
 exact ⟨_, _, rfl, m51.ren [(1, 1), (2, 90)] (by decide)⟩
theorem pnum_long (X : Cx) (B : Nat) (b : List Int) (mx : Int) (p : Option Addr) (c : Nat) (w0 : World) (hb : b.length ≤ 1000000) (hbb : BytesL b) (n j : Nat) (hd : dec 0 0 b = .ok n j) (hl : mx < n) (m0 : MemOk X w0 [(1, .box B 111 [.slice p (b).length c, .int .i64 0]), (2, .dat (.slice p (b).length c) (.ns .u8 (b)))] w0) :
   Calls Try.prog 44 #[.pointer (some ⟨B, 0, none⟩), .int .u64 mx] w0 fun e w' => ∃ (p' : Option Addr) (c' : Nat), e = .returned (.int .u64 (numR b 0 mx).1) ∧ MemOk X w0 [(1, .box B 111 [.slice p' ((numR b 0 mx).2.1).length c', .int .i64 (numR b 0 mx).2.2]), (2, .dat (.slice p' ((numR b 0 mx).2.1).length c') (.ns .u8 ((numR b 0 mx).2.1)))] w' := by
 have hN : numR b 0 mx = (0, [], 22) := by rw [numR_val mx hd, if_pos hl]
 refine ent2 Try.func44 rfl Try.ntmps44 fun Az Hz => ?_
 refine regS Hz (.assign rfl .nil) fun Az Hz => ?_
 refine wsk fun K0 hK0 => ?_
 refine regS Hz (.move rfl <| .nilCheck rfl <| .fieldAddr (off := 0) rfl U111 rfl (s := 1) (by kernel_rfl) rfl <| .fa 1 rfl U109 <| .lb m0 1 U44 rfl rfl rfl <| .neq rfl rfl .nil) fun Az Hz => ?_
 refine bc Hz 12 ?_ ?_
 · intro hb _; exact absurd hb (by simp)
 clear Hz; intro _ Hz
 refine wcf Hz ?_
 refine zss (hK0 _ _ ?_)
 replace Hz := Hz.oz [0, 1, 4]
 refine zsr fun K1 hK1 => ?_
 refine goCh Hz (.move rfl <| .nilCheck rfl <| .fieldAddr (off := 0) rfl U111 rfl (s := 1) (by kernel_rfl) rfl .nil) fun Az Hz => ?_
 refine plz (ecl Hz Try.func73 rfl (pnumber_ok _ _ _ _ _ _ _ _ _ hb hbb hd (m0.into [(1, 1), (2, 2)] (by decide) rfl)) ?_)
 rintro e w16 ⟨p16, c16, rfl, hm16⟩
 have mx16 := m0.back hm16 [(1, 1), (2, 2)] (by decide); clear hm16 m0
 have m16 := mx16.oz [1, 2]
 refine ⟨_, rfl, ?_⟩; intro Az Hz
 refine gz hK1 Hz (.move rfl <| .extract rfl rfl <| .extract rfl rfl <| .assign rfl <| .assign rfl <| .nil) fun Az Hz => ?_
 refine wsk fun K2 hK2 => ?_
 replace Hz := Hz.oz [0, 1, 4, 5, 6]
 refine zsr fun K3 hK3 => ?_
 refine goCh Hz (.move rfl <| .eql rfl rfl <| .move rfl .nil) fun Az Hz => ?_
 refine bc Hz 22 ?_ ?_
 rotate_left
 · intro hb _; exact absurd hb (by simp)
 clear Hz; intro _ Hz
 refine gz hK3 Hz (.moveZ rfl <| .moveZ rfl <| .gtrZ rfl rfl <| .pickT rfl rfl <| .nil) fun Az Hz => ?_
 refine bc Hz 26 ?_ ?_
 rotate_left
 · intro hb _; exact absurd hb (by simp; omega)
 clear Hz; intro _ Hz
 refine wct Hz ?_
 replace Hz := Hz.oz [0, 4, 5, 6]
 refine wp_region_lit ?_
 refine gz hK2 Hz (.assign rfl .nil) fun Az Hz => ?_
 refine wsk fun K4 hK4 => ?_
 refine regS Hz (.move rfl <| .neq rfl rfl .nil) fun Az Hz => ?_
 refine bc Hz 28 ?_ ?_
 rotate_left
 · intro hb _; exact absurd hb (by simp)
 clear Hz; intro _ Hz
 refine wct Hz ?_
 refine zsr fun K5 hK5 => ?_
 refine goCh Hz (.move rfl <| .nilCheck rfl <| .fieldAddr (off := 0) rfl U111 rfl (s := 1) (by kernel_rfl) rfl <| .move rfl .nil) fun Az Hz => ?_
 refine plz (ecl Hz Try.func74 rfl (pfail_x _ _ _ _ _ _ (m16.into [(1, 1)] (by decide) rfl)) ?_)
 rintro e w49 ⟨rfl, hm49⟩
 have mx49 := m16.back hm49 [(1, 1)] (by decide); clear hm49 m16
 have m49 := mx49.oz [1, 2]
 refine ⟨_, rfl, ?_⟩; intro Az Hz
 refine znl (hK5 _ _ ?_)
 replace Hz := Hz.oz [4, 5]
 refine regS Hz (.assign rfl .nil) fun Az Hz => ?_
 refine rt1 Hz ?_
 have m53 := m49.dat 90 rfl (Rd.nilN _ _ .u8 none)
 rw [hN]
 exact ⟨_, _, rfl, m53.ren [(1, 1), (2, 90)] (by decide)⟩
theorem pnum_in (X : Cx) (B : Nat) (b : List Int) (mx : Int) (p : Option Addr) (c : Nat) (w0 : World) (hb : b.length ≤ 1000000) (hbb : BytesL b) (n j : Nat) (hd : dec 0 0 b = .ok n j) (hl : (n : Int) ≤ mx) (m0 : MemOk X w0 [(1, .box B 111 [.slice p (b).length c, .int .i64 0]), (2, .dat (.slice p (b).length c) (.ns .u8 (b)))] w0) :
   Calls Try.prog 44 #[.pointer (some ⟨B, 0, none⟩), .int .u64 mx] w0 fun e w' => ∃ (p' : Option Addr) (c' : Nat), e = .returned (.int .u64 (numR b 0 mx).1) ∧ MemOk X w0 [(1, .box B 111 [.slice p' ((numR b 0 mx).2.1).length c', .int .i64 (numR b 0 mx).2.2]), (2, .dat (.slice p' ((numR b 0 mx).2.1).length c') (.ns .u8 ((numR b 0 mx).2.1)))] w' := by
 have hN : numR b 0 mx = ((n : Int), b.drop j, 0) := by rw [numR_val mx hd, if_neg (by omega)]
 refine ent2 Try.func44 rfl Try.ntmps44 fun Az Hz => ?_
 refine regS Hz (.assign rfl .nil) fun Az Hz => ?_
 refine wsk fun K0 hK0 => ?_
 refine regS Hz (.move rfl <| .nilCheck rfl <| .fieldAddr (off := 0) rfl U111 rfl (s := 1) (by kernel_rfl) rfl <| .fa 1 rfl U109 <| .lb m0 1 U44 rfl rfl rfl <| .neq rfl rfl .nil) fun Az Hz => ?_
 refine bc Hz 12 ?_ ?_
 · intro hb _; exact absurd hb (by simp)
 clear Hz; intro _ Hz
 refine wcf Hz ?_
 refine zss (hK0 _ _ ?_)
 replace Hz := Hz.oz [0, 1, 4]
 refine zsr fun K1 hK1 => ?_
 refine goCh Hz (.move rfl <| .nilCheck rfl <| .fieldAddr (off := 0) rfl U111 rfl (s := 1) (by kernel_rfl) rfl .nil) fun Az Hz => ?_
 refine plz (ecl Hz Try.func73 rfl (pnumber_ok _ _ _ _ _ _ _ _ _ hb hbb hd (m0.into [(1, 1), (2, 2)] (by decide) rfl)) ?_)
 rintro e w16 ⟨p16, c16, rfl, hm16⟩
 have mx16 := m0.back hm16 [(1, 1), (2, 2)] (by decide); clear hm16 m0
 have m16 := mx16.oz [1, 2]
 refine ⟨_, rfl, ?_⟩; intro Az Hz
 refine gz hK1 Hz (.move rfl <| .extract rfl rfl <| .extract rfl rfl <| .assign rfl <| .assign rfl <| .nil) fun Az Hz => ?_
 refine wsk fun K2 hK2 => ?_
 replace Hz := Hz.oz [0, 1, 4, 5, 6]
 refine zsr fun K3 hK3 => ?_
 refine goCh Hz (.move rfl <| .eql rfl rfl <| .move rfl .nil) fun Az Hz => ?_
 refine bc Hz 22 ?_ ?_
 rotate_left
 · intro hb _; exact absurd hb (by simp)
 clear Hz; intro _ Hz
 refine gz hK3 Hz (.moveZ rfl <| .moveZ rfl <| .gtrZ rfl rfl <| .pickT rfl rfl <| .nil) fun Az Hz => ?_
 refine bc Hz 26 ?_ ?_
 · intro hb _; exact absurd hb (by simp; omega)
 clear Hz; intro _ Hz
 refine wcf Hz ?_
 refine zss (hK2 _ _ ?_)
 refine wsk fun K4 hK4 => ?_
 replace Hz := Hz.oz [0, 4, 5, 6]
 refine regS Hz (.move rfl <| .neq rfl rfl .nil) fun Az Hz => ?_
 refine bc Hz 28 ?_ ?_
 · intro hb _; exact absurd hb (by simp)
 clear Hz; intro _ Hz
 refine wcf Hz ?_
 refine zss (hK4 _ _ ?_)
 refine regS Hz (.move rfl <| .assign rfl .nil) fun Az Hz => ?_
 refine rt1 Hz ?_
 rw [hN]
 exact ⟨_, _, rfl, m16.ren [(1, 1), (2, 2)] (by decide)⟩
theorem pnum_x (X : Cx) (B : Nat) (b : List Int) (er mx : Int) (p : Option Addr) (c : Nat) (w0 : World) (hb : b.length ≤ 1000000) (hbb : BytesL b) (m0 : MemOk X w0 [(1, .box B 111 [.slice p (b).length c, .int .i64 er]), (2, .dat (.slice p (b).length c) (.ns .u8 (b)))] w0) :
   Calls Try.prog 44 #[.pointer (some ⟨B, 0, none⟩), .int .u64 mx] w0 fun e w' => ∃ (p' : Option Addr) (c' : Nat), e = .returned (.int .u64 (numR b er mx).1) ∧ MemOk X w0 [(1, .box B 111 [.slice p' ((numR b er mx).2.1).length c', .int .i64 (numR b er mx).2.2]), (2, .dat (.slice p' ((numR b er mx).2.1).length c') (.ns .u8 ((numR b er mx).2.1)))] w' := by
 by_cases he : er = 0
 · subst he
   cases hd : dec 0 0 b with
   | err er1 => exact pnum_err X B b mx p c w0 hb hbb er1 hd m0
   | ok n j =>
     by_cases hl : mx < n
     · exact pnum_long X B b mx p c w0 hb hbb n j hd hl m0
     exact pnum_in X B b mx p c w0 hb hbb n j hd (by omega) m0
 exact pnum_bad X B b er mx p c w0 hb hbb he m0
end Go.Proofs.Yteglmahnkfgelaa.K
end
section
namespace Go.Proofs.Yteglmahnkfgelaa.K
open Go.ChangeShapes Go.WideShapes Go.ChangeAt Go.RowKit
set_option linter.unusedVariables false
set_option linter.unusedSimpArgs false
theorem fl109pnw : flatS Try.prog 109 [.slice none 0 0, .int .i64 0] = true := by kernel_rfl
theorem ps111pnw : placesS Try.prog 111 = some [(0, 2)] := by kernel_rfl
set_option maxRecDepth 100000
set_option maxHeartbeats 4000000
theorem numR_all {b y : List Int} {er mx a er2 : Int} (hN : numR b er mx = (a, y, er2)) (hbb : BytesL b) (hb : b.length ≤ 1000000) (h0 : 0 ≤ mx) : (0 ≤ a ∧ a ≤ mx) ∧ y.length ≤ b.length ∧ y.length ≤ 1000000 ∧ BytesL y ∧ ∃ k, k ≤ b.length ∧ y = b.drop k := by
 have h1 := numR_le b er mx h0
 have h2 := numR_len b er mx
 have h3 := numR_sub b er mx
 have h4 := numR_suf b er mx
 rw [hN] at h1 h2 h3 h4
 exact ⟨h1, h2, Nat.le_trans h2 hb, fun x hx => hbb x (h3 x hx), h4⟩
theorem pnew_f (X : Cx) (b : List Int) (p : Option Addr) (c : Nat) (w0 : World) (hb : b.length ≤ 1000000) (m0 : MemOk X w0 [(1, .dat (.slice p b.length c) (.ns .u8 b))] w0) :
   Calls Try.prog 17 #[.slice p b.length c] w0 fun e w' => ∃ (B : Nat) (p' : Option Addr) (c' : Nat), e = .returned (.pointer (some ⟨B, 0, none⟩)) ∧ MemOk X w0 [(1, .box B 111 [.slice p' (b).length c', .int .i64 0]), (2, .dat (.slice p' (b).length c') (.ns .u8 (b))), (3, .dat (.slice p b.length c) (.ns .u8 b))] w' := by
 refine ent1 Try.func17 rfl Try.ntmps17 fun Az Hz => ?_
 refine regS Hz (.assign rfl .nil) fun Az Hz => ?_
 refine zsr fun K0 hK0 => ?_
 refine goCh Hz (.move rfl .nil) fun Az Hz => ?_
 refine plz (e_litR Hz m0 20 (mm := 1) rfl (.cons rfl rfl (.cons (m0.rd (i := 1) rfl) .nil) .nil) U41 fct24 rfl rfl rfl rfl rfl fun g4 Az w5 Hz m5 => ?_)
 have m6 := m5.freezeR 20 rfl
 refine plz (ecn Hz Try.func38 rfl m6 21 (pjoin_is (ls := [b]) (S := b) ((m6.rd (i := 20) rfl).any) (by simp) (by simp [sumLen]; omega) (by simp)) fun p7 c7 Az w7 Hz m8 => ?_)
 refine goCh Hz (.build rfl fct44 fl109pnw rfl (by dsimp only [setL, List.set] <;> rfl) <| .buildG rfl fct45 ps111pnw rfl .nil) fun Az Hz => ?_
 refine plz (e_box Hz m8 22 (cs := [_, _]) rfl rfl rfl fun g12 Az w13 Hz m13 _ _ => ?_)
 refine gz hK0 Hz (.assign rfl .nil) fun Az Hz => ?_
 refine rt1 Hz ?_
 have m15 := m13.freezeN 21 rfl
 exact ⟨_, _, _, rfl, m15.ren [(1, 22), (2, 21), (3, 1)] (by decide)⟩
theorem pleft_x (X : Cx) (B : Nat) (b : List Int) (er : Int) (p : Option Addr) (c : Nat) (w0 : World) (m0 : MemOk X w0 [(1, .box B 111 [.slice p (b).length c, .int .i64 er]), (2, .dat (.slice p (b).length c) (.ns .u8 (b)))] w0) :
   Calls Try.prog 47 #[.pointer (some ⟨B, 0, none⟩)] w0 fun e w' => e = .returned (.int .i64 (b.length : Int)) ∧ MemOk X w0 [(1, .box B 111 [.slice p (b).length c, .int .i64 er]), (2, .dat (.slice p (b).length c) (.ns .u8 (b)))] w' := by
 refine ent1 Try.func47 rfl Try.ntmps47 fun Az Hz => ?_
 refine regS Hz (.assign rfl .nil) fun Az Hz => ?_
 refine regS Hz (.move rfl <| .nilCheck rfl <| .fieldAddr (off := 0) rfl U111 rfl (s := 1) (by kernel_rfl) rfl <| .fa 0 rfl U109 <| .lb m0 1 U22 rfl rfl rfl <| .len rfl U22 <| .assign rfl .nil) fun Az Hz => ?_
 refine rt1 Hz ?_
 exact ⟨rfl, m0.only [1, 2]⟩
theorem perr_x (X : Cx) (B : Nat) (b : List Int) (er : Int) (p : Option Addr) (c : Nat) (w0 : World) (m0 : MemOk X w0 [(1, .box B 111 [.slice p (b).length c, .int .i64 er]), (2, .dat (.slice p (b).length c) (.ns .u8 (b)))] w0) :
   Calls Try.prog 46 #[.pointer (some ⟨B, 0, none⟩)] w0 fun e w' => e = .returned (.int .i64 er) ∧ MemOk X w0 [(1, .box B 111 [.slice p (b).length c, .int .i64 er]), (2, .dat (.slice p (b).length c) (.ns .u8 (b)))] w' := by
 refine ent1 Try.func46 rfl Try.ntmps46 fun Az Hz => ?_
 refine regS Hz (.assign rfl .nil) fun Az Hz => ?_
 refine regS Hz (.move rfl <| .nilCheck rfl <| .fieldAddr (off := 0) rfl U111 rfl (s := 1) (by kernel_rfl) rfl <| .fa 1 rfl U109 <| .lb m0 1 U44 rfl rfl rfl <| .assign rfl .nil) fun Az Hz => ?_
 refine rt1 Hz ?_
 exact ⟨rfl, m0.only [1, 2]⟩
theorem pnum_e {b y : List Int} {er mx a er2 : Int} (hN : numR b er mx = (a, y, er2)) (X : Cx) (B : Nat) (p : Option Addr) (c : Nat) (w0 : World) (hb : b.length ≤ 1000000) (hbb : BytesL b) (m0 : MemOk X w0 [(1, .box B 111 [.slice p (b).length c, .int .i64 er]), (2, .dat (.slice p (b).length c) (.ns .u8 (b)))] w0) :
   Calls Try.prog 44 #[.pointer (some ⟨B, 0, none⟩), .int .u64 mx] w0 fun e w' => ∃ (p' : Option Addr) (c' : Nat), e = .returned (.int .u64 a) ∧ MemOk X w0 [(1, .box B 111 [.slice p' (y).length c', .int .i64 er2]), (2, .dat (.slice p' (y).length c') (.ns .u8 (y)))] w' := by
 have h := pnum_x X B b er mx p c w0 hb hbb m0
 rw [hN] at h
 exact h
end Go.Proofs.Yteglmahnkfgelaa.K
end
