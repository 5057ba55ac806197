/- General laws of walks. -/
import Derived.Test.YtkehgingagggaaaGreatG22
namespace Go.Proofs.YtkehgingagggaaaGreat.K
open Go.ChangeShapes Go.WideShapes Go.ChangeAt Go.RowKit
set_option linter.unusedVariables false
set_option linter.unusedSimpArgs false
section
theorem fl38crx : flatS Tryz.prog 38 [.int .i64 0, .int .i64 0, .int .i64 0, .int .i64 0, .int .i64 0, .slice none 0 0, .int .i64 0, .int .i64 0, .int .i64 0, .slice none 0 0] = true := by kernel_rfl
def cmD (x : Cm) : List D := [.v (.int .i64 x.kd), .v (.int .i64 x.vo), .v (.int .i64 x.bl), .v (.int .i64 x.sz), .v (.int .i64 x.pe), .ns .i64 x.pl, .v (.int .i64 x.to), .v (.int .i64 x.at0), .v (.int .i64 x.ix), .l 2 (x.its.map itD)]
theorem cmD_get {l : List Cm} {k : Nat} {x : Cm} (h : l[k]? = some x) : (l.map cmD)[k]? = some [.v (.int .i64 x.kd), .v (.int .i64 x.vo), .v (.int .i64 x.bl), .v (.int .i64 x.sz), .v (.int .i64 x.pe), .ns .i64 x.pl, .v (.int .i64 x.to), .v (.int .i64 x.at0), .v (.int .i64 x.ix), .l 2 (x.its.map itD)] := by rw [List.getElem?_map, h]; rfl
open Classical in
noncomputable def repL (cs : List Cm) : List VolV := cs.foldl (fun L c => if CmdR c then (mApp L c).1 else L) []
open Classical in
theorem rep_yes {cs : List Cm} {k : Nat} {x : Cm} (h : cs[k]? = some x) (hR : CmdR x) : repL (cs.take (k + 1)) = (mApp (repL (cs.take k)) x).1 := by
 rw [repL, List.take_add_one, h, List.foldl_append]
 show (if CmdR x then _ else _) = _
 rw [if_pos hR]; rfl
open Classical in
theorem rep_no {cs : List Cm} {k : Nat} {x : Cm} (h : cs[k]? = some x) (hR : ¬ CmdR x) : repL (cs.take (k + 1)) = repL (cs.take k) := by
 rw [repL, List.take_add_one, h, List.foldl_append]
 show (if CmdR x then _ else _) = _
 rw [if_neg hR]; rfl
theorem mApp_s {n : Nat} {L L' : List VolV} {c : Cm} {e9 rl rf rn : Int} (h : mApp L c = (L', e9, rl, rf, rn)) (hV : ∀ y ∈ L, VolS n y) (hb : ∀ e ∈ c.its, BytesL e.2) : (∀ y ∈ L', VolS (n + 1) y) ∧ L'.length ≤ L.length + 1 := by
 have same : L' = L → (∀ y ∈ L', VolS (n + 1) y) ∧ L'.length ≤ L.length + 1 := fun e => by subst e; exact ⟨fun y hy => (hV y hy).up (by omega), by omega⟩
 unfold mApp at h
 split at h
 · split at h
   · exact same (Prod.mk.inj h).1.symm
   split at h
   · rename_i hN
     have e := (Prod.mk.inj h).1
     subst e
     refine ⟨fun y hy => ?_, by simp⟩
     rcases List.mem_append.1 hy with hy | hy
     · exact (hV y hy).up (by omega)
     simp at hy; subst hy; exact newV_s hN
   exact same (Prod.mk.inj h).1.symm
 split at h
 · exact same (Prod.mk.inj h).1.symm
 rename_i j hf
 have e := (Prod.mk.inj h).1
 subst e
 obtain ⟨hjl, _, _⟩ := List.findIdx?_eq_some_iff_getElem.1 hf
 refine ⟨fun y hy => ?_, by simp⟩
 rcases List.mem_or_eq_of_mem_set hy with hy | hy
 · exact (hV y hy).up (by omega)
 subst hy
 exact (doV_s (hV (L.getD j volZ) (by rw [List.getD, List.getElem?_eq_getElem hjl]; exact List.getElem_mem hjl)) hb).1
set_option maxRecDepth 100000
set_option maxHeartbeats 4000000
theorem create_e (vx bx sx px to : Int) (w0 : World) (hv : 0 ≤ vx ∧ vx ≤ 255) (hb : 0 ≤ bx ∧ bx ≤ 255) (hs : 0 ≤ sx ∧ sx ≤ 255) (hp : 0 ≤ px ∧ px ≤ 255) :
   Calls Tryz.prog 42 #[.int .u8 vx, .int .u8 bx, .int .u8 sx, .int .u8 px, .int .i64 to] w0 fun e w' => ∃ (bl sz pe : Int) (pl : List Int) (p : Option Addr) (c : Nat), e = .returned (.agg #[.int .i64 1, .int .i64 (vx.tmod 3), .int .i64 bl, .int .i64 sz, .int .i64 pe, .slice p pl.length c, .int .i64 to, .int .i64 0, .int .i64 0, .slice none 0 0]) ∧ bl = bx.tmod 9 + 1 ∧ sz = sx.tmod 3 + 1 ∧ 1 ≤ pe ∧ pe ≤ bl ∧ PlaceOk bl pe pl ∧ pl.length ≤ 9 ∧ Rd (New w0) w' (.slice p pl.length c) (.ns .i64 pl) ∧ Below w0.heap.size w0 w' := by
 refine ent5 Tryz.func42 rfl Tryz.ntmps42 fun Az Hz => ?_
 have m0 := MemOk.start (fun _ => False) w0
 obtain ⟨vm, hvm, hvmb⟩ : ∃ x : Int, vx.tmod 3 = x ∧ 0 ≤ x ∧ x ≤ 2 := ⟨_, rfl, by rw [Int.tmod_eq_emod_of_nonneg (by omega)]; omega, by rw [Int.tmod_eq_emod_of_nonneg (by omega)]; omega⟩
 obtain ⟨b0, hb0, hb0b⟩ : ∃ x : Int, bx.tmod 9 = x ∧ 0 ≤ x ∧ x ≤ 8 := ⟨_, rfl, by rw [Int.tmod_eq_emod_of_nonneg (by omega)]; omega, by rw [Int.tmod_eq_emod_of_nonneg (by omega)]; omega⟩
 obtain ⟨s0, hs0, hs0b⟩ : ∃ x : Int, sx.tmod 3 = x ∧ 0 ≤ x ∧ x ≤ 2 := ⟨_, rfl, by rw [Int.tmod_eq_emod_of_nonneg (by omega)]; omega, by rw [Int.tmod_eq_emod_of_nonneg (by omega)]; omega⟩
 obtain ⟨bl, hbl⟩ : ∃ x : Int, b0 + 1 = x := ⟨_, rfl⟩
 obtain ⟨sz, hsz⟩ : ∃ x : Int, s0 + 1 = x := ⟨_, rfl⟩
 obtain ⟨pm, hpm, hpm1, hpm2⟩ : ∃ x : Int, px.tmod bl = x ∧ 0 ≤ x ∧ x < bl := ⟨_, rfl, by rw [Int.tmod_eq_emod_of_nonneg (by omega)]; exact Int.emod_nonneg _ (by omega), by rw [Int.tmod_eq_emod_of_nonneg (by omega)]; exact Int.emod_lt_of_pos _ (by omega)⟩
 obtain ⟨cc, hcc⟩ : ∃ x : Int, (bl + (pm + 1) - 1) / (pm + 1) = x := ⟨_, rfl⟩
 have hccb : 0 ≤ cc ∧ cc ≤ 9 := by
   rw [← hcc]
   have h1 := Int.ediv_nonneg (show 0 ≤ bl + (pm + 1) - 1 by omega) (show 0 ≤ pm + 1 by omega)
   refine ⟨h1, ?_⟩
   have h2 : (bl + (pm + 1) - 1) / (pm + 1) < 10 := Int.ediv_lt_of_lt_mul (by omega) (by have h10 : 10 * (pm + 1) = 10 * pm + 10 := (by omega); omega)
   omega
 refine zsr fun K0 hK0 => ?_
 refine plz (e_alloc Hz m0 20 fct24 rfl fun g1 Az w2 Hz m2 _ _ => ?_)
 refine znl (hK0 _ _ ?_)
 refine zsr fun K1 hK1 => ?_
 refine goCh Hz (.move rfl <| .rem rfl rfl (by decide) (r := vm) hvm <| .conv rfl U5 U3 (r := vm) (IntWalk.i64_in _ (by omega)) <| .move rfl <| .rem rfl rfl (by decide) (r := b0) hb0 <| .conv rfl U5 U3 (r := b0) (IntWalk.i64_in _ (by omega)) <| .add rfl rfl (r := bl) (by rw [hbl]; exact (IntWalk.i64_in _ (by omega))) <| .move rfl <| .rem rfl rfl (by decide) (r := s0) hs0 <| .conv rfl U5 U3 (r := s0) (IntWalk.i64_in _ (by omega)) <| .add rfl rfl (r := sz) (by rw [hsz]; exact (IntWalk.i64_in _ (by omega))) <| .move rfl <| .build rfl fct24 fl38crx rfl (by dsimp only [setL, List.set] <;> rfl) .nil) fun Az Hz => ?_
 refine plz (e_alloc Hz m2 21 fct24 rfl fun g29 Az w30 Hz m30 _ _ => ?_)
 refine plz (stw Hz m30 21 fct19 fun w31 m31 _ => ?_)
 refine znl (hK1 _ _ ?_)
 replace Hz := Hz.oz [3, 10, 11]
 refine zsr fun K2 hK2 => ?_
 refine goCh Hz (.move rfl <| .conv rfl U5 U3 (r := px) (IntWalk.i64_in _ (by omega)) <| .fa 2 rfl U38 <| .lb m31 21 U3 rfl rfl rfl <| .rem rfl rfl (by omega) (r := pm) hpm <| .add rfl rfl (r := pm + 1) (IntWalk.i64_in _ (by omega)) <| .fa 4 rfl U38 .nil) fun Az Hz => ?_
 refine plz (st1 Hz m31 21 fct15 fun w47 m47 _ => ?_)
 refine znl (hK2 _ _ ?_)
 refine wsk fun K3 hK3 => ?_
 replace Hz := Hz.oz [3, 10, 11]
 refine regS Hz (.assign rfl .nil) fun Az Hz => ?_
 refine wp_block ?_
 refine wp_loop_ghost (fun g a w => ∃ (i A D : Nat) (q : Option Addr) (c : Nat), (i : Int) ≤ cc ∧ g = cc.toNat - i ∧ Has 54 [(3, .int .u8 px), (10, .pointer (some ⟨A, 0, none⟩)), (11, .pointer (some ⟨D, 0, none⟩)), (12, .int .i64 (i : Int))] a ∧ MemOk (cn w0) w0 [(8, .box A 38 [.int .i64 0, .int .i64 0, .int .i64 0, .int .i64 0, .int .i64 0, .slice none 0 0, .int .i64 0, .int .i64 0, .int .i64 0, .slice none 0 0]), (9, .box D 38 [.int .i64 1, .int .i64 vm, .int .i64 bl, .int .i64 sz, .int .i64 (pm + 1), .slice q (crL px i).length c, .int .i64 to, .int .i64 0, .int .i64 0, .slice none 0 0]), (10, .num (.slice q (crL px i).length c) 3 .i64 (crL px i))] w) (cc.toNat) ?_ ?_
 · have mz := m47.nilN 10 3 .i64
   exact ⟨0, _, _, _, _, by omega, rfl, Hz.only [3, 10, 11, 12], mz.ren [(8, 20), (9, 21), (10, 10)] (by decide)⟩
 clear Hz m47
 rintro g Az w50 ⟨i, A, D, q, c, hic, hg, Hz, m50⟩
 refine wsk fun K4 hK4 => ?_
 refine zsr fun K5 hK5 => ?_
 refine goCh Hz (.move rfl <| .fa 2 rfl U38 <| .lb m50 9 U3 rfl rfl rfl <| .fa 4 rfl U38 <| .lb m50 9 U3 rfl rfl rfl .nil) fun Az Hz => ?_
 refine plz (ecb Hz Tryz.func91 rfl m50 (chunks_any bl (pm + 1) _ (by omega) (by omega)) fun Az w61 Hz m62 => ?_)
 refine gz hK5 Hz (.lss rfl rfl .nil) fun Az Hz => ?_
 refine bc Hz 39 ?_ ?_
 ·
  intro hb65 Hz; try simp only [QQ, Qax] at hb65
  rw [hcc] at hb65
  have hi9 : (i : Int) < cc := by omega
  refine wct Hz ?_
  refine zss (hK4 _ _ ?_)
  refine wsk fun K6 hK6 => ?_
  refine wp_block ?_
  replace Hz := Hz.oz [3, 10, 11, 12, 38]
  refine wp_region_lit ?_
  refine goCh Hz (.fa 5 rfl U38 <| .lb m62 9 U35 rfl rfl rfl <| .move rfl <| .move rfl <| .conv rfl U5 U3 (r := px) (IntWalk.i64_in _ (by omega)) <| .add rfl rfl (r := (i : Int) + px) (IntWalk.i64_in _ (by omega)) <| .rem rfl rfl (by decide) (Int.tmod_eq_emod_of_nonneg (by omega)) <| .add rfl rfl (r := 1 + ((i : Int) + px) % 2) (IntWalk.i64_in _ (by omega)) .nil) fun Az Hz => ?_
  refine plz (e_litN Hz m62 100 (k := .i64) rfl rfl U35 fct17 rfl rfl rfl rfl fun g75 Az w76 Hz m76 => ?_)
  refine plz (e_appN Hz m76 10 rfl rfl rfl (m76.numsO (i := 100) rfl) U35 fct17 (by decide) (by simp [crL_len]; omega) rfl fun p77 c77 Az w78 Hz m78 => ?_)
  refine goCh Hz (.fieldAddr (off := 5) rfl U38 rfl (s := 0) (by kernel_rfl) rfl .nil) fun Az Hz => ?_
  refine plz (st1 Hz m78 9 fct10 fun w80 m80 _ => ?_)
  refine znl (hK6 _ _ ?_)
  replace Hz := Hz.oz [3, 10, 11, 12, 38]
  refine wp_region_lit ?_
  refine goCh Hz (.move rfl <| .inc (i + 1) <| .assign rfl .nil) fun Az Hz => ?_
  refine wpList_nil ?_
  show ∃ n', n' < _ ∧ _
  have hE : crL px i ++ [1 + ((i : Int) + px) % 2] = crL px (i + 1) := (crL_snoc px i).symm
  rw [hE] at m80
  exact ⟨cc.toNat - (i + 1), by omega, i + 1, _, _, _, _, by omega, rfl, Hz.only [3, 10, 11, 12], m80.only [8, 9, 10]⟩
 intro hb65 Hz; try simp only [QQ, Qax] at hb65
 rw [hcc] at hb65
 have hi9 : (i : Int) = cc := by omega
 refine wcf Hz ?_
 refine wp_exit ?_
 refine hK3 _ _ ?_
 replace Hz := Hz.oz [3, 10, 11, 12, 38]
 refine zsr fun K7 hK7 => ?_
 refine goCh Hz (.loadBR m62 (i := 9) rfl rfl U38 rfl fct19 (by simp) (by dsimp only [List.drop, List.take] <;> rfl) .nil) fun Az Hz => ?_
 refine plz (stw Hz m62 8 fct19 fun w88 m88 _ => ?_)
 refine znl (hK7 _ _ ?_)
 refine rtd (retC (fn := Tryz.f42) Hz m88 (i := 8) rfl rfl rfl U38 rfl fct19 ?_)
 have m89 := m88.freezeN 10 rfl
 exact ⟨bl, sz, pm + 1, crL px i, _, _, by rw [hvm], by omega, by omega, by omega, by omega, ⟨crL_ok px i, by rw [crL_len, hcc]; exact hi9⟩, by rw [crL_len]; omega, m89.outF (i := 10) rfl, m89.below⟩
theorem replay_x (cs : List Cm) (pl : Option Addr) (nl cl : Nat) (w0 : World) (h1 : Rd (fun _ => True) w0 (.slice pl nl cl) (.l 10 (cs.map cmD))) (hby : ∀ c ∈ cs, ∀ e ∈ c.its, BytesL e.2) (hl : cs.length ≤ 500) :
   Calls Tryz.prog 33 #[.slice pl nl cl] w0 fun e w' => ∃ (p : Option Addr) (c : Nat), e = .returned (.slice p ((allL (repL cs)).map volD).length c) ∧ Rd (New w0) w' (.slice p ((allL (repL cs)).map volD).length c) (.l 11 ((allL (repL cs)).map volD)) ∧ Below w0.heap.size w0 w' := by
 obtain rfl : nl = cs.length := by obtain ⟨pq, cq, hv, _⟩ := h1.l_shape; injection hv with _ e2 _; rw [List.length_map] at e2; exact e2
 refine ent1 Tryz.func33 rfl Tryz.ntmps33 fun Az Hz => ?_
 have m0 := MemOk.start (fun _ => False) w0
 refine regS Hz (.assign rfl .nil) fun Az Hz => ?_
 refine zsr fun K0 hK0 => ?_
 refine plz (ecl Hz Tryz.func9 rfl (mnew_x _ _ (m0.into [] (by decide) rfl)) ?_)
 rintro e w2 ⟨B, G, rfl, hm2⟩
 have mx2 := m0.back hm2 [(1, 1), (2, 2)] (by decide); clear hm2 m0
 have m2 := mx2.oz [1, 2]
 refine ⟨_, rfl, ?_⟩; intro Az Hz
 refine gz hK0 Hz (.assign rfl .nil) fun Az Hz => ?_
 refine wsk fun K1 hK1 => ?_
 refine regS Hz (.move rfl <| .len rfl U24 <| .move rfl .nil) fun Az Hz => ?_
 refine wp_block ?_
 refine wp_loop_ghost (fun g a w => ∃ (k B G : Nat) (L : List VolV), k ≤ cs.length ∧ L = repL (cs.take k) ∧ (∀ y ∈ L, VolS k y) ∧ L.length ≤ k ∧ g = cs.length - k ∧ Has 28 [(3, .pointer (some ⟨B, 0, none⟩)), (9, .slice pl cs.length cl), (10, .int .i64 cs.length), (11, .int .i64 k)] a ∧ MemOk (cn w0) w0 [(1, .box B 87 [.map (some G)]), (2, .mp G 11 ((L).map keyV) ((L).map volD))] w) (cs.length) ?_ ?_
 · exact ⟨0, _, _, [], Nat.zero_le _, rfl, (fun y hy => by cases hy), Nat.le_refl _, rfl, Hz.only [3, 9, 10, 11], m2.only [1, 2]⟩
 clear Hz m2
 rintro g Az w8 ⟨k, B, G, L, hkl, hLe, hV, hLl, hg, Hz, m8⟩
 refine regS Hz (.lss rfl rfl .nil) fun Az Hz => ?_
 refine wsk fun K2 hK2 => ?_
 refine bc Hz 12 ?_ ?_
 ·
  intro hb10 Hz; try simp only [QQ, Qax] at hb10
  have hk : k < cs.length := by omega
  obtain ⟨x, hes⟩ : ∃ e, cs[k]? = some e := ⟨_, List.getElem?_eq_getElem hk⟩
  have hxb := hby _ (List.mem_of_getElem? hes)
  refine wct Hz ?_
  refine zss (hK2 _ _ ?_)
  refine wsk fun K3 hK3 => ?_
  refine wp_block ?_
  refine zsr fun K4 hK4 => ?_
  obtain ⟨gx12, ox12, vx12, hp12, hl12, hR12, hrg12⟩ := h1.extA (k) (r := [.v (.int .i64 x.kd), .v (.int .i64 x.vo), .v (.int .i64 x.bl), .v (.int .i64 x.sz), .v (.int .i64 x.pe), .ns .i64 x.pl, .v (.int .i64 x.to), .v (.int .i64 x.at0), .v (.int .i64 x.ix), .l 2 (x.its.map itD)]) (cmD_get hes)
  revert Hz
  cases hp12
  rcases hR12 with _ | ⟨hd12_0, _ | ⟨hd12_1, _ | ⟨hd12_2, _ | ⟨hd12_3, _ | ⟨hd12_4, _ | ⟨hd12_5, _ | ⟨hd12_6, _ | ⟨hd12_7, _ | ⟨hd12_8, _ | ⟨hd12_9, _ | _⟩⟩⟩⟩⟩⟩⟩⟩⟩⟩
  obtain rfl := hd12_0.v_out
  clear hd12_0
  obtain rfl := hd12_1.v_out
  clear hd12_1
  obtain rfl := hd12_2.v_out
  clear hd12_2
  obtain rfl := hd12_3.v_out
  clear hd12_3
  obtain rfl := hd12_4.v_out
  clear hd12_4
  obtain ⟨p13, c13, hv13, hw13⟩ := hd12_5.ns_shape; subst hv13
  obtain rfl := hd12_6.v_out
  clear hd12_6
  obtain rfl := hd12_7.v_out
  clear hd12_7
  obtain rfl := hd12_8.v_out
  clear hd12_8
  obtain ⟨p14, c14, hv14, hw14⟩ := hd12_9.l_shape; subst hv14
  intro Hz
  refine goCh Hz (.c rfl (fun _ h_ => y_idx h_ rfl rfl U24 fct19 (k) rfl hk) <| .loadAt (hrg12 m8 rfl) rfl U38 rfl fct19 .nil) fun Az Hz => ?_
  refine plz (e_alloc Hz m8 102 fct24 rfl fun g17 Az w18 Hz m18 _ _ => ?_)
  refine plz (stw Hz m18 102 fct19 fun w19 m19 _ => ?_)
  refine znl (hK4 _ _ ?_)
  refine wsk fun K5 hK5 => ?_
  rcases Classical.em (CmdR x) with hR | hR
  ·
   refine wp_region_lit ?_
   refine goCh Hz (.loadBR m19 (i := 102) rfl rfl U38 rfl fct19 (by simp) (by dsimp only [List.drop, List.take] <;> rfl) .nil) fun Az Hz => ?_
   refine plz (ecn Hz Tryz.func25 rfl m19 103 (putCmd_yes x hR _ _ _ _ _ _ ((hd12_5.now' m19 rfl).any) ((hd12_9.now' m19 rfl).any)) fun p21 c21 Az w21 Hz m22 => ?_)
   refine gz hK5 Hz (.move rfl <| .extract rfl rfl <| .extract rfl rfl <| .assign rfl <| .assign rfl <| .nil) fun Az Hz => ?_
   replace Hz := Hz.oz [3, 9, 10, 11, 6, 7]
   refine regS Hz (.move rfl <| .eql rfl rfl .nil) fun Az Hz => ?_
   refine bc Hz 21 ?_ ?_
   rotate_left
   · intro hb _; exact absurd hb (by simp)
   clear Hz; intro _ Hz
   refine wct Hz ?_
   refine wp_region_lit ?_
   refine goCh Hz (.move rfl <| .move rfl .nil) fun Az Hz => ?_
   have m35 := m22.freezeN 103 rfl
   refine plz (ecl Hz Tryz.func14 rfl (apply_x _ _ _ L x hR hxb k (by omega) hV _ _ _ (m35.into [(1, 1), (2, 2), (3, 103)] (by decide) rfl)) ?_)
   rintro e w36 ⟨L', e9, rl, rf, rn, rfl, hap, hm36⟩
   have mx36 := m35.back hm36 [(1, 1), (2, 2)] (by decide); clear hm36 m35
   have m36 := mx36.oz [1, 2, 102]
   refine ⟨_, rfl, ?_⟩; intro Az Hz
   refine znl (hK3 _ _ ?_)
   replace Hz := Hz.oz [3, 9, 10, 11]
   refine wp_region_lit ?_
   refine goCh Hz (.inc (k + 1) <| .move rfl .nil) fun Az Hz => ?_
   refine wpList_nil ?_
   show ∃ n', n' < _ ∧ _
   exact ⟨cs.length - (k + 1), by omega, k + 1, _, _, L', by omega, by rw [rep_yes hes hR, ← hLe, hap], (mApp_s hap hV hxb).1, Nat.le_trans (mApp_s hap hV hxb).2 (by omega), rfl, Hz.only [3, 9, 10, 11], m36.only [1, 2]⟩
  refine wp_region_lit ?_
  refine goCh Hz (.loadBR m19 (i := 102) rfl rfl U38 rfl fct19 (by simp) (by dsimp only [List.drop, List.take] <;> rfl) .nil) fun Az Hz => ?_
  refine plz (ecb Hz Tryz.func25 rfl m19 (putCmd_no x hR _ _ _ _ _ _ ((hd12_5.now' m19 rfl).any) ((hd12_9.now' m19 rfl).any)) fun Az w42 Hz m43 => ?_)
  refine gz hK5 Hz (.move rfl <| .extract rfl rfl <| .extract rfl rfl <| .assign rfl <| .assign rfl <| .nil) fun Az Hz => ?_
  replace Hz := Hz.oz [3, 9, 10, 11, 6, 7]
  refine regS Hz (.move rfl <| .eql rfl rfl .nil) fun Az Hz => ?_
  refine bc Hz 21 ?_ ?_
  · intro hb _; exact absurd hb (by simp)
  clear Hz; intro _ Hz
  refine wcf Hz ?_
  refine zss (hK3 _ _ ?_)
  refine wp_region_lit ?_
  refine goCh Hz (.inc (k + 1) <| .move rfl .nil) fun Az Hz => ?_
  refine wpList_nil ?_
  show ∃ n', n' < _ ∧ _
  exact ⟨cs.length - (k + 1), by omega, k + 1, _, _, L, by omega, by rw [rep_no hes hR, ← hLe], fun y hy => (hV y hy).up (by omega), by omega, rfl, Hz.only [3, 9, 10, 11], m43.only [1, 2]⟩
 intro hb10 Hz; try simp only [QQ, Qax] at hb10
 revert Hz
 obtain rfl : k = cs.length := by omega
 intro Hz
 refine wcf Hz ?_
 refine wp_exit ?_
 refine hK1 _ _ ?_
 refine zsr fun K6 hK6 => ?_
 refine goCh Hz (.move rfl .nil) fun Az Hz => ?_
 refine plz (ecl Hz Tryz.func17 rfl (all_x _ _ _ L _ cs.length (by omega) hV (by omega) (m8.into [(1, 1), (2, 2)] (by decide) rfl)) ?_)
 rintro e w58 ⟨p58, c58, rfl, hm58⟩
 have mx58 := m8.back hm58 [(1, 1), (2, 2), (9, 3)] (by decide); clear hm58 m8
 have m58 := mx58.oz [1, 2, 9]
 refine ⟨_, rfl, ?_⟩; intro Az Hz
 refine gz hK6 Hz (.assign rfl .nil) fun Az Hz => ?_
 refine rt1 Hz ?_
 rw [List.take_length] at hLe
 revert Hz
 subst hLe
 intro Hz
 exact ⟨_, _, rfl, m58.outF (i := 9) rfl, m58.below⟩
theorem rDo_v (X : Cx) (x : VolV) (c : Cm) (n : Nat) (hx : VolS n x) (hn : n ≤ 800000) (hil : c.its.length ≤ 1000000) (hio : ItsOk c.its) (p1 p2 p3 q1 pi : Option Addr) (c1 c2 c3 n1 d1 ci : Nat) (v1 v2 v3 v4 v5 : Int) (w0 : World) (m0 : MemOk X w0 [(1, .dat (.slice p1 x.place.length c1) (.ns .i64 x.place)), (2, .dat (.slice p2 x.pins.length c2) (.ns .i64 x.pins)), (3, .dat (.slice p3 (x.ws.map wrD).length c3) (.l 2 (x.ws.map wrD))), (4, .dat (.slice pi c.its.length ci) (.l 2 (c.its.map itD)))] w0) :
   Calls Tryz.prog 40 #[.agg #[.int .i64 x.vo, .int .i64 x.bl, .int .i64 x.sz, .int .i64 x.pe, .slice p1 x.place.length c1, .int .i64 x.to, .int .i64 x.ne, .bool x.hi, .int .i64 x.fl, .slice p2 x.pins.length c2, .slice p3 (x.ws.map wrD).length c3], .agg #[.int .i64 c.kd, .int .i64 v1, .int .i64 v2, .int .i64 v3, .int .i64 v4, .slice q1 n1 d1, .int .i64 v5, .int .i64 c.at0, .int .i64 c.ix, .slice pi c.its.length ci]] w0 fun e w' => ∃ (y : VolV) (e9 rl rf rn : Int) (p1 p2 p3 : Option Addr) (d1 d2 d3 : Nat), e = .returned (.tuple #[.agg #[.int .i64 y.vo, .int .i64 y.bl, .int .i64 y.sz, .int .i64 y.pe, .slice p1 y.place.length d1, .int .i64 y.to, .int .i64 y.ne, .bool y.hi, .int .i64 y.fl, .slice p2 y.pins.length d2, .slice p3 (y.ws.map wrD).length d3], .agg #[.int .i64 e9, .int .i64 rl, .int .i64 rf, .int .i64 rn, .slice none 0 0]]) ∧ doV x c = (y, e9) ∧ repV y e9 = (rl, rf, rn) ∧ MemOk X w0 [(1, .dat (.slice p1 y.place.length d1) (.ns .i64 y.place)), (2, .dat (.slice p2 y.pins.length d2) (.ns .i64 y.pins)), (3, .dat (.slice p3 (y.ws.map wrD).length d3) (.l 2 (y.ws.map wrD)))] w' := by
 obtain ⟨vo, bl, sz, pe, place, to, ne, hi, fl, pins, ws⟩ := x
 obtain ⟨kd, cvo, cbl, csz, cpe, cpl, cto, at0, ix, its⟩ := c
 obtain ⟨h1, h2, h3, h4, h5⟩ := hx
 simp only at *
 have hne : -1000000000000000 ≤ ne ∧ ne ≤ 1000000000000000 := by
   obtain ⟨⟨a1, a2, a3, a4, a5, a6, a7, a8, a9, a10, a11⟩, b1, b2, b3⟩ := h1
   omega
 by_cases k4 : kd = 4
 · subst k4
   refine (rDo4 X vo bl sz pe to ne fl hi place pins ws p1 p2 p3 c1 c2 c3 v1 v2 v3 v4 v5 at0 ix q1 n1 d1 pi its.length ci w0 (by omega) h1.sorted (m0.only [1, 2, 3])).mono ?_
   rintro e w' ⟨pins', e9, rl, rf, rn, p2', d2', rfl, hd, hr, m⟩
   refine ⟨⟨vo, bl, sz, pe, place, to, ne, hi, fl, pins', ws⟩, e9, rl, rf, rn, _, _, _, _, _, _, rfl, ?_, repV_of hr, m.ren [(1, 1), (2, 6), (3, 3)] (by decide)⟩
   simp only [doV, if_true, hd]
 by_cases k5 : kd = 5
 · subst k5
   refine (rDo5 X vo bl sz pe to ne fl hi place pins ws p1 p2 p3 c1 c2 c3 v1 v2 v3 v4 v5 at0 ix q1 n1 d1 pi its.length ci w0 (by omega) (m0.only [1, 2, 3])).mono ?_
   rintro e w' ⟨pins', e9, rl, rf, rn, p2', d2', rfl, hd, hr, m⟩
   refine ⟨⟨vo, bl, sz, pe, place, to, ne, hi, fl, pins', ws⟩, e9, rl, rf, rn, _, _, _, _, _, _, rfl, ?_, repV_of hr, m.ren [(1, 1), (2, 6), (3, 3)] (by decide)⟩
   simp only [doV, hd]; rfl
 refine (rDo X vo bl sz pe to ne fl hi place pins ws its p1 p2 p3 c1 c2 c3 pi ci kd v1 v2 v3 v4 v5 at0 ix q1 n1 d1 w0 k4 k5 hne (by omega) (by omega) hil hio m0).mono ?_
 rintro e w' ⟨ne', hi', fl', ws', e9, rl, rf, rn, p3', d3', rfl, hd, hr, m⟩
 refine ⟨⟨vo, bl, sz, pe, place, to, ne', hi', fl', pins, ws'⟩, e9, rl, rf, rn, _, _, _, _, _, _, rfl, ?_, repV_of hr, m.ren [(1, 1), (2, 2), (3, 7)] (by decide)⟩
 simp only [doV, if_neg k4, if_neg k5, hd]
end
end Go.Proofs.YtkehgingagggaaaGreat.K
