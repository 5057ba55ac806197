/- General laws of walks. -/
import Derived.Test.YtkehgingagggaaaGreatG24
namespace Go.Proofs.YtkehgingagggaaaGreat.K
open Go.ChangeShapes Go.WideShapes Go.ChangeAt Go.RowKit
set_option linter.unusedVariables false
set_option linter.unusedSimpArgs false
section
theorem fl38crx : flatS Tryz.prog 38 [.int .i64 0, .int .i64 0, .int .i64 0, .int .i64 0, .int .i64 0, .slice none 0 0, .int .i64 0, .int .i64 0, .int .i64 0, .slice none 0 0] = true := by kernel_rfl
def cmD (x : Cm) : List D := [.v (.int .i64 x.kd), .v (.int .i64 x.vo), .v (.int .i64 x.bl), .v (.int .i64 x.sz), .v (.int .i64 x.pe), .ns .i64 x.pl, .v (.int .i64 x.to), .v (.int .i64 x.at0), .v (.int .i64 x.ix), .l 2 (x.its.map itD)]
theorem cmD_get {l : List Cm} {k : Nat} {x : Cm} (h : l[k]? = some x) : (l.map cmD)[k]? = some [.v (.int .i64 x.kd), .v (.int .i64 x.vo), .v (.int .i64 x.bl), .v (.int .i64 x.sz), .v (.int .i64 x.pe), .ns .i64 x.pl, .v (.int .i64 x.to), .v (.int .i64 x.at0), .v (.int .i64 x.ix), .l 2 (x.its.map itD)] := by rw [List.getElem?_map, h]; rfl
open Classical in
noncomputable def repL (cs : List Cm) : List VolV := cs.foldl (fun L c => if CmdR c then (mApp L c).1 else L) []
open Classical in
theorem rep_yes {cs : List Cm} {k : Nat} {x : Cm} (h : cs[k]? = some x) (hR : CmdR x) : repL (cs.take (k + 1)) = (mApp (repL (cs.take k)) x).1 := by
 rw [repL, List.take_add_one, h, List.foldl_append]
 show (if CmdR x then _ else _) = _
 rw [if_pos hR]; rfl
open Classical in
theorem rep_no {cs : List Cm} {k : Nat} {x : Cm} (h : cs[k]? = some x) (hR : ¬ CmdR x) : repL (cs.take (k + 1)) = repL (cs.take k) := by
 rw [repL, List.take_add_one, h, List.foldl_append]
 show (if CmdR x then _ else _) = _
 rw [if_neg hR]; rfl
theorem mApp_s {n : Nat} {L L' : List VolV} {c : Cm} {e9 rl rf rn : Int} (h : mApp L c = (L', e9, rl, rf, rn)) (hV : ∀ y ∈ L, VolS n y) (hb : ∀ e ∈ c.its, BytesL e.2) : (∀ y ∈ L', VolS (n + 1) y) ∧ L'.length ≤ L.length + 1 := by
 have same : L' = L → (∀ y ∈ L', VolS (n + 1) y) ∧ L'.length ≤ L.length + 1 := fun e => by subst e; exact ⟨fun y hy => (hV y hy).up (by omega), by omega⟩
 unfold mApp at h
 split at h
 · split at h
   · exact same (Prod.mk.inj h).1.symm
   split at h
   · rename_i hN
     have e := (Prod.mk.inj h).1
     subst e
     refine ⟨fun y hy => ?_, by simp⟩
     rcases List.mem_append.1 hy with hy | hy
     · exact (hV y hy).up (by omega)
     simp at hy; subst hy; exact newV_s hN
   exact same (Prod.mk.inj h).1.symm
 split at h
 · exact same (Prod.mk.inj h).1.symm
 rename_i j hf
 have e := (Prod.mk.inj h).1
 subst e
 obtain ⟨hjl, _, _⟩ := List.findIdx?_eq_some_iff_getElem.1 hf
 refine ⟨fun y hy => ?_, by simp⟩
 rcases List.mem_or_eq_of_mem_set hy with hy | hy
 · exact (hV y hy).up (by omega)
 subst hy
 exact (doV_s (hV (L.getD j volZ) (by rw [List.getD, List.getElem?_eq_getElem hjl]; exact List.getElem_mem hjl)) hb).1
theorem doR_pre {bl sz to ne fl at0 ix : Int} {hi : Bool} {pins : List Int} {ws : List PWr} {kd : Int} {it : List PI} {ne' fl' e9 : Int} {hi' : Bool} {ws' : List PWr} (h : doR bl sz to ne fl hi pins ws kd at0 ix it = (ne', hi', fl', ws', e9)) : ∃ t, ws' = ws ++ t := by
 unfold doR at h
 repeat' split at h
 · unfold putR wrR at h; repeat' split at h
   all_goals first | exact ⟨[], by have := congrArg (fun x => x.2.2.2.1) h; simpa using this.symm⟩ | exact ⟨_, (congrArg (fun x => x.2.2.2.1) h).symm⟩
 · unfold pruneR at h; repeat' split at h
   all_goals exact ⟨[], by have := congrArg (fun x => x.2.2.2.1) h; simpa using this.symm⟩
 · unfold takeR wrR at h; repeat' split at h
   all_goals first | exact ⟨[], by have := congrArg (fun x => x.2.2.2.1) h; simpa using this.symm⟩ | exact ⟨_, (congrArg (fun x => x.2.2.2.1) h).symm⟩
 · unfold publishR at h; repeat' split at h
   all_goals exact ⟨[], by have := congrArg (fun x => x.2.2.2.1) h; simpa using this.symm⟩
 · exact ⟨[], by have := congrArg (fun x => x.2.2.2.1) h; simpa using this.symm⟩
 exact ⟨[], by have := congrArg (fun x => x.2.2.2.1) h; simpa using this.symm⟩
theorem doV_pre {x y : VolV} {c : Cm} {e : Int} (h : doV x c = (y, e)) : shpE x y ∧ ∃ t, y.ws = x.ws ++ t := by
 unfold doV at h
 split at h
 · have e := (Prod.mk.inj h).1; subst e; exact ⟨⟨rfl, rfl, rfl, rfl, rfl, rfl⟩, [], by simp⟩
 split at h
 · have e := (Prod.mk.inj h).1; subst e; exact ⟨⟨rfl, rfl, rfl, rfl, rfl, rfl⟩, [], by simp⟩
 have e := (Prod.mk.inj h).1; subst e
 obtain ⟨a, b, d, f, g, hd⟩ : ∃ a b d f g, doR x.bl x.sz x.to x.ne x.fl x.hi x.pins x.ws c.kd c.at0 c.ix c.its = (a, b, d, f, g) := ⟨_, _, _, _, _, rfl⟩
 obtain ⟨t, ht⟩ := doR_pre hd
 exact ⟨⟨rfl, rfl, rfl, rfl, rfl, rfl⟩, t, by simp only [hd]; exact ht⟩
set_option maxRecDepth 100000
set_option maxHeartbeats 4000000
theorem create_e (vx bx sx px to : Int) (w0 : World) (hv : 0 ≤ vx ∧ vx ≤ 255) (hb : 0 ≤ bx ∧ bx ≤ 255) (hs : 0 ≤ sx ∧ sx ≤ 255) (hp : 0 ≤ px ∧ px ≤ 255) :
   Calls Tryz.prog 42 #[.int .u8 vx, .int .u8 bx, .int .u8 sx, .int .u8 px, .int .i64 to] w0 fun e w' => ∃ (bl sz pe : Int) (pl : List Int) (p : Option Addr) (c : Nat), e = .returned (.agg #[.int .i64 1, .int .i64 (vx.tmod 3), .int .i64 bl, .int .i64 sz, .int .i64 pe, .slice p pl.length c, .int .i64 to, .int .i64 0, .int .i64 0, .slice none 0 0]) ∧ bl = bx.tmod 9 + 1 ∧ sz = sx.tmod 3 + 1 ∧ 1 ≤ pe ∧ pe ≤ bl ∧ PlaceOk bl pe pl ∧ pl.length ≤ 9 ∧ Rd (New w0) w' (.slice p pl.length c) (.ns .i64 pl) ∧ Below w0.heap.size w0 w' := by
 refine ent5 Tryz.func42 rfl Tryz.ntmps42 fun Az Hz => ?_
 have m0 := MemOk.start (fun _ => False) w0
 obtain ⟨vm, hvm, hvmb⟩ : ∃ x : Int, vx.tmod 3 = x ∧ 0 ≤ x ∧ x ≤ 2 := ⟨_, rfl, by rw [Int.tmod_eq_emod_of_nonneg (by omega)]; omega, by rw [Int.tmod_eq_emod_of_nonneg (by omega)]; omega⟩
 obtain ⟨b0, hb0, hb0b⟩ : ∃ x : Int, bx.tmod 9 = x ∧ 0 ≤ x ∧ x ≤ 8 := ⟨_, rfl, by rw [Int.tmod_eq_emod_of_nonneg (by omega)]; omega, by rw [Int.tmod_eq_emod_of_nonneg (by omega)]; omega⟩
 obtain ⟨s0, hs0, hs0b⟩ : ∃ x : Int, sx.tmod 3 = x ∧ 0 ≤ x ∧ x ≤ 2 := ⟨_, rfl, by rw [Int.tmod_eq_emod_of_nonneg (by omega)]; omega, by rw [Int.tmod_eq_emod_of_nonneg (by omega)]; omega⟩
 obtain ⟨bl, hbl⟩ : ∃ x : Int, b0 + 1 = x := ⟨_, rfl⟩
 obtain ⟨sz, hsz⟩ : ∃ x : Int, s0 + 1 = x := ⟨_, rfl⟩
 obtain ⟨pm, hpm, hpm1, hpm2⟩ : ∃ x : Int, px.tmod bl = x ∧ 0 ≤ x ∧ x < bl := ⟨_, rfl, by rw [Int.tmod_eq_emod_of_nonneg (by omega)]; exact Int.emod_nonneg _ (by omega), by rw [Int.tmod_eq_emod_of_nonneg (by omega)]; exact Int.emod_lt_of_pos _ (by omega)⟩
 obtain ⟨cc, hcc⟩ : ∃ x : Int, (bl + (pm + 1) - 1) / (pm + 1) = x := ⟨_, rfl⟩
 have hccb : 0 ≤ cc ∧ cc ≤ 9 := by
   rw [← hcc]
   have h1 := Int.ediv_nonneg (show 0 ≤ bl + (pm + 1) - 1 by omega) (show 0 ≤ pm + 1 by omega)
   refine ⟨h1, ?_⟩
   have h2 : (bl + (pm + 1) - 1) / (pm + 1) < 10 := Int.ediv_lt_of_lt_mul (by omega) (by have h10 : 10 * (pm + 1) = 10 * pm + 10 := (by omega); omega)
   omega
 refine zsr fun K0 hK0 => ?_
 refine plz (e_alloc Hz m0 20 fct24 rfl fun g1 Az w2 Hz m2 _ _ => ?_)
 refine znl (hK0 _ _ ?_)
 refine zsr fun K1 hK1 => ?_
 refine goCh Hz (.move rfl <| .rem rfl rfl (by decide) (r := vm) hvm <| .conv rfl U5 U3 (r := vm) (IntWalk.i64_in _ (by omega)) <| .move rfl <| .rem rfl rfl (by decide) (r := b0) hb0 <| .conv rfl U5 U3 (r := b0) (IntWalk.i64_in _ (by omega)) <| .add rfl rfl (r := bl) (by rw [hbl]; exact (IntWalk.i64_in _ (by omega))) <| .move rfl <| .rem rfl rfl (by decide) (r := s0) hs0 <| .conv rfl U5 U3 (r := s0) (IntWalk.i64_in _ (by omega)) <| .add rfl rfl (r := sz) (by rw [hsz]; exact (IntWalk.i64_in _ (by omega))) <| .move rfl <| .build rfl fct24 fl38crx rfl (by dsimp only [setL, List.set] <;> rfl) .nil) fun Az Hz => ?_
 refine plz (e_alloc Hz m2 21 fct24 rfl fun g29 Az w30 Hz m30 _ _ => ?_)
 refine plz (stw Hz m30 21 fct20 fun w31 m31 _ => ?_)
 refine znl (hK1 _ _ ?_)
 replace Hz := Hz.oz [3, 10, 11]
 refine zsr fun K2 hK2 => ?_
 refine goCh Hz (.move rfl <| .conv rfl U5 U3 (r := px) (IntWalk.i64_in _ (by omega)) <| .fa 2 rfl U38 <| .lb m31 21 U3 rfl rfl rfl <| .rem rfl rfl (by omega) (r := pm) hpm <| .add rfl rfl (r := pm + 1) (IntWalk.i64_in _ (by omega)) <| .fa 4 rfl U38 .nil) fun Az Hz => ?_
 refine plz (st1 Hz m31 21 fct15 fun w47 m47 _ => ?_)
 refine znl (hK2 _ _ ?_)
 refine wsk fun K3 hK3 => ?_
 replace Hz := Hz.oz [3, 10, 11]
 refine regS Hz (.assign rfl .nil) fun Az Hz => ?_
 refine wp_block ?_
 refine wp_loop_ghost (fun g a w => ∃ (i A D : Nat) (q : Option Addr) (c : Nat), (i : Int) ≤ cc ∧ g = cc.toNat - i ∧ Has 54 [(3, .int .u8 px), (10, .pointer (some ⟨A, 0, none⟩)), (11, .pointer (some ⟨D, 0, none⟩)), (12, .int .i64 (i : Int))] a ∧ MemOk (cn w0) w0 [(8, .box A 38 [.int .i64 0, .int .i64 0, .int .i64 0, .int .i64 0, .int .i64 0, .slice none 0 0, .int .i64 0, .int .i64 0, .int .i64 0, .slice none 0 0]), (9, .box D 38 [.int .i64 1, .int .i64 vm, .int .i64 bl, .int .i64 sz, .int .i64 (pm + 1), .slice q (crL px i).length c, .int .i64 to, .int .i64 0, .int .i64 0, .slice none 0 0]), (10, .num (.slice q (crL px i).length c) 3 .i64 (crL px i))] w) (cc.toNat) ?_ ?_
 · have mz := m47.nilN 10 3 .i64
   exact ⟨0, _, _, _, _, by omega, rfl, Hz.only [3, 10, 11, 12], mz.ren [(8, 20), (9, 21), (10, 10)] (by decide)⟩
 clear Hz m47
 rintro g Az w50 ⟨i, A, D, q, c, hic, hg, Hz, m50⟩
 refine wsk fun K4 hK4 => ?_
 refine zsr fun K5 hK5 => ?_
 refine goCh Hz (.move rfl <| .fa 2 rfl U38 <| .lb m50 9 U3 rfl rfl rfl <| .fa 4 rfl U38 <| .lb m50 9 U3 rfl rfl rfl .nil) fun Az Hz => ?_
 refine plz (ecb Hz Tryz.func91 rfl m50 (chunks_any bl (pm + 1) _ (by omega) (by omega)) fun Az w61 Hz m62 => ?_)
 refine gz hK5 Hz (.lss rfl rfl .nil) fun Az Hz => ?_
 refine bc Hz 39 ?_ ?_
 ·
  intro hb65 Hz; try simp only [QQ, Qax] at hb65
  rw [hcc] at hb65
  have hi9 : (i : Int) < cc := by omega
  refine wct Hz ?_
  refine zss (hK4 _ _ ?_)
  refine wsk fun K6 hK6 => ?_
  refine wp_block ?_
  replace Hz := Hz.oz [3, 10, 11, 12, 38]
  refine wp_region_lit ?_
  refine goCh Hz (.fa 5 rfl U38 <| .lb m62 9 U35 rfl rfl rfl <| .move rfl <| .move rfl <| .conv rfl U5 U3 (r := px) (IntWalk.i64_in _ (by omega)) <| .add rfl rfl (r := (i : Int) + px) (IntWalk.i64_in _ (by omega)) <| .rem rfl rfl (by decide) (Int.tmod_eq_emod_of_nonneg (by omega)) <| .add rfl rfl (r := 1 + ((i : Int) + px) % 2) (IntWalk.i64_in _ (by omega)) .nil) fun Az Hz => ?_
  refine plz (e_litN Hz m62 100 (k := .i64) rfl rfl U35 fct17 rfl rfl rfl rfl fun g75 Az w76 Hz m76 => ?_)
  refine plz (e_appN Hz m76 10 rfl rfl rfl (m76.numsO (i := 100) rfl) U35 fct17 (by decide) (by simp [crL_len]; omega) rfl fun p77 c77 Az w78 Hz m78 => ?_)
  refine goCh Hz (.fieldAddr (off := 5) rfl U38 rfl (s := 0) (by kernel_rfl) rfl .nil) fun Az Hz => ?_
  refine plz (st1 Hz m78 9 fct10 fun w80 m80 _ => ?_)
  refine znl (hK6 _ _ ?_)
  replace Hz := Hz.oz [3, 10, 11, 12, 38]
  refine wp_region_lit ?_
  refine goCh Hz (.move rfl <| .inc (i + 1) <| .assign rfl .nil) fun Az Hz => ?_
  refine wpList_nil ?_
  show ∃ n', n' < _ ∧ _
  have hE : crL px i ++ [1 + ((i : Int) + px) % 2] = crL px (i + 1) := (crL_snoc px i).symm
  rw [hE] at m80
  exact ⟨cc.toNat - (i + 1), by omega, i + 1, _, _, _, _, by omega, rfl, Hz.only [3, 10, 11, 12], m80.only [8, 9, 10]⟩
 intro hb65 Hz; try simp only [QQ, Qax] at hb65
 rw [hcc] at hb65
 have hi9 : (i : Int) = cc := by omega
 refine wcf Hz ?_
 refine wp_exit ?_
 refine hK3 _ _ ?_
 replace Hz := Hz.oz [3, 10, 11, 12, 38]
 refine zsr fun K7 hK7 => ?_
 refine goCh Hz (.loadBR m62 (i := 9) rfl rfl U38 rfl fct20 (by simp) (by dsimp only [List.drop, List.take] <;> rfl) .nil) fun Az Hz => ?_
 refine plz (stw Hz m62 8 fct20 fun w88 m88 _ => ?_)
 refine znl (hK7 _ _ ?_)
 refine rtd (retC (fn := Tryz.f42) Hz m88 (i := 8) rfl rfl rfl U38 rfl fct20 ?_)
 have m89 := m88.freezeN 10 rfl
 exact ⟨bl, sz, pm + 1, crL px i, _, _, by rw [hvm], by omega, by omega, by omega, by omega, ⟨crL_ok px i, by rw [crL_len, hcc]; exact hi9⟩, by rw [crL_len]; omega, m89.outF (i := 10) rfl, m89.below⟩
theorem replay_x (cs : List Cm) (pl : Option Addr) (nl cl : Nat) (w0 : World) (h1 : Rd (fun _ => True) w0 (.slice pl nl cl) (.l 10 (cs.map cmD))) (hby : ∀ c ∈ cs, ∀ e ∈ c.its, BytesL e.2) (hl : cs.length ≤ 500) :
   Calls Tryz.prog 33 #[.slice pl nl cl] w0 fun e w' => ∃ (p : Option Addr) (c : Nat), e = .returned (.slice p ((allL (repL cs)).map volD).length c) ∧ Rd (New w0) w' (.slice p ((allL (repL cs)).map volD).length c) (.l 11 ((allL (repL cs)).map volD)) ∧ Below w0.heap.size w0 w' := by
 obtain rfl : nl = cs.length := by obtain ⟨pq, cq, hv, _⟩ := h1.l_shape; injection hv with _ e2 _; rw [List.length_map] at e2; exact e2
 refine ent1 Tryz.func33 rfl Tryz.ntmps33 fun Az Hz => ?_
 have m0 := MemOk.start (fun _ => False) w0
 refine regS Hz (.assign rfl .nil) fun Az Hz => ?_
 refine zsr fun K0 hK0 => ?_
 refine plz (ecl Hz Tryz.func9 rfl (mnew_x _ _ (m0.into [] (by decide) rfl)) ?_)
 rintro e w2 ⟨B, G, rfl, hm2⟩
 have mx2 := m0.back hm2 [(1, 1), (2, 2)] (by decide); clear hm2 m0
 have m2 := mx2.oz [1, 2]
 refine ⟨_, rfl, ?_⟩; intro Az Hz
 refine gz hK0 Hz (.assign rfl .nil) fun Az Hz => ?_
 refine wsk fun K1 hK1 => ?_
 refine regS Hz (.move rfl <| .len rfl U24 <| .move rfl .nil) fun Az Hz => ?_
 refine wp_block ?_
 refine wp_loop_ghost (fun g a w => ∃ (k B G : Nat) (L : List VolV), k ≤ cs.length ∧ L = repL (cs.take k) ∧ (∀ y ∈ L, VolS k y) ∧ L.length ≤ k ∧ g = cs.length - k ∧ Has 28 [(3, .pointer (some ⟨B, 0, none⟩)), (9, .slice pl cs.length cl), (10, .int .i64 cs.length), (11, .int .i64 k)] a ∧ MemOk (cn w0) w0 [(1, .box B 87 [.map (some G)]), (2, .mp G 11 ((L).map keyV) ((L).map volD))] w) (cs.length) ?_ ?_
 · exact ⟨0, _, _, [], Nat.zero_le _, rfl, (fun y hy => by cases hy), Nat.le_refl _, rfl, Hz.only [3, 9, 10, 11], m2.only [1, 2]⟩
 clear Hz m2
 rintro g Az w8 ⟨k, B, G, L, hkl, hLe, hV, hLl, hg, Hz, m8⟩
 refine regS Hz (.lss rfl rfl .nil) fun Az Hz => ?_
 refine wsk fun K2 hK2 => ?_
 refine bc Hz 12 ?_ ?_
 ·
  intro hb10 Hz; try simp only [QQ, Qax] at hb10
  have hk : k < cs.length := by omega
  obtain ⟨x, hes⟩ : ∃ e, cs[k]? = some e := ⟨_, List.getElem?_eq_getElem hk⟩
  have hxb := hby _ (List.mem_of_getElem? hes)
  refine wct Hz ?_
  refine zss (hK2 _ _ ?_)
  refine wsk fun K3 hK3 => ?_
  refine wp_block ?_
  refine zsr fun K4 hK4 => ?_
  obtain ⟨gx12, ox12, vx12, hp12, hl12, hR12, hrg12⟩ := h1.extA (k) (r := [.v (.int .i64 x.kd), .v (.int .i64 x.vo), .v (.int .i64 x.bl), .v (.int .i64 x.sz), .v (.int .i64 x.pe), .ns .i64 x.pl, .v (.int .i64 x.to), .v (.int .i64 x.at0), .v (.int .i64 x.ix), .l 2 (x.its.map itD)]) (cmD_get hes)
  revert Hz
  cases hp12
  rcases hR12 with _ | ⟨hd12_0, _ | ⟨hd12_1, _ | ⟨hd12_2, _ | ⟨hd12_3, _ | ⟨hd12_4, _ | ⟨hd12_5, _ | ⟨hd12_6, _ | ⟨hd12_7, _ | ⟨hd12_8, _ | ⟨hd12_9, _ | _⟩⟩⟩⟩⟩⟩⟩⟩⟩⟩
  obtain rfl := hd12_0.v_out
  clear hd12_0
  obtain rfl := hd12_1.v_out
  clear hd12_1
  obtain rfl := hd12_2.v_out
  clear hd12_2
  obtain rfl := hd12_3.v_out
  clear hd12_3
  obtain rfl := hd12_4.v_out
  clear hd12_4
  obtain ⟨p13, c13, hv13, hw13⟩ := hd12_5.ns_shape; subst hv13
  obtain rfl := hd12_6.v_out
  clear hd12_6
  obtain rfl := hd12_7.v_out
  clear hd12_7
  obtain rfl := hd12_8.v_out
  clear hd12_8
  obtain ⟨p14, c14, hv14, hw14⟩ := hd12_9.l_shape; subst hv14
  intro Hz
  refine goCh Hz (.c rfl (fun _ h_ => y_idx h_ rfl rfl U24 fct20 (k) rfl hk) <| .loadAt (hrg12 m8 rfl) rfl U38 rfl fct20 .nil) fun Az Hz => ?_
  refine plz (e_alloc Hz m8 102 fct24 rfl fun g17 Az w18 Hz m18 _ _ => ?_)
  refine plz (stw Hz m18 102 fct20 fun w19 m19 _ => ?_)
  refine znl (hK4 _ _ ?_)
  refine wsk fun K5 hK5 => ?_
  rcases Classical.em (CmdR x) with hR | hR
  ·
   refine wp_region_lit ?_
   refine goCh Hz (.loadBR m19 (i := 102) rfl rfl U38 rfl fct20 (by simp) (by dsimp only [List.drop, List.take] <;> rfl) .nil) fun Az Hz => ?_
   refine plz (ecn Hz Tryz.func25 rfl m19 103 (putCmd_yes x hR _ _ _ _ _ _ ((hd12_5.now' m19 rfl).any) ((hd12_9.now' m19 rfl).any)) fun p21 c21 Az w21 Hz m22 => ?_)
   refine gz hK5 Hz (.move rfl <| .extract rfl rfl <| .extract rfl rfl <| .assign rfl <| .assign rfl <| .nil) fun Az Hz => ?_
   replace Hz := Hz.oz [3, 9, 10, 11, 6, 7]
   refine regS Hz (.move rfl <| .eql rfl rfl .nil) fun Az Hz => ?_
   refine bc Hz 21 ?_ ?_
   rotate_left
   · intro hb _; exact absurd hb (by simp)
   clear Hz; intro _ Hz
   refine wct Hz ?_
   refine wp_region_lit ?_
   refine goCh Hz (.move rfl <| .move rfl .nil) fun Az Hz => ?_
   have m35 := m22.freezeN 103 rfl
   refine plz (ecl Hz Tryz.func14 rfl (apply_x _ _ _ L x hR hxb k (by omega) hV _ _ _ (m35.into [(1, 1), (2, 2), (3, 103)] (by decide) rfl)) ?_)
   rintro e w36 ⟨L', e9, rl, rf, rn, rfl, hap, hm36⟩
   have mx36 := m35.back hm36 [(1, 1), (2, 2)] (by decide); clear hm36 m35
   have m36 := mx36.oz [1, 2, 102]
   refine ⟨_, rfl, ?_⟩; intro Az Hz
   refine znl (hK3 _ _ ?_)
   replace Hz := Hz.oz [3, 9, 10, 11]
   refine wp_region_lit ?_
   refine goCh Hz (.inc (k + 1) <| .move rfl .nil) fun Az Hz => ?_
   refine wpList_nil ?_
   show ∃ n', n' < _ ∧ _
   exact ⟨cs.length - (k + 1), by omega, k + 1, _, _, L', by omega, by rw [rep_yes hes hR, ← hLe, hap], (mApp_s hap hV hxb).1, Nat.le_trans (mApp_s hap hV hxb).2 (by omega), rfl, Hz.only [3, 9, 10, 11], m36.only [1, 2]⟩
  refine wp_region_lit ?_
  refine goCh Hz (.loadBR m19 (i := 102) rfl rfl U38 rfl fct20 (by simp) (by dsimp only [List.drop, List.take] <;> rfl) .nil) fun Az Hz => ?_
  refine plz (ecb Hz Tryz.func25 rfl m19 (putCmd_no x hR _ _ _ _ _ _ ((hd12_5.now' m19 rfl).any) ((hd12_9.now' m19 rfl).any)) fun Az w42 Hz m43 => ?_)
  refine gz hK5 Hz (.move rfl <| .extract rfl rfl <| .extract rfl rfl <| .assign rfl <| .assign rfl <| .nil) fun Az Hz => ?_
  replace Hz := Hz.oz [3, 9, 10, 11, 6, 7]
  refine regS Hz (.move rfl <| .eql rfl rfl .nil) fun Az Hz => ?_
  refine bc Hz 21 ?_ ?_
  · intro hb _; exact absurd hb (by simp)
  clear Hz; intro _ Hz
  refine wcf Hz ?_
  refine zss (hK3 _ _ ?_)
  refine wp_region_lit ?_
  refine goCh Hz (.inc (k + 1) <| .move rfl .nil) fun Az Hz => ?_
  refine wpList_nil ?_
  show ∃ n', n' < _ ∧ _
  exact ⟨cs.length - (k + 1), by omega, k + 1, _, _, L, by omega, by rw [rep_no hes hR, ← hLe], fun y hy => (hV y hy).up (by omega), by omega, rfl, Hz.only [3, 9, 10, 11], m43.only [1, 2]⟩
 intro hb10 Hz; try simp only [QQ, Qax] at hb10
 revert Hz
 obtain rfl : k = cs.length := by omega
 intro Hz
 refine wcf Hz ?_
 refine wp_exit ?_
 refine hK1 _ _ ?_
 refine zsr fun K6 hK6 => ?_
 refine goCh Hz (.move rfl .nil) fun Az Hz => ?_
 refine plz (ecl Hz Tryz.func17 rfl (all_x _ _ _ L _ cs.length (by omega) hV (by omega) (m8.into [(1, 1), (2, 2)] (by decide) rfl)) ?_)
 rintro e w58 ⟨p58, c58, rfl, hm58⟩
 have mx58 := m8.back hm58 [(1, 1), (2, 2), (9, 3)] (by decide); clear hm58 m8
 have m58 := mx58.oz [1, 2, 9]
 refine ⟨_, rfl, ?_⟩; intro Az Hz
 refine gz hK6 Hz (.assign rfl .nil) fun Az Hz => ?_
 refine rt1 Hz ?_
 rw [List.take_length] at hLe
 revert Hz
 subst hLe
 intro Hz
 exact ⟨_, _, rfl, m58.outF (i := 9) rfl, m58.below⟩
theorem rDo_v (X : Cx) (x : VolV) (c : Cm) (n : Nat) (hx : VolS n x) (hn : n ≤ 800000) (hil : c.its.length ≤ 1000000) (hio : ItsOk c.its) (p1 p2 p3 q1 pi : Option Addr) (c1 c2 c3 n1 d1 ci : Nat) (v1 v2 v3 v4 v5 : Int) (w0 : World) (m0 : MemOk X w0 [(1, .dat (.slice p1 x.place.length c1) (.ns .i64 x.place)), (2, .dat (.slice p2 x.pins.length c2) (.ns .i64 x.pins)), (3, .dat (.slice p3 (x.ws.map wrD).length c3) (.l 2 (x.ws.map wrD))), (4, .dat (.slice pi c.its.length ci) (.l 2 (c.its.map itD)))] w0) :
   Calls Tryz.prog 40 #[.agg #[.int .i64 x.vo, .int .i64 x.bl, .int .i64 x.sz, .int .i64 x.pe, .slice p1 x.place.length c1, .int .i64 x.to, .int .i64 x.ne, .bool x.hi, .int .i64 x.fl, .slice p2 x.pins.length c2, .slice p3 (x.ws.map wrD).length c3], .agg #[.int .i64 c.kd, .int .i64 v1, .int .i64 v2, .int .i64 v3, .int .i64 v4, .slice q1 n1 d1, .int .i64 v5, .int .i64 c.at0, .int .i64 c.ix, .slice pi c.its.length ci]] w0 fun e w' => ∃ (y : VolV) (e9 rl rf rn : Int) (p1 p2 p3 : Option Addr) (d1 d2 d3 : Nat), e = .returned (.tuple #[.agg #[.int .i64 y.vo, .int .i64 y.bl, .int .i64 y.sz, .int .i64 y.pe, .slice p1 y.place.length d1, .int .i64 y.to, .int .i64 y.ne, .bool y.hi, .int .i64 y.fl, .slice p2 y.pins.length d2, .slice p3 (y.ws.map wrD).length d3], .agg #[.int .i64 e9, .int .i64 rl, .int .i64 rf, .int .i64 rn, .slice none 0 0]]) ∧ doV x c = (y, e9) ∧ repV y e9 = (rl, rf, rn) ∧ MemOk X w0 [(1, .dat (.slice p1 y.place.length d1) (.ns .i64 y.place)), (2, .dat (.slice p2 y.pins.length d2) (.ns .i64 y.pins)), (3, .dat (.slice p3 (y.ws.map wrD).length d3) (.l 2 (y.ws.map wrD)))] w' := by
 obtain ⟨vo, bl, sz, pe, place, to, ne, hi, fl, pins, ws⟩ := x
 obtain ⟨kd, cvo, cbl, csz, cpe, cpl, cto, at0, ix, its⟩ := c
 obtain ⟨h1, h2, h3, h4, h5⟩ := hx
 simp only at *
 have hne : -1000000000000000 ≤ ne ∧ ne ≤ 1000000000000000 := by
   obtain ⟨⟨a1, a2, a3, a4, a5, a6, a7, a8, a9, a10, a11⟩, b1, b2, b3⟩ := h1
   omega
 by_cases k4 : kd = 4
 · subst k4
   refine (rDo4 X vo bl sz pe to ne fl hi place pins ws p1 p2 p3 c1 c2 c3 v1 v2 v3 v4 v5 at0 ix q1 n1 d1 pi its.length ci w0 (by omega) h1.sorted (m0.only [1, 2, 3])).mono ?_
   rintro e w' ⟨pins', e9, rl, rf, rn, p2', d2', rfl, hd, hr, m⟩
   refine ⟨⟨vo, bl, sz, pe, place, to, ne, hi, fl, pins', ws⟩, e9, rl, rf, rn, _, _, _, _, _, _, rfl, ?_, repV_of hr, m.ren [(1, 1), (2, 6), (3, 3)] (by decide)⟩
   simp only [doV, if_true, hd]
 by_cases k5 : kd = 5
 · subst k5
   refine (rDo5 X vo bl sz pe to ne fl hi place pins ws p1 p2 p3 c1 c2 c3 v1 v2 v3 v4 v5 at0 ix q1 n1 d1 pi its.length ci w0 (by omega) (m0.only [1, 2, 3])).mono ?_
   rintro e w' ⟨pins', e9, rl, rf, rn, p2', d2', rfl, hd, hr, m⟩
   refine ⟨⟨vo, bl, sz, pe, place, to, ne, hi, fl, pins', ws⟩, e9, rl, rf, rn, _, _, _, _, _, _, rfl, ?_, repV_of hr, m.ren [(1, 1), (2, 6), (3, 3)] (by decide)⟩
   simp only [doV, hd]; rfl
 refine (rDo X vo bl sz pe to ne fl hi place pins ws its p1 p2 p3 c1 c2 c3 pi ci kd v1 v2 v3 v4 v5 at0 ix q1 n1 d1 w0 k4 k5 hne (by omega) (by omega) hil hio m0).mono ?_
 rintro e w' ⟨ne', hi', fl', ws', e9, rl, rf, rn, p3', d3', rfl, hd, hr, m⟩
 refine ⟨⟨vo, bl, sz, pe, place, to, ne', hi', fl', pins, ws'⟩, e9, rl, rf, rn, _, _, _, _, _, _, rfl, ?_, repV_of hr, m.ren [(1, 1), (2, 2), (3, 7)] (by decide)⟩
 simp only [doV, if_neg k4, if_neg k5, hd]
end
section
theorem fl38kn6 : flatS Tryz.prog 38 [.int .i64 0, .int .i64 0, .int .i64 0, .int .i64 0, .int .i64 0, .slice none 0 0, .int .i64 0, .int .i64 0, .int .i64 0, .slice none 0 0] = true := by kernel_rfl
theorem fl44kn6 : flatS Tryz.prog 44 [.int .i64 0, .int .i64 0, .int .i64 0, .int .i64 0, .slice none 0 0] = true := by kernel_rfl
theorem fl51kn6 : flatS Tryz.prog 51 [.int .i64 0, .int .i64 0, .int .i64 0, .int .i64 0, .slice none 0 0, .int .i64 0, .int .i64 0, .bool false, .int .i64 0, .slice none 0 0, .slice none 0 0] = true := by kernel_rfl
theorem fl59kn6 : flatS Tryz.prog 59 [.int .i64 0, .slice none 0 0] = true := by kernel_rfl
theorem ps76kn6 : placesS Tryz.prog 76 = some [(0, 1), (1, 10), (11, 1), (12, 1), (13, 5)] := by kernel_rfl
def V1k (pe : Int) (pl : List Int) : VolV := ⟨0, 3, 1, pe, pl, 0, 0, false, 0, [], [(1, [(0, [120])])]⟩
def C2k : Cm := (⟨2, 0, 0, 0, 0, [], 0, 0, 0, [(0, [120])]⟩ : Cm)
def T1k : Tl := ⟨1, C2k, 0, 1, 0, 1, 0, 0, []⟩
def T2k : Tl := ⟨1, C2k, 0, 1, 0, 2, 0, 0, []⟩
theorem ordK1 (pe : Int) (pl : List Int) : ordB [T1k] (V1k pe pl) = true := rfl
theorem ordK2 (pe : Int) (pl : List Int) : ordB [T2k] (V1k pe pl) = false := rfl
theorem ordK3 (pe : Int) (pl : List Int) : ordB [] (V1k pe pl) = false := rfl
theorem tk1 : ∀ t ∈ [T1k], t.c.its.length ≤ 1000000 ∧ ∀ e ∈ t.c.its, BytesL e.2 := by simp [T1k, C2k, BytesL]
theorem tk2 : ∀ t ∈ [T2k], t.c.its.length ≤ 1000000 ∧ ∀ e ∈ t.c.its, BytesL e.2 := by simp [T2k, C2k, BytesL]
theorem tk0 : ∀ t ∈ ([] : List Tl), t.c.its.length ≤ 1000000 ∧ ∀ e ∈ t.c.its, BytesL e.2 := fun t h => by cases h
theorem vkB (pe : Int) (pl : List Int) : ∀ e ∈ (V1k pe pl).ws, e.2.length ≤ 1000000 ∧ ∀ z ∈ e.2, BytesL z.2 := by simp [V1k, BytesL]
theorem vkL (pe : Int) (pl : List Int) : (V1k pe pl).ws.length ≤ 1000000 := by simp [V1k]
theorem create_k (w0 : World) :
   Calls Tryz.prog 42 #[.int .u8 0, .int .u8 2, .int .u8 0, .int .u8 1, .int .i64 0] w0 fun e w' => ∃ (pe : Int) (pl : List Int) (p : Option Addr) (c : Nat), e = .returned (.agg #[.int .i64 1, .int .i64 0, .int .i64 3, .int .i64 1, .int .i64 pe, .slice p pl.length c, .int .i64 0, .int .i64 0, .int .i64 0, .slice none 0 0]) ∧ NewOk 0 3 1 pe 0 pl ∧ Rd (New w0) w' (.slice p pl.length c) (.ns .i64 pl) ∧ Below w0.heap.size w0 w' := by
 refine (create_e 0 2 0 1 0 w0 (by omega) (by omega) (by omega) (by omega)).mono ?_
 rintro e w' ⟨bl, sz, pe, pl, p, c, rfl, hb, hs, h1, h2, h3, h4, h5, h6⟩
 obtain rfl : bl = 3 := hb.trans (by decide)
 obtain rfl : sz = 1 := hs.trans (by decide)
 exact ⟨pe, pl, p, c, rfl, ⟨by omega, by omega, by omega, by omega, by omega, by omega, h1, h2, h3, by omega, by omega⟩, h5, h6⟩
theorem rep_k (pe : Int) (pl : List Int) (hN : NewOk 0 3 1 pe 0 pl) : allL (repL [⟨1, 0, 3, 1, pe, pl, 0, 0, 0, []⟩, C2k]) = [V1k pe pl] := by
 obtain ⟨a1, a2, a3, a4, a5, a6, a7, a8, a9, a10, a11⟩ := hN
 have hN : NewOk 0 3 1 pe 0 pl := ⟨a1, a2, a3, a4, a5, a6, a7, a8, a9, a10, a11⟩
 have hS := newV_s (n := 0) hN
 have hR1 : CmdR ⟨1, 0, 3, 1, pe, pl, 0, 0, 0, []⟩ := ⟨by simp, by simp, by simp; omega, hS.sm.1, fun z hz => by have := a9.1 z hz; simp only at *; omega, by simp, fun e he => by cases he⟩
 have hR2 : CmdR C2k := ⟨by decide, by decide, by decide, by decide, by decide, by decide, by decide⟩
 have h1 : mApp [] ⟨1, 0, 3, 1, pe, pl, 0, 0, 0, []⟩ = ([newV 0 3 1 pe 0 pl], 0, 0, 0, 0) := by
   rw [mApp, if_pos rfl, if_neg (by rintro ⟨y, hy, _⟩; cases hy), if_pos hN]; rfl
 have hd : doR 3 1 0 0 0 false [] [] 2 0 0 [(0, [120])] = (0, false, 0, [] ++ [(((List.length ([] : List PWr) : Nat) : Int) + 1, [(0, [120])])], 0) := doR_put_yes rfl ⟨by decide, by decide, fun j hj => by
   obtain rfl : j = 0 := by simp at hj; omega
   exact ⟨by decide, by decide, by decide, by rintro ⟨e, he, _⟩; cases he⟩⟩
 have h2 : (mApp [newV 0 3 1 pe 0 pl] C2k).1 = [V1k pe pl] := by
   have hd2 : doV (newV 0 3 1 pe 0 pl) C2k = (V1k pe pl, 0) := by
     unfold doV
     rw [if_neg (by decide), if_neg (by decide)]
     simp only [newV, C2k, show decide ((0 : Int) < 0) = false from rfl, hd]; rfl
   rw [mApp, if_neg (by decide)]
   simp only [show List.findIdx? (fun y => decide (y.vo = C2k.vo)) [newV 0 3 1 pe 0 pl] = some 0 from rfl, show List.getD [newV 0 3 1 pe 0 pl] 0 volZ = newV 0 3 1 pe 0 pl from rfl, hd2]; rfl
 have hr : repL [⟨1, 0, 3, 1, pe, pl, 0, 0, 0, []⟩, C2k] = [V1k pe pl] := by
   have e1 := rep_yes (cs := [⟨1, 0, 3, 1, pe, pl, 0, 0, 0, []⟩, C2k]) (k := 0) rfl hR1
   have e2 := rep_yes (cs := [⟨1, 0, 3, 1, pe, pl, 0, 0, 0, []⟩, C2k]) (k := 1) rfl hR2
   have e3 : repL (List.take 1 [⟨1, 0, 3, 1, pe, pl, 0, 0, 0, []⟩, C2k]) = [newV 0 3 1 pe 0 pl] := by
     rw [e1]; exact congrArg (·.1) h1
   have e4 : repL [⟨1, 0, 3, 1, pe, pl, 0, 0, 0, []⟩, C2k] = _ := e2
   rw [e4, e3, h2]
 rw [hr]
 have hi : idsL [V1k pe pl] = [0] := by simp [idsL, V1k]
 rw [allL, hi]; rfl
theorem replay_k (pe : Int) (pl9 : List Int) (hN : NewOk 0 3 1 pe 0 pl9) (pl : Option Addr) (nl cl : Nat) (w0 : World) (h1 : Rd (fun _ => True) w0 (.slice pl nl cl) (.l 10 ([⟨1, 0, 3, 1, pe, pl9, 0, 0, 0, []⟩, C2k].map cmD))) :
   Calls Tryz.prog 33 #[.slice pl nl cl] w0 fun e w' => ∃ (p : Option Addr) (c : Nat), e = .returned (.slice p 1 c) ∧ Rd (New w0) w' (.slice p 1 c) (.l 11 [[.v (.int .i64 0), .v (.int .i64 3), .v (.int .i64 1), .v (.int .i64 pe), .ns .i64 pl9, .v (.int .i64 0), .v (.int .i64 0), .v (.bool false), .v (.int .i64 0), .ns .i64 [], .l 2 ([((1 : Int), [((0 : Int), [(120 : Int)])])].map wrD)]]) ∧ Below w0.heap.size w0 w' := by
 refine (replay_x _ pl nl cl w0 h1 (by simp [C2k, BytesL]) (by simp)).mono ?_
 rintro e w' ⟨p, c, rfl, hr, hb⟩
 rw [rep_k pe pl9 hN] at hr ⊢
 exact ⟨p, c, rfl, hr, hb⟩
theorem ordT (l : List Tl) (v : VolV) (b : Bool) (h : ordB l v = b) (pl : Option Addr) (nl cl : Nat) (y1 y2 y3 : Option Addr) (z1 x1 z2 x2 nv x3 : Nat) (w0 : World) (h1 : Rd (fun _ => True) w0 (.slice pl nl cl) (.l 18 (l.map tlD))) (h3 : Rd (fun _ => True) w0 (.slice y3 nv x3) (.l 2 (v.ws.map wrD))) (hlb : ∀ t ∈ l, t.c.its.length ≤ 1000000 ∧ ∀ e ∈ t.c.its, BytesL e.2) (hvb : ∀ e ∈ v.ws, e.2.length ≤ 1000000 ∧ ∀ z ∈ e.2, BytesL z.2) (hl9 : l.length ≤ 1000) (hv9 : v.ws.length ≤ 1000000) :
   Calls Tryz.prog 38 #[.slice pl nl cl, .agg #[.int .i64 v.vo, .int .i64 v.bl, .int .i64 v.sz, .int .i64 v.pe, .slice y1 z1 x1, .int .i64 v.to, .int .i64 v.ne, .bool v.hi, .int .i64 v.fl, .slice y2 z2 x2, .slice y3 nv x3]] w0 fun e w' => e = .returned (.bool b) ∧ Below w0.heap.size w0 w' := h ▸ ordered_x l v pl nl cl y1 y2 y3 z1 x1 z2 x2 nv x3 w0 h1 h3 hlb hvb hl9 hv9
theorem v1kB {pe : Int} {pl : List Int} (hN : NewOk 0 3 1 pe 0 pl) : VolB (V1k pe pl) := by
 have hS := (newV_s (n := 0) hN).sm.1
 exact ⟨by have : pl.length ≤ 256 := hS; show pl.length ≤ 1000000; omega, by simp [V1k], by simp [V1k], by simp [V1k, BytesL]⟩
theorem sameT (x : VolV) (p1 p2 p3 q1 q2 q3 : Option Addr) (c1 c2 c3 d1 d2 d3 nx ny : Nat) (w0 : World) (hx : VolB x) (h1 : Rd (fun _ => True) w0 (.slice p1 x.place.length c1) (.ns .i64 x.place)) (h2 : Rd (fun _ => True) w0 (.slice p2 x.pins.length c2) (.ns .i64 x.pins)) (h3 : Rd (fun _ => True) w0 (.slice p3 nx c3) (.l 2 (x.ws.map wrD))) (h4 : Rd (fun _ => True) w0 (.slice q1 x.place.length d1) (.ns .i64 x.place)) (h5 : Rd (fun _ => True) w0 (.slice q2 x.pins.length d2) (.ns .i64 x.pins)) (h6 : Rd (fun _ => True) w0 (.slice q3 ny d3) (.l 2 (x.ws.map wrD))) :
   Calls Tryz.prog 35 #[.agg #[.int .i64 x.vo, .int .i64 x.bl, .int .i64 x.sz, .int .i64 x.pe, .slice p1 x.place.length c1, .int .i64 x.to, .int .i64 x.ne, .bool x.hi, .int .i64 x.fl, .slice p2 x.pins.length c2, .slice p3 nx c3], .agg #[.int .i64 x.vo, .int .i64 x.bl, .int .i64 x.sz, .int .i64 x.pe, .slice q1 x.place.length d1, .int .i64 x.to, .int .i64 x.ne, .bool x.hi, .int .i64 x.fl, .slice q2 x.pins.length d2, .slice q3 ny d3]] w0 fun e w' => e = .returned (.bool true) ∧ Below w0.heap.size w0 w' :=
 (msmP x x p1 p2 p3 q1 q2 q3 c1 c2 c3 d1 d2 d3 nx ny w0 hx hx h1 h2 h3 h4 h5 h6).mono fun e w' h => ⟨by rw [h.1, decide_eq_true (samP_iff.2 ⟨⟨rfl, rfl, rfl, rfl, rfl, rfl⟩, rfl, rfl, rfl, rfl, rfl⟩)], h.2⟩
theorem preT (x : VolV) (p1 p2 p3 q1 q2 q3 : Option Addr) (c1 c2 c3 d1 d2 d3 nx ny : Nat) (w0 : World) (hx : VolB x) (h1 : Rd (fun _ => True) w0 (.slice p1 x.place.length c1) (.ns .i64 x.place)) (h3 : Rd (fun _ => True) w0 (.slice p3 nx c3) (.l 2 (x.ws.map wrD))) (h4 : Rd (fun _ => True) w0 (.slice q1 x.place.length d1) (.ns .i64 x.place)) (h6 : Rd (fun _ => True) w0 (.slice q3 ny d3) (.l 2 (x.ws.map wrD))) :
   Calls Tryz.prog 36 #[.agg #[.int .i64 x.vo, .int .i64 x.bl, .int .i64 x.sz, .int .i64 x.pe, .slice p1 x.place.length c1, .int .i64 x.to, .int .i64 x.ne, .bool x.hi, .int .i64 x.fl, .slice p2 x.pins.length c2, .slice p3 nx c3], .agg #[.int .i64 x.vo, .int .i64 x.bl, .int .i64 x.sz, .int .i64 x.pe, .slice q1 x.place.length d1, .int .i64 x.to, .int .i64 x.ne, .bool x.hi, .int .i64 x.fl, .slice q2 x.pins.length d2, .slice q3 ny d3]] w0 fun e w' => e = .returned (.bool true) ∧ Below w0.heap.size w0 w' :=
 (mpre x x p1 p2 p3 q1 q2 q3 c1 c2 c3 d1 d2 d3 nx ny w0 hx hx h1 h3 h4 h6).mono fun e w' h => ⟨by rw [h.1, decide_eq_true (show preE x x from ⟨⟨rfl, rfl, rfl, rfl, rfl, rfl⟩, Nat.le_refl _, (List.take_length).symm⟩)], h.2⟩
theorem preF (pe : Int) (pl9 : List Int) (p1 p2 p3 : Option Addr) (c1 c2 c3 nx : Nat) (w0 : World) (hx : VolB (V1k pe pl9)) (h1 : Rd (fun _ => True) w0 (.slice p1 (V1k pe pl9).place.length c1) (.ns .i64 (V1k pe pl9).place)) (h3 : Rd (fun _ => True) w0 (.slice p3 nx c3) (.l 2 ((V1k pe pl9).ws.map wrD))) :
   Calls Tryz.prog 36 #[.agg #[.int .i64 (V1k pe pl9).vo, .int .i64 (V1k pe pl9).bl, .int .i64 (V1k pe pl9).sz, .int .i64 (V1k pe pl9).pe, .slice p1 (V1k pe pl9).place.length c1, .int .i64 (V1k pe pl9).to, .int .i64 (V1k pe pl9).ne, .bool (V1k pe pl9).hi, .int .i64 (V1k pe pl9).fl, .slice p2 (V1k pe pl9).pins.length c2, .slice p3 nx c3], .agg #[.int .i64 0, .int .i64 0, .int .i64 0, .int .i64 0, .slice none 0 0, .int .i64 0, .int .i64 0, .bool false, .int .i64 0, .slice none 0 0, .slice none 0 0]] w0 fun e w' => e = .returned (.bool false) ∧ Below w0.heap.size w0 w' :=
 (mpre (V1k pe pl9) volZ p1 p2 p3 none none none c1 c2 c3 0 0 0 nx 0 w0 hx ⟨by simp [volZ], by simp [volZ], by simp [volZ], by simp [volZ]⟩ h1 h3 (Rd.nilN _ _ .i64 none) (Rd.l0 none 0 2)).mono fun e w' h => ⟨by rw [h.1, decide_eq_false (show ¬ preE (V1k pe pl9) volZ from fun h9 => by have := h9.1.2.1; simp [V1k, volZ] at this)], h.2⟩
set_option maxRecDepth 100000
set_option maxHeartbeats 4000000
theorem cutF {p q : Prop} (h : p → q) (hp : p) : q := h hp
theorem known26 (w0 : World) : Calls Tryz.prog 31 #[] w0 fun e w' => e = .returned (.bool true) ∧ Below w0.heap.size w0 w' := by
 refine ent0 Tryz.func31 rfl Tryz.ntmps31 fun Az Hz => ?_
 have m0 := MemOk.start (fun _ => False) w0
 refine regS Hz (.assign rfl .nil) fun Az Hz => ?_
 refine zsr fun K0 hK0 => ?_
 refine plz (ecl Hz Tryz.func42 rfl (create_k _) ?_)
 rintro e w2 ⟨pe, pl9, p2, c2, rfl, hN, ho2, hb2⟩
 have m3 := m0.callF 20 rfl hb2 ho2
 refine ⟨_, rfl, ?_⟩; intro Az Hz
 refine plz (e_litN Hz m3 21 (k := .u8) rfl rfl U22 fct0 rfl rfl rfl rfl fun g5 Az w6 Hz m6 => ?_)
 refine plz (e_cvN Hz m6 21 rfl rfl U22 U5 rfl fun Az w7 Hz m7 => ?_)
 refine goCh Hz (.build rfl fct4 fl59kn6 rfl (by dsimp only [setL, List.set] <;> rfl) .nil) fun Az Hz => ?_
 refine plz (e_litR Hz m7 22 (mm := 2) rfl (.cons rfl rfl (.cons (.v _) (.cons (m7.rd (i := 21) rfl) .nil)) .nil) U36 fct5 rfl rfl rfl rfl rfl fun g9 Az w10 Hz m10 => ?_)
 refine goCh Hz (.build rfl fct24 fl38kn6 rfl (by dsimp only [setL, List.set] <;> rfl) .nil) fun Az Hz => ?_
 have m13 := m10.freezeR 22 rfl
 refine plz (e_litR Hz m13 23 (mm := 10) rfl (.cons rfl rfl (.cons (.v _) (.cons (.v _) (.cons (.v _) (.cons (.v _) (.cons (.v _) (.cons (m13.rd (i := 20) rfl) (.cons (.v _) (.cons (.v _) (.cons (.v _) (.cons (.l0 _ _ 2) .nil)))))))))) <| .cons rfl rfl (.cons (.v _) (.cons (.v _) (.cons (.v _) (.cons (.v _) (.cons (.v _) (.cons (Rd.nilN _ _ .i64 _) (.cons (.v _) (.cons (.v _) (.cons (.v _) (.cons (m13.rd (i := 22) rfl) .nil)))))))))) .nil) U24 fct36 rfl rfl rfl rfl rfl fun g12 Az w14 Hz m14 => ?_)
 refine gz hK0 Hz (.assign rfl .nil) fun Az Hz => ?_
 replace Hz := Hz.oz [0, 1]
 refine zsr fun K1 hK1 => ?_
 refine goCh Hz (.move rfl .nil) fun Az Hz => ?_
 have m19 := m14.freezeR 23 rfl
 refine plz (ecl Hz Tryz.func33 rfl (replay_k pe pl9 hN _ _ _ _ ((m19.rd (i := 23) rfl).any)) ?_)
 rintro e w20 ⟨p20, c20, rfl, ho20, hb20⟩
 have m21 := m19.callF 24 rfl hb20 ho20
 refine ⟨_, rfl, ?_⟩; intro Az Hz
 refine gz hK1 Hz (.assign rfl .nil) fun Az Hz => ?_
 refine wsk fun K2 hK2 => ?_
 refine regS Hz (.move rfl <| .len rfl U30 <| .neq rfl rfl .nil) fun Az Hz => ?_
 refine bc Hz 16 ?_ ?_
 · intro hb _; exact absurd hb (by simp)
 clear Hz; intro _ Hz
 refine wcf Hz ?_
 refine zss (hK2 _ _ ?_)
 refine wsk fun K3 hK3 => ?_
 refine cutF (fun (hC3 : ∀ (a : Act) (w : World), (∃ (B : Nat) (pa qa sa : Option Addr) (ca da fa : Nat), Has 73 [(2, .slice sa 1 fa), (3, .pointer (some ⟨B, 0, none⟩))] a ∧ MemOk (cn w0) w0 [(30, .box B 76 [.int .i64 1, .int .i64 2, .int .i64 0, .int .i64 0, .int .i64 0, .int .i64 0, .slice pa 0 ca, .int .i64 0, .int .i64 0, .int .i64 0, .slice qa 1 da, .int .i64 0, .int .i64 1, .int .i64 0, .int .i64 1, .int .i64 0, .int .i64 0, .slice none 0 0]), (31, .dat (.slice pa 0 ca) (.ns .i64 [])), (32, .dat (.slice qa 1 da) (.l 2 [[.v (.int .i64 0), .ns .u8 [120]]])), (34, .dat (.slice sa 1 fa) (.l 11 [[.v (.int .i64 0), .v (.int .i64 3), .v (.int .i64 1), .v (.int .i64 pe), .ns .i64 pl9, .v (.int .i64 0), .v (.int .i64 0), .v (.bool false), .v (.int .i64 0), .ns .i64 [], .l 2 ([((1 : Int), [((0 : Int), [(120 : Int)])])].map wrD)]]))] w) → K3 a w) => ?_) ?_
 ·
  refine wp_region_lit ?_
  refine goCh Hz (.move rfl .nil) fun Az Hz => ?_
  obtain ⟨b139, o139, vs139, hp139, hR139, ho139, m139⟩ := m21.openR (i := 23) rfl (1) (r := [.v (.int .i64 2), .v (.int .i64 0), .v (.int .i64 0), .v (.int .i64 0), .v (.int .i64 0), .ns .i64 [], .v (.int .i64 0), .v (.int .i64 0), .v (.int .i64 0), .l 2 [[.v (.int .i64 0), .ns .u8 [120]]]]) rfl 25 rfl
  revert Hz
  cases hp139; clear m21 ho139
  rcases hR139 with _ | ⟨hd139_0, _ | ⟨hd139_1, _ | ⟨hd139_2, _ | ⟨hd139_3, _ | ⟨hd139_4, _ | ⟨hd139_5, _ | ⟨hd139_6, _ | ⟨hd139_7, _ | ⟨hd139_8, _ | ⟨hd139_9, _ | _⟩⟩⟩⟩⟩⟩⟩⟩⟩⟩
  obtain rfl := hd139_0.v_out
  clear hd139_0
  obtain rfl := hd139_1.v_out
  clear hd139_1
  obtain rfl := hd139_2.v_out
  clear hd139_2
  obtain rfl := hd139_3.v_out
  clear hd139_3
  obtain rfl := hd139_4.v_out
  clear hd139_4
  obtain ⟨p140, c140, hv140, hc140⟩ := hd139_5.ns_shape; subst hv140
  intro Hz
  have m140 := m139.dat 26 rfl (hd139_5.cast (fun _ h => (free_add rfl h))); clear m139 hd139_5
  revert Hz
  obtain rfl := hd139_6.v_out
  clear hd139_6
  obtain rfl := hd139_7.v_out
  clear hd139_7
  obtain rfl := hd139_8.v_out
  clear hd139_8
  obtain ⟨p141, c141, hv141, hc141⟩ := hd139_9.l_shape; subst hv141
  intro Hz
  have m141 := m140.dat 27 rfl (hd139_9.cast (fun _ h => (free_add rfl (free_add rfl h)))); clear m140 hd139_9
  refine goCh Hz (.c rfl (fun _ h_ => y_idx h_ rfl rfl U24 fct20 (1) rfl (by decide)) <| .loadCR m141 (i := 25) rfl rfl U38 rfl fct20 <| .build rfl fct27 fl44kn6 rfl (by dsimp only [setL, List.set] <;> rfl) <| .buildG rfl fct38 ps76kn6 rfl .nil) fun Az Hz => ?_
  refine plz (e_alloc Hz m141 28 fct38 rfl fun g146 Az w147 Hz m147 _ _ => ?_)
  refine plz (stw Hz m147 28 fct16 fun w148 m148 _ => ?_)
  refine wpList_nil ?_
  show K3 _ _
  exact hC3 _ _ ⟨_, _, _, _, _, _, _, Hz.only [2, 3], m148.ren [(30, 28), (31, 26), (32, 27), (34, 24)] (by decide)⟩
 clear Hz m21
 rintro Az w28 ⟨B, pa, qa, sa, ca, da, fa, Hz, m28⟩
 refine hK3 _ _ ?_
 refine zsr fun K4 hK4 => ?_
 refine goCh Hz (.loadBR m28 (i := 30) rfl rfl U76 rfl fct16 (by simp) (by dsimp only [List.drop, List.take] <;> rfl) .nil) fun Az Hz => ?_
 refine plz (e_alloc Hz m28 100 fct38 rfl fun g31 Az w32 Hz m32 _ _ => ?_)
 refine plz (stw Hz m32 100 fct16 fun w33 m33 _ => ?_)
 refine znl (hK4 _ _ ?_)
 refine zsr fun K5 hK5 => ?_
 refine goCh Hz (.fieldAddr (off := 13) rfl U76 rfl (s := 4) (by kernel_rfl) rfl <| .fa 14 rfl U44 .nil) fun Az Hz => ?_
 refine plz (st1 Hz m33 100 fct19 fun w38 m38 _ => ?_)
 refine znl (hK5 _ _ ?_)
 refine wsk fun K6 hK6 => ?_
 obtain ⟨b39, o39, vs39, hp39, hR39, ho39, m39⟩ := m38.openR (i := 34) rfl (0) (r := [.v (.int .i64 0), .v (.int .i64 3), .v (.int .i64 1), .v (.int .i64 pe), .ns .i64 pl9, .v (.int .i64 0), .v (.int .i64 0), .v (.bool false), .v (.int .i64 0), .ns .i64 [], .l 2 ([((1 : Int), [((0 : Int), [(120 : Int)])])].map wrD)]) rfl 101 rfl
 revert Hz
 cases hp39; clear m38 ho39
 rcases hR39 with _ | ⟨hd39_0, _ | ⟨hd39_1, _ | ⟨hd39_2, _ | ⟨hd39_3, _ | ⟨hd39_4, _ | ⟨hd39_5, _ | ⟨hd39_6, _ | ⟨hd39_7, _ | ⟨hd39_8, _ | ⟨hd39_9, _ | ⟨hd39_10, _ | _⟩⟩⟩⟩⟩⟩⟩⟩⟩⟩⟩
 obtain rfl := hd39_0.v_out
 clear hd39_0
 obtain rfl := hd39_1.v_out
 clear hd39_1
 obtain rfl := hd39_2.v_out
 clear hd39_2
 obtain rfl := hd39_3.v_out
 clear hd39_3
 obtain ⟨p40, c40, hv40, hc40⟩ := hd39_4.ns_shape; subst hv40
 intro Hz
 have m40 := m39.dat 102 rfl (hd39_4.cast (fun _ h => (free_add rfl h))); clear m39 hd39_4
 revert Hz
 obtain rfl := hd39_5.v_out
 clear hd39_5
 obtain rfl := hd39_6.v_out
 clear hd39_6
 obtain rfl := hd39_7.v_out
 clear hd39_7
 obtain rfl := hd39_8.v_out
 clear hd39_8
 obtain ⟨p41, c41, hv41, hc41⟩ := hd39_9.ns_shape; subst hv41
 intro Hz
 have m41 := m40.dat 103 rfl (hd39_9.cast (fun _ h => (free_add rfl (free_add rfl h)))); clear m40 hd39_9
 revert Hz
 obtain ⟨p42, c42, hv42, hc42⟩ := hd39_10.l_shape; subst hv42
 intro Hz
 have m42 := m41.dat 104 rfl (hd39_10.cast (fun _ h => (free_add rfl (free_add rfl (free_add rfl h))))); clear m41 hd39_10
 obtain ⟨b43, o43, vs43, hp43, hR43, ho43, m43⟩ := m42.openR (i := 34) rfl (0) (r := [.v (.int .i64 0), .v (.int .i64 3), .v (.int .i64 1), .v (.int .i64 pe), .ns .i64 pl9, .v (.int .i64 0), .v (.int .i64 0), .v (.bool false), .v (.int .i64 0), .ns .i64 [], .l 2 ([((1 : Int), [((0 : Int), [(120 : Int)])])].map wrD)]) rfl 105 rfl
 revert Hz
 cases hp43; clear m42 ho43
 rcases hR43 with _ | ⟨hd43_0, _ | ⟨hd43_1, _ | ⟨hd43_2, _ | ⟨hd43_3, _ | ⟨hd43_4, _ | ⟨hd43_5, _ | ⟨hd43_6, _ | ⟨hd43_7, _ | ⟨hd43_8, _ | ⟨hd43_9, _ | ⟨hd43_10, _ | _⟩⟩⟩⟩⟩⟩⟩⟩⟩⟩⟩
 obtain rfl := hd43_0.v_out
 clear hd43_0
 obtain rfl := hd43_1.v_out
 clear hd43_1
 obtain rfl := hd43_2.v_out
 clear hd43_2
 obtain rfl := hd43_3.v_out
 clear hd43_3
 obtain ⟨p44, c44, hv44, hc44⟩ := hd43_4.ns_shape; subst hv44
 intro Hz
 have m44 := m43.dat 106 rfl (hd43_4.cast (fun _ h => (free_add rfl h))); clear m43 hd43_4
 revert Hz
 obtain rfl := hd43_5.v_out
 clear hd43_5
 obtain rfl := hd43_6.v_out
 clear hd43_6
 obtain rfl := hd43_7.v_out
 clear hd43_7
 obtain rfl := hd43_8.v_out
 clear hd43_8
 obtain ⟨p45, c45, hv45, hc45⟩ := hd43_9.ns_shape; subst hv45
 intro Hz
 have m45 := m44.dat 107 rfl (hd43_9.cast (fun _ h => (free_add rfl (free_add rfl h)))); clear m44 hd43_9
 revert Hz
 obtain ⟨p46, c46, hv46, hc46⟩ := hd43_10.l_shape; subst hv46
 intro Hz
 have m46 := m45.dat 108 rfl (hd43_10.cast (fun _ h => (free_add rfl (free_add rfl (free_add rfl h))))); clear m45 hd43_10
 obtain ⟨b47, o47, vs47, hp47, hR47, ho47, m47⟩ := m46.openR (i := 34) rfl (0) (r := [.v (.int .i64 0), .v (.int .i64 3), .v (.int .i64 1), .v (.int .i64 pe), .ns .i64 pl9, .v (.int .i64 0), .v (.int .i64 0), .v (.bool false), .v (.int .i64 0), .ns .i64 [], .l 2 ([((1 : Int), [((0 : Int), [(120 : Int)])])].map wrD)]) rfl 109 rfl
 revert Hz
 cases hp47; clear m46 ho47
 rcases hR47 with _ | ⟨hd47_0, _ | ⟨hd47_1, _ | ⟨hd47_2, _ | ⟨hd47_3, _ | ⟨hd47_4, _ | ⟨hd47_5, _ | ⟨hd47_6, _ | ⟨hd47_7, _ | ⟨hd47_8, _ | ⟨hd47_9, _ | ⟨hd47_10, _ | _⟩⟩⟩⟩⟩⟩⟩⟩⟩⟩⟩
 obtain rfl := hd47_0.v_out
 clear hd47_0
 obtain rfl := hd47_1.v_out
 clear hd47_1
 obtain rfl := hd47_2.v_out
 clear hd47_2
 obtain rfl := hd47_3.v_out
 clear hd47_3
 obtain ⟨p48, c48, hv48, hc48⟩ := hd47_4.ns_shape; subst hv48
 intro Hz
 have m48 := m47.dat 110 rfl (hd47_4.cast (fun _ h => (free_add rfl h))); clear m47 hd47_4
 revert Hz
 obtain rfl := hd47_5.v_out
 clear hd47_5
 obtain rfl := hd47_6.v_out
 clear hd47_6
 obtain rfl := hd47_7.v_out
 clear hd47_7
 obtain rfl := hd47_8.v_out
 clear hd47_8
 obtain ⟨p49, c49, hv49, hc49⟩ := hd47_9.ns_shape; subst hv49
 intro Hz
 have m49 := m48.dat 111 rfl (hd47_9.cast (fun _ h => (free_add rfl (free_add rfl h)))); clear m48 hd47_9
 revert Hz
 obtain ⟨p50, c50, hv50, hc50⟩ := hd47_10.l_shape; subst hv50
 intro Hz
 have m50 := m49.dat 112 rfl (hd47_10.cast (fun _ h => (free_add rfl (free_add rfl (free_add rfl h))))); clear m49 hd47_10
 obtain ⟨b51, o51, vs51, hp51, hR51, ho51, m51⟩ := m50.openR (i := 34) rfl (0) (r := [.v (.int .i64 0), .v (.int .i64 3), .v (.int .i64 1), .v (.int .i64 pe), .ns .i64 pl9, .v (.int .i64 0), .v (.int .i64 0), .v (.bool false), .v (.int .i64 0), .ns .i64 [], .l 2 ([((1 : Int), [((0 : Int), [(120 : Int)])])].map wrD)]) rfl 113 rfl
 revert Hz
 cases hp51; clear m50 ho51
 rcases hR51 with _ | ⟨hd51_0, _ | ⟨hd51_1, _ | ⟨hd51_2, _ | ⟨hd51_3, _ | ⟨hd51_4, _ | ⟨hd51_5, _ | ⟨hd51_6, _ | ⟨hd51_7, _ | ⟨hd51_8, _ | ⟨hd51_9, _ | ⟨hd51_10, _ | _⟩⟩⟩⟩⟩⟩⟩⟩⟩⟩⟩
 obtain rfl := hd51_0.v_out
 clear hd51_0
 obtain rfl := hd51_1.v_out
 clear hd51_1
 obtain rfl := hd51_2.v_out
 clear hd51_2
 obtain rfl := hd51_3.v_out
 clear hd51_3
 obtain ⟨p52, c52, hv52, hc52⟩ := hd51_4.ns_shape; subst hv52
 intro Hz
 have m52 := m51.dat 114 rfl (hd51_4.cast (fun _ h => (free_add rfl h))); clear m51 hd51_4
 revert Hz
 obtain rfl := hd51_5.v_out
 clear hd51_5
 obtain rfl := hd51_6.v_out
 clear hd51_6
 obtain rfl := hd51_7.v_out
 clear hd51_7
 obtain rfl := hd51_8.v_out
 clear hd51_8
 obtain ⟨p53, c53, hv53, hc53⟩ := hd51_9.ns_shape; subst hv53
 intro Hz
 have m53 := m52.dat 115 rfl (hd51_9.cast (fun _ h => (free_add rfl (free_add rfl h)))); clear m52 hd51_9
 revert Hz
 obtain ⟨p54, c54, hv54, hc54⟩ := hd51_10.l_shape; subst hv54
 intro Hz
 have m54 := m53.dat 116 rfl (hd51_10.cast (fun _ h => (free_add rfl (free_add rfl (free_add rfl h))))); clear m53 hd51_10
 obtain ⟨b55, o55, vs55, hp55, hR55, ho55, m55⟩ := m54.openR (i := 34) rfl (0) (r := [.v (.int .i64 0), .v (.int .i64 3), .v (.int .i64 1), .v (.int .i64 pe), .ns .i64 pl9, .v (.int .i64 0), .v (.int .i64 0), .v (.bool false), .v (.int .i64 0), .ns .i64 [], .l 2 ([((1 : Int), [((0 : Int), [(120 : Int)])])].map wrD)]) rfl 117 rfl
 revert Hz
 cases hp55; clear m54 ho55
 rcases hR55 with _ | ⟨hd55_0, _ | ⟨hd55_1, _ | ⟨hd55_2, _ | ⟨hd55_3, _ | ⟨hd55_4, _ | ⟨hd55_5, _ | ⟨hd55_6, _ | ⟨hd55_7, _ | ⟨hd55_8, _ | ⟨hd55_9, _ | ⟨hd55_10, _ | _⟩⟩⟩⟩⟩⟩⟩⟩⟩⟩⟩
 obtain rfl := hd55_0.v_out
 clear hd55_0
 obtain rfl := hd55_1.v_out
 clear hd55_1
 obtain rfl := hd55_2.v_out
 clear hd55_2
 obtain rfl := hd55_3.v_out
 clear hd55_3
 obtain ⟨p56, c56, hv56, hc56⟩ := hd55_4.ns_shape; subst hv56
 intro Hz
 have m56 := m55.dat 118 rfl (hd55_4.cast (fun _ h => (free_add rfl h))); clear m55 hd55_4
 revert Hz
 obtain rfl := hd55_5.v_out
 clear hd55_5
 obtain rfl := hd55_6.v_out
 clear hd55_6
 obtain rfl := hd55_7.v_out
 clear hd55_7
 obtain rfl := hd55_8.v_out
 clear hd55_8
 obtain ⟨p57, c57, hv57, hc57⟩ := hd55_9.ns_shape; subst hv57
 intro Hz
 have m57 := m56.dat 119 rfl (hd55_9.cast (fun _ h => (free_add rfl (free_add rfl h)))); clear m56 hd55_9
 revert Hz
 obtain ⟨p58, c58, hv58, hc58⟩ := hd55_10.l_shape; subst hv58
 intro Hz
 have m58 := m57.dat 120 rfl (hd55_10.cast (fun _ h => (free_add rfl (free_add rfl (free_add rfl h))))); clear m57 hd55_10
 obtain ⟨b59, o59, vs59, hp59, hR59, ho59, m59⟩ := m58.openR (i := 34) rfl (0) (r := [.v (.int .i64 0), .v (.int .i64 3), .v (.int .i64 1), .v (.int .i64 pe), .ns .i64 pl9, .v (.int .i64 0), .v (.int .i64 0), .v (.bool false), .v (.int .i64 0), .ns .i64 [], .l 2 ([((1 : Int), [((0 : Int), [(120 : Int)])])].map wrD)]) rfl 121 rfl
 revert Hz
 cases hp59; clear m58 ho59
 rcases hR59 with _ | ⟨hd59_0, _ | ⟨hd59_1, _ | ⟨hd59_2, _ | ⟨hd59_3, _ | ⟨hd59_4, _ | ⟨hd59_5, _ | ⟨hd59_6, _ | ⟨hd59_7, _ | ⟨hd59_8, _ | ⟨hd59_9, _ | ⟨hd59_10, _ | _⟩⟩⟩⟩⟩⟩⟩⟩⟩⟩⟩
 obtain rfl := hd59_0.v_out
 clear hd59_0
 obtain rfl := hd59_1.v_out
 clear hd59_1
 obtain rfl := hd59_2.v_out
 clear hd59_2
 obtain rfl := hd59_3.v_out
 clear hd59_3
 obtain ⟨p60, c60, hv60, hc60⟩ := hd59_4.ns_shape; subst hv60
 intro Hz
 have m60 := m59.dat 122 rfl (hd59_4.cast (fun _ h => (free_add rfl h))); clear m59 hd59_4
 revert Hz
 obtain rfl := hd59_5.v_out
 clear hd59_5
 obtain rfl := hd59_6.v_out
 clear hd59_6
 obtain rfl := hd59_7.v_out
 clear hd59_7
 obtain rfl := hd59_8.v_out
 clear hd59_8
 obtain ⟨p61, c61, hv61, hc61⟩ := hd59_9.ns_shape; subst hv61
 intro Hz
 have m61 := m60.dat 123 rfl (hd59_9.cast (fun _ h => (free_add rfl (free_add rfl h)))); clear m60 hd59_9
 revert Hz
 obtain ⟨p62, c62, hv62, hc62⟩ := hd59_10.l_shape; subst hv62
 intro Hz
 have m62 := m61.dat 124 rfl (hd59_10.cast (fun _ h => (free_add rfl (free_add rfl (free_add rfl h))))); clear m61 hd59_10
 obtain ⟨b63, o63, vs63, hp63, hR63, ho63, m63⟩ := m62.openR (i := 34) rfl (0) (r := [.v (.int .i64 0), .v (.int .i64 3), .v (.int .i64 1), .v (.int .i64 pe), .ns .i64 pl9, .v (.int .i64 0), .v (.int .i64 0), .v (.bool false), .v (.int .i64 0), .ns .i64 [], .l 2 ([((1 : Int), [((0 : Int), [(120 : Int)])])].map wrD)]) rfl 125 rfl
 revert Hz
 cases hp63; clear m62 ho63
 rcases hR63 with _ | ⟨hd63_0, _ | ⟨hd63_1, _ | ⟨hd63_2, _ | ⟨hd63_3, _ | ⟨hd63_4, _ | ⟨hd63_5, _ | ⟨hd63_6, _ | ⟨hd63_7, _ | ⟨hd63_8, _ | ⟨hd63_9, _ | ⟨hd63_10, _ | _⟩⟩⟩⟩⟩⟩⟩⟩⟩⟩⟩
 obtain rfl := hd63_0.v_out
 clear hd63_0
 obtain rfl := hd63_1.v_out
 clear hd63_1
 obtain rfl := hd63_2.v_out
 clear hd63_2
 obtain rfl := hd63_3.v_out
 clear hd63_3
 obtain ⟨p64, c64, hv64, hc64⟩ := hd63_4.ns_shape; subst hv64
 intro Hz
 have m64 := m63.dat 126 rfl (hd63_4.cast (fun _ h => (free_add rfl h))); clear m63 hd63_4
 revert Hz
 obtain rfl := hd63_5.v_out
 clear hd63_5
 obtain rfl := hd63_6.v_out
 clear hd63_6
 obtain rfl := hd63_7.v_out
 clear hd63_7
 obtain rfl := hd63_8.v_out
 clear hd63_8
 obtain ⟨p65, c65, hv65, hc65⟩ := hd63_9.ns_shape; subst hv65
 intro Hz
 have m65 := m64.dat 127 rfl (hd63_9.cast (fun _ h => (free_add rfl (free_add rfl h)))); clear m64 hd63_9
 revert Hz
 obtain ⟨p66, c66, hv66, hc66⟩ := hd63_10.l_shape; subst hv66
 intro Hz
 have m66 := m65.dat 128 rfl (hd63_10.cast (fun _ h => (free_add rfl (free_add rfl (free_add rfl h))))); clear m65 hd63_10
 obtain ⟨b67, o67, vs67, hp67, hR67, ho67, m67⟩ := m66.openR (i := 34) rfl (0) (r := [.v (.int .i64 0), .v (.int .i64 3), .v (.int .i64 1), .v (.int .i64 pe), .ns .i64 pl9, .v (.int .i64 0), .v (.int .i64 0), .v (.bool false), .v (.int .i64 0), .ns .i64 [], .l 2 ([((1 : Int), [((0 : Int), [(120 : Int)])])].map wrD)]) rfl 129 rfl
 revert Hz
 cases hp67; clear m66 ho67
 rcases hR67 with _ | ⟨hd67_0, _ | ⟨hd67_1, _ | ⟨hd67_2, _ | ⟨hd67_3, _ | ⟨hd67_4, _ | ⟨hd67_5, _ | ⟨hd67_6, _ | ⟨hd67_7, _ | ⟨hd67_8, _ | ⟨hd67_9, _ | ⟨hd67_10, _ | _⟩⟩⟩⟩⟩⟩⟩⟩⟩⟩⟩
 obtain rfl := hd67_0.v_out
 clear hd67_0
 obtain rfl := hd67_1.v_out
 clear hd67_1
 obtain rfl := hd67_2.v_out
 clear hd67_2
 obtain rfl := hd67_3.v_out
 clear hd67_3
 obtain ⟨p68, c68, hv68, hc68⟩ := hd67_4.ns_shape; subst hv68
 intro Hz
 have m68 := m67.dat 130 rfl (hd67_4.cast (fun _ h => (free_add rfl h))); clear m67 hd67_4
 revert Hz
 obtain rfl := hd67_5.v_out
 clear hd67_5
 obtain rfl := hd67_6.v_out
 clear hd67_6
 obtain rfl := hd67_7.v_out
 clear hd67_7
 obtain rfl := hd67_8.v_out
 clear hd67_8
 obtain ⟨p69, c69, hv69, hc69⟩ := hd67_9.ns_shape; subst hv69
 intro Hz
 have m69 := m68.dat 131 rfl (hd67_9.cast (fun _ h => (free_add rfl (free_add rfl h)))); clear m68 hd67_9
 revert Hz
 obtain ⟨p70, c70, hv70, hc70⟩ := hd67_10.l_shape; subst hv70
 intro Hz
 have m70 := m69.dat 132 rfl (hd67_10.cast (fun _ h => (free_add rfl (free_add rfl (free_add rfl h))))); clear m69 hd67_10
 have m71 := m70.oz [30, 31, 32, 34, 100, 101, 102, 103, 104, 105, 106, 107, 108, 109, 110, 111, 112, 113, 114, 115, 116, 117, 118, 119, 120, 121, 122, 123, 124, 125, 126, 127, 128, 129, 130, 131, 132]
 refine region_p 49 (B := [(30, _), (31, _), (32, _), (34, _), (100, _), (101, _), (102, _), (103, _), (104, _), (105, _), (106, _), (107, _), (108, _), (109, _), (110, _), (111, _), (112, _), (113, _), (114, _), (115, _), (116, _), (117, _), (118, _), (119, _), (120, _), (121, _), (122, _), (123, _), (124, _), (125, _), (126, _), (127, _), (128, _), (129, _), (130, _), (131, _), (132, _)]) (m71.to ⟨il, il, il, il, il, il, il, il, il, il, il, il, il, il, il, il, il, il, il, il, il, il, il, il, il, il, il, il, il, il, il, il, il, il, il, il, il, trivial⟩) m71 (by kernel_rfl) (fun w72 hP72 m72 => ?_); clear m71
 refine goR hP72 [0, 2, 3, 4] [0, 4] 4 0 29 Hz (m72.to ⟨il, il, il, il, il, il, il, il, il, il, il, il, il, il, il, il, il, il, il, il, il, il, il, il, il, il, il, il, il, il, il, il, il, il, il, il, il, trivial⟩) (.loadBR hh (i := 30) rfl rfl U76 rfl fct16 (by simp) (by dsimp only [List.drop, List.take] <;> rfl) <| .move rfl <| .p (fun _ _ h_ => y_idx h_ rfl rfl U30 fct13 (0) rfl (by decide)) <| .loadCR hh (i := 101) rfl rfl U51 rfl fct13 .nil) fun Az Hz => ?_
 refine so 1 ?_
 refine e_litR Hz m72 133 (mm := 18) rfl (.cons rfl rfl (.cons (.v _) (.cons (.v _) (.cons (.v _) (.cons (.v _) (.cons (.v _) (.cons (.v _) (.cons (m72.rd (i := 31) rfl) (.cons (.v _) (.cons (.v _) (.cons (.v _) (.cons (m72.rd (i := 32) rfl) (.cons (.v _) (.cons (.v _) (.cons (.v _) (.cons (.v _) (.cons (.v _) (.cons (.v _) (.cons (Rd.nilN _ _ .u8 _) .nil)))))))))))))))))) .nil) U74 fct37 rfl rfl rfl rfl rfl fun g77 Az w78 Hz m78 => ?_
 refine ⟨m78.to ⟨il, il, il, il, il, il, il, il, il, il, il, il, il, il, il, il, il, il, il, il, il, il, il, il, il, il, il, il, il, il, il, il, il, il, il, il, il, trivial⟩, ?_⟩
 have m79 := m78.freezeR 133 rfl
 refine so 5 ?_
 refine ecb Hz Tryz.func38 rfl m79 (ordT [T1k] (V1k pe pl9) _ (ordK1 pe pl9) _ _ _ _ _ _ _ _ _ _ _ _ _ ((m79.rd (i := 133) rfl).any) ((m79.rd (i := 104) rfl).any) tk1 (vkB pe pl9) (by decide) (vkL pe pl9)) fun Az w80 Hz m81 => ?_
 refine ⟨m81.to ⟨il, il, il, il, il, il, il, il, il, il, il, il, il, il, il, il, il, il, il, il, il, il, il, il, il, il, il, il, il, il, il, il, il, il, il, il, il, trivial⟩, ?_⟩
 refine goR hP72 [6, 7, 9, 10, 11] [7, 11] 5 63 3839 Hz (m81.to ⟨il, il, il, il, il, il, il, il, il, il, il, il, il, il, il, il, il, il, il, il, il, il, il, il, il, il, il, il, il, il, il, il, il, il, il, il, il, trivial⟩) (.move rfl <| .loadBR hh (i := 100) rfl rfl U76 rfl fct16 (by simp) (by dsimp only [List.drop, List.take] <;> rfl) <| .move rfl <| .p (fun _ _ h_ => y_idx h_ rfl rfl U30 fct13 (0) rfl (by decide)) <| .loadCR hh (i := 105) rfl rfl U51 rfl fct13 .nil) fun Az Hz => ?_
 refine stepE_only 8 rfl (by kernel_rfl) (wantedG Hz rfl rfl rfl rfl) (fun K hK => ?_)
 refine e_litR Hz m81 134 (mm := 18) rfl (.cons rfl rfl (.cons (.v _) (.cons (.v _) (.cons (.v _) (.cons (.v _) (.cons (.v _) (.cons (.v _) (.cons (m81.rd (i := 31) rfl) (.cons (.v _) (.cons (.v _) (.cons (.v _) (.cons (m81.rd (i := 32) rfl) (.cons (.v _) (.cons (.v _) (.cons (.v _) (.cons (.v _) (.cons (.v _) (.cons (.v _) (.cons (Rd.nilN _ _ .u8 _) .nil)))))))))))))))))) .nil) U74 fct37 rfl rfl rfl rfl rfl ?_
 intro g88 Az w89 Hz m89
 refine hK _ _ (m89.to ⟨il, il, il, il, il, il, il, il, il, il, il, il, il, il, il, il, il, il, il, il, il, il, il, il, il, il, il, il, il, il, il, il, il, il, il, il, il, trivial⟩) ?_; clear hK K
 have m90 := m89.freezeR 134 rfl
 refine stepE_only 12 rfl (by kernel_rfl) (wantedG Hz rfl rfl rfl rfl) (fun K hK => ?_)
 refine e_call Hz Tryz.func38 rfl rfl rfl rfl (ordT [T2k] (V1k pe pl9) _ (ordK2 pe pl9) _ _ _ _ _ _ _ _ _ _ _ _ _ ((m90.rd (i := 134) rfl).any) ((m90.rd (i := 108) rfl).any) tk2 (vkB pe pl9) (by decide) (vkL pe pl9)) ?_
 rintro e w91 ⟨rfl, hb91⟩
 have m92 := m90.later hb91
 refine ⟨_, rfl, ?_⟩; intro Az Hz
 refine hK _ _ (m92.to ⟨il, il, il, il, il, il, il, il, il, il, il, il, il, il, il, il, il, il, il, il, il, il, il, il, il, il, il, il, il, il, il, il, il, il, il, il, il, trivial⟩) ?_; clear hK K
 refine goR hP72 [13, 14, 15, 16, 17, 18] [18] 6 8191 524287 Hz (m92.to ⟨il, il, il, il, il, il, il, il, il, il, il, il, il, il, il, il, il, il, il, il, il, il, il, il, il, il, il, il, il, il, il, il, il, il, il, il, il, trivial⟩) (.not rfl <| .pickT rfl rfl <| .move rfl <| .move rfl <| .p (fun _ _ h_ => y_idx h_ rfl rfl U30 fct13 (0) rfl (by decide)) <| .loadCR hh (i := 109) rfl rfl U51 rfl fct13 .nil) fun Az Hz => ?_
 refine stepE_only 19 rfl (by kernel_rfl) (wantedG Hz rfl rfl rfl rfl) (fun K hK => ?_)
 refine e_call Hz Tryz.func38 rfl rfl rfl rfl (ordT [] (V1k pe pl9) _ (ordK3 pe pl9) _ _ _ _ _ _ _ _ _ _ _ _ _ (.l0 none 0 18) ((m92.rd (i := 112) rfl).any) tk0 (vkB pe pl9) (Nat.zero_le _) (vkL pe pl9)) ?_
 rintro e w100 ⟨rfl, hb100⟩
 have m101 := m92.later hb100
 refine ⟨_, rfl, ?_⟩; intro Az Hz
 refine hK _ _ (m101.to ⟨il, il, il, il, il, il, il, il, il, il, il, il, il, il, il, il, il, il, il, il, il, il, il, il, il, il, il, il, il, il, il, il, il, il, il, il, il, trivial⟩) ?_; clear hK K
 refine goR hP72 [20, 21, 22, 23, 24, 25, 26, 27, 28] [25, 28] 9 1048575 536870911 Hz (m101.to ⟨il, il, il, il, il, il, il, il, il, il, il, il, il, il, il, il, il, il, il, il, il, il, il, il, il, il, il, il, il, il, il, il, il, il, il, il, il, trivial⟩) (.not rfl <| .pickT rfl rfl <| .move rfl <| .move rfl <| .p (fun _ _ h_ => y_idx h_ rfl rfl U30 fct13 (0) rfl (by decide)) <| .loadCR hh (i := 113) rfl rfl U51 rfl fct13 <| .move rfl <| .p (fun _ _ h_ => y_idx h_ rfl rfl U30 fct13 (0) rfl (by decide)) <| .loadCR hh (i := 117) rfl rfl U51 rfl fct13 .nil) fun Az Hz => ?_
 refine stepE_only 29 rfl (by kernel_rfl) (wantedG Hz rfl rfl rfl rfl) (fun K hK => ?_)
 refine e_call Hz Tryz.func35 rfl rfl rfl rfl (sameT (V1k pe pl9) _ _ _ _ _ _ _ _ _ _ _ _ _ _ _ (v1kB hN) ((m101.rd (i := 114) rfl).any) ((m101.rd (i := 115) rfl).any) ((m101.rd (i := 116) rfl).any) ((m101.rd (i := 118) rfl).any) ((m101.rd (i := 119) rfl).any) ((m101.rd (i := 120) rfl).any)) ?_
 rintro e w112 ⟨rfl, hb112⟩
 have m113 := m101.later hb112
 refine ⟨_, rfl, ?_⟩; intro Az Hz
 refine hK _ _ (m113.to ⟨il, il, il, il, il, il, il, il, il, il, il, il, il, il, il, il, il, il, il, il, il, il, il, il, il, il, il, il, il, il, il, il, il, il, il, il, il, trivial⟩) ?_; clear hK K
 refine goR hP72 [30, 31, 32, 33, 34, 35, 36, 37] [34, 37] 8 1073741823 274877906943 Hz (m113.to ⟨il, il, il, il, il, il, il, il, il, il, il, il, il, il, il, il, il, il, il, il, il, il, il, il, il, il, il, il, il, il, il, il, il, il, il, il, il, trivial⟩) (.pickT rfl rfl <| .move rfl <| .move rfl <| .p (fun _ _ h_ => y_idx h_ rfl rfl U30 fct13 (0) rfl (by decide)) <| .loadCR hh (i := 121) rfl rfl U51 rfl fct13 <| .move rfl <| .p (fun _ _ h_ => y_idx h_ rfl rfl U30 fct13 (0) rfl (by decide)) <| .loadCR hh (i := 125) rfl rfl U51 rfl fct13 .nil) fun Az Hz => ?_
 refine stepE_only 38 rfl (by kernel_rfl) (wantedG Hz rfl rfl rfl rfl) (fun K hK => ?_)
 refine e_call Hz Tryz.func36 rfl rfl rfl rfl (preT (V1k pe pl9) _ _ _ _ _ _ _ _ _ _ _ _ _ _ _ (v1kB hN) ((m113.rd (i := 122) rfl).any) ((m113.rd (i := 124) rfl).any) ((m113.rd (i := 126) rfl).any) ((m113.rd (i := 128) rfl).any)) ?_
 rintro e w123 ⟨rfl, hb123⟩
 have m124 := m113.later hb123
 refine ⟨_, rfl, ?_⟩; intro Az Hz
 refine hK _ _ (m124.to ⟨il, il, il, il, il, il, il, il, il, il, il, il, il, il, il, il, il, il, il, il, il, il, il, il, il, il, il, il, il, il, il, il, il, il, il, il, il, trivial⟩) ?_; clear hK K
 refine goR hP72 [39, 40, 41, 42, 43, 44] [43] 6 549755813887 35184372088831 Hz (m124.to ⟨il, il, il, il, il, il, il, il, il, il, il, il, il, il, il, il, il, il, il, il, il, il, il, il, il, il, il, il, il, il, il, il, il, il, il, il, il, trivial⟩) (.pickT rfl rfl <| .move rfl <| .move rfl <| .p (fun _ _ h_ => y_idx h_ rfl rfl U30 fct13 (0) rfl (by decide)) <| .loadCR hh (i := 129) rfl rfl U51 rfl fct13 <| .build rfl fct14 fl51kn6 rfl (by dsimp only [setL, List.set] <;> rfl) .nil) fun Az Hz => ?_
 refine stepE_only 45 rfl (by kernel_rfl) (wantedG Hz rfl rfl rfl rfl) (fun K hK => ?_)
 refine e_call Hz Tryz.func36 rfl rfl rfl rfl (preF pe pl9 _ _ _ _ _ _ _ _ (v1kB hN) ((m124.rd (i := 130) rfl).any) ((m124.rd (i := 132) rfl).any)) ?_
 rintro e w132 ⟨rfl, hb132⟩
 have m133 := m124.later hb132
 refine ⟨_, rfl, ?_⟩; intro Az Hz
 refine hK _ _ (m133.to ⟨il, il, il, il, il, il, il, il, il, il, il, il, il, il, il, il, il, il, il, il, il, il, il, il, il, il, il, il, il, il, il, il, il, il, il, il, il, trivial⟩) ?_; clear hK K
 refine goA hP72 [46, 47, 48] 3 70368744177663 562949953421311 Hz (m133.to ⟨il, il, il, il, il, il, il, il, il, il, il, il, il, il, il, il, il, il, il, il, il, il, il, il, il, il, il, il, il, il, il, il, il, il, il, il, il, trivial⟩) (.not rfl <| .pickT rfl rfl <| .assign rfl .nil) fun Az Hz => ?_
 refine wpAnyE_done (by kernel_rfl) ?_ _
 refine hK6 _ _ ?_
 refine rt1 Hz ?_
 exact ⟨rfl, m133.below⟩
end
end Go.Proofs.YtkehgingagggaaaGreat.K
